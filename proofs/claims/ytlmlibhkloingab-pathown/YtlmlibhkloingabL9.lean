/- What the proof needs, part 9. -/
import Derived.Test.YtlmlibhkloingabL8
/- The reference's From, Any; within, Arcs of watershedlaw6. -/
namespace Go.Proofs.Ytlmlibhkloingab
open Go Go.RowKit

set_option maxRecDepth 100000 in
set_option maxHeartbeats 2000000 in
theorem rFrom_any (N : Nat) (L : List Sp.Arc) (s : Nat) (lv : Value) (w : World) (hl : ArcsI w lv L) (hS : Sp.Snd N L) (hs : s < N) (hN : N ≤ 60) (hex : ∃ D, Sp.Short 1152921504606846976 L s N D ∧ ∀ v, D v ≠ 1152921504606846976 → D v < 1152921504606846976) :
    Calls Try.prog 15 #[.int .i64 (N : Int), lv, .int .i64 (s : Int)] w fun e w' => ∃ G D, e = .returned (.slice (some ⟨G, 0, none⟩) N N) ∧ w.heap.size ≤ G ∧ RowAt w' G N D ∧ Below w.heap.size w w' ∧ Sp.Short 1152921504606846976 L s N D := by
  have HC := hide (rfrom0_any N L s lv w hl hS hs hN)
  have HX := hide hex
  obtain ⟨la, lc, rfl, -⟩ := hl.form
  clear hl hS hex
  go_enter Try.func15, Try.ntmps15
  go_wp2_with fail
  go_at_call 25
  refine (unhide HC).mono ?_
  rintro e w2 ⟨G, D, ag, rfl, hG, hr2, hb2, h1, h2⟩
  have HQ : Hid (RowAt w2 G N D ∧ Below w.heap.size w w2 ∧ Sp.Short 1152921504606846976 L s N D) := hide ⟨hr2, hb2, h1 (by
    cases ag with
    | false => rfl
    | true => exact absurd (unhide HX) (h2 rfl))⟩
  clear hr2 hb2 h1 h2 HC
  go_wp2
  go_ret
  exact ⟨G, D, rfl, hG, (unhide HQ).1, (unhide HQ).2.1, (unhide HQ).2.2⟩
set_option maxRecDepth 100000 in
set_option maxHeartbeats 1000000 in
theorem within6_any (a n : Int) (w : World) (hn : 0 < n) (hn1 : n ≤ 4611686018427387904) :
    Calls Try.prog 8 #[.int .i64 a, .int .i64 n] w fun e w' => e = .returned (.int .i64 (a % n)) ∧ w' = w := by
  have h0 : 0 ≤ a % n := Int.emod_nonneg a (by omega)
  have h1 : a % n < n := Int.emod_lt_of_pos a hn
  rcases tmod_casesH a n hn with ⟨ha, hb⟩ | ⟨ha, hb⟩
  · have hc : -n ≤ a.tmod n := by omega
    have Hb := hide hb; clear hb h0 h1
    go_enter Try.func8, Try.ntmps8
    go_wp2
    go_ret
    exact ⟨ret_intH (unhide Hb), rfl⟩
  · have Hb := hide hb; clear hb h0 h1
    go_enter Try.func8, Try.ntmps8
    go_wp2
    go_ret
    exact ⟨ret_intH (unhide Hb), rfl⟩
/-- An arc, of a number. -/
def Sp.arcOf (n : Nat) (k low : Int) : Sp.Arc := ⟨(k % (n : Int)).toNat, (k / 31 % (n : Int)).toNat, if k / 9000 % 13 = 0 then k / 117000 % 1048576 - low else k / 1000 % 9 - low⟩
def Sp.arcsOf (n : Nat) (ns : List Int) (low : Int) (m : Nat) : List Sp.Arc := (ns.take m).map fun z => Sp.arcOf n (z % 1125899906842624) low
theorem Sp.arcsOf_snd {n : Nat} (hn : 0 < n) (ns : List Int) {low : Int} (h0 : 0 ≤ low) (h4 : low ≤ 8) : Sp.Snd n (Sp.arcsOf n ns low 50) := by
  refine ⟨by unfold Sp.arcsOf; rw [List.length_map]; have := List.length_take_le 50 ns; omega, fun a ha => ?_⟩
  obtain ⟨z, -, rfl⟩ := List.mem_map.1 ha
  unfold Sp.arcOf
  generalize z % 1125899906842624 = k
  have h1 := Int.emod_nonneg k (b := (n : Int)) (by omega)
  have h2 := Int.emod_lt_of_pos k (b := (n : Int)) (by omega)
  have h3 := Int.emod_nonneg (k / 31) (b := (n : Int)) (by omega)
  have h5 := Int.emod_lt_of_pos (k / 31) (b := (n : Int)) (by omega)
  refine ⟨by show (k % (n : Int)).toNat < n; omega, by show (k / 31 % (n : Int)).toNat < n; omega, ?_, ?_⟩ <;> (show _ ≤ _; dsimp only; split <;> omega)
theorem Sp.arcsOf_pos (n : Nat) (ns : List Int) (m : Nat) : ∀ a ∈ Sp.arcsOf n ns 0 m, 0 ≤ a.l := fun a ha => by
  obtain ⟨z, -, rfl⟩ := List.mem_map.1 ha
  unfold Sp.arcOf
  dsimp only
  split <;> omega
end Go.Proofs.Ytlmlibhkloingab


/- watershedlaw6: Arcs. -/
namespace Go.Proofs.Ytlmlibhkloingab
open Go Go.RowKit

theorem arc_set2 {w : World} {b : Nat} {a c d : Value} (h : w.heap[b]? = some (.cells #[a, c, d] 28)) (x : Value) : (w.setCell ⟨b, 2, none⟩ x).heap[b]? = some (.cells #[a, c, x] 28) := by
  simp only [World.setCell, Array.getElem?_modify, if_pos, h]; rfl
theorem arc_at {w : World} {b : Nat} {u v x : Value} (h : w.heap[b]? = some (.cells #[u, v, x] 28)) : w.cell? ⟨b, 0, none⟩ = some u ∧ w.cell? ⟨b, 1, none⟩ = some v ∧ w.cell? ⟨b, 2, none⟩ = some x ∧ ∀ i, w.frozen? ⟨b, i, none⟩ = false := by
  refine ⟨?_, ?_, ?_, fun i => ?_⟩
  · simp only [World.cell?, h]; rfl
  · simp only [World.cell?, h]; rfl
  · simp only [World.cell?, h]; rfl
  · simp only [World.frozen?, h]; simp
theorem Sp.arcsOf_succ (n : Nat) (ns : List Int) (low : Int) {i : Nat} (hi : i < ns.length) : Sp.arcsOf n ns low (i + 1) = Sp.arcsOf n ns low i ++ [Sp.arcOf n (ns.getD i 0 % 1125899906842624) low] := by
  unfold Sp.arcsOf
  rw [List.take_succ_eq_append_getElem hi, List.map_append, List.getD_eq_getElem?_getD, List.getElem?_eq_getElem hi]; rfl
theorem Sp.arcsOf_len (n : Nat) (ns : List Int) (low : Int) (i : Nat) : (Sp.arcsOf n ns low i).length = min i ns.length := by
  unfold Sp.arcsOf; rw [List.length_map, List.length_take]
theorem Sp.arcsOf_all (n : Nat) (ns : List Int) (low : Int) (h : ns.length ≤ 50) : Sp.arcsOf n ns low ns.length = Sp.arcsOf n ns low 50 := by
  unfold Sp.arcsOf; rw [List.take_of_length_le (Nat.le_refl _), List.take_of_length_le h]
set_option maxRecDepth 100000 in
set_option maxHeartbeats 8000000 in
theorem arcs_any (n : Nat) (ns : List Int) (low : Int) (nv : Value) (w : World) (hv : Ints w nv ns) (hn : 0 < n) (hn2 : n ≤ 60) (hl0 : 0 ≤ low) (hl8 : low ≤ 8) :
    Calls Try.prog 9 #[.int .i64 (n : Int), nv, .int .i64 low] w fun e w' => ∃ rv, e = .returned rv ∧ OwnA w' w.heap.size rv (Sp.arcsOf n ns low 50) ∧ Below w.heap.size w w' := by
  obtain ⟨na, nc, rfl, hnc, hnm, HN⟩ := hv.allA
  have hmax : ns.length ≤ 9223372036854775807 := Nat.le_trans (Nat.le_trans hnc hnm) (by unfold maxLen; omega)
  have HS := hide (fun (i : Nat) (hi : i < ns.length) => Sp.arcsOf_succ n ns low hi)
  have HLn := hide (Sp.arcsOf_len n ns low)
  have HAl : Hid (ns.length ≤ 50 → Sp.arcsOf n ns low ns.length = Sp.arcsOf n ns low 50) := hide (Sp.arcsOf_all n ns low)
  obtain ⟨P, hP⟩ : ∃ P : Ending → World → Prop, P = fun e w' => ∃ rv, e = .returned rv ∧ OwnA w' w.heap.size rv (Sp.arcsOf n ns low 50) ∧ Below w.heap.size w w' := ⟨_, rfl⟩
  rw [← hP]
  have HP := hide hP
  have HI0 : Hid (Below w.heap.size w w ∧ OwnA w w.heap.size (.slice none 0 0) (Sp.arcsOf n ns low 0)) := hide ⟨Below.refl _ _, OwnA.nil _ _⟩
  have hnI : 0 < (n : Int) := by omega
  have hn0 : ¬ n = 0 := by omega
  have hnZ : ¬ (n : Int) = 0 := by omega
  clear hP hv hnc hnm
  go_enter Try.func9, Try.ntmps9
  go_wp2
  go_loopg [7, 8] 50 (fun g s7 s8 wr => ∃ i : Nat, i + g = 50 ∧ i ≤ ns.length ∧ s8 = .int .i64 (i : Int) ∧ Hid (Below w.heap.size w wr ∧ OwnA wr w.heap.size s7 (Sp.arcsOf n ns low i)))
  case atStart => exact ⟨0, by omega, by omega, rfl, HI0⟩
  case round =>
    clear HI0
    obtain ⟨i, hig, hin, rfl, HI⟩ := hrel
    have hli := unhide HLn i
    obtain ⟨ra, rc, hrv, -⟩ := (unhide HI).2.arcs.form
    rw [hli, Nat.min_eq_left hin] at hrv
    subst hrv
    by_cases hi : i < ns.length
    · have hiI : (i : Int) < (ns.length : Int) := by omega
      cases gk with
      | zero =>
        obtain rfl : i = 50 := by omega
        have hi50 : ¬ ((50 : Nat) : Int) < 50 := by omega
        go_wp2
        rw [unhide HP]
        exact ⟨_, rfl, (unhide HI).2, (unhide HI).1⟩
      | succ g' =>
        have hi50 : (i : Int) < 50 := by omega
        obtain ⟨b, o, rfl, hb, hcx⟩ := unhide HN i hi
        have c1 := hcx wr (unhide HI).1
        have HSi := unhide HS i hi
        have HV := hide (within6_any (ns.getD i 0) 1125899906842624 wr (by omega) (by omega))
        have hk0 : 0 ≤ ns.getD i 0 % 1125899906842624 := Int.emod_nonneg _ (by omega)
        have hk1 : ns.getD i 0 % 1125899906842624 < 1125899906842624 := Int.emod_lt_of_pos _ (by omega)
        generalize ns.getD i 0 = z at *
        generalize z % 1125899906842624 = k at *
        obtain ⟨f, hf⟩ : ∃ f : Nat, (k % (n : Int)).toNat = f := ⟨_, rfl⟩
        obtain ⟨t, ht⟩ : ∃ t : Nat, (k / 31 % (n : Int)).toNat = t := ⟨_, rfl⟩
        have e1 : k.tmod (n : Int) = (f : Int) := by rw [Int.tmod_eq_emod_of_nonneg hk0, ← hf]; exact (Int.toNat_of_nonneg (Int.emod_nonneg _ (by omega))).symm
        have e2 : k.tdiv 31 = k / 31 := Int.tdiv_eq_ediv_of_nonneg hk0
        have e3 : (k / 31).tmod (n : Int) = (t : Int) := by rw [Int.tmod_eq_emod_of_nonneg (by omega), ← ht]; exact (Int.toNat_of_nonneg (Int.emod_nonneg _ (by omega))).symm
        have e4 : k.tdiv 1000 = k / 1000 := Int.tdiv_eq_ediv_of_nonneg hk0
        have e5 : (k / 1000).tmod 9 = k / 1000 % 9 := Int.tmod_eq_emod_of_nonneg (by omega)
        have e6 : k.tdiv 9000 = k / 9000 := Int.tdiv_eq_ediv_of_nonneg hk0
        have e7 : (k / 9000).tmod 13 = k / 9000 % 13 := Int.tmod_eq_emod_of_nonneg (by omega)
        have e8 : k.tdiv 117000 = k / 117000 := Int.tdiv_eq_ediv_of_nonneg hk0
        have e9 : (k / 117000).tmod 1048576 = k / 117000 % 1048576 := Int.tmod_eq_emod_of_nonneg (by omega)
        have b5 : 0 ≤ k / 1000 % 9 ∧ k / 1000 % 9 < 9 := by omega
        have b9 : 0 ≤ k / 117000 % 1048576 ∧ k / 117000 % 1048576 < 1048576 := by omega
        obtain ⟨lx, hlx⟩ : ∃ lx, lx = if k / 9000 % 13 = 0 then k / 117000 % 1048576 - low else k / 1000 % 9 - low := ⟨_, rfl⟩
        have hArc : Sp.arcOf n k low = ⟨f, t, lx⟩ := by unfold Sp.arcOf; rw [hf, ht, hlx]
        rw [hArc] at HSi
        have HSj := hide HSi
        have Hlx := hide hlx
        have w1 : 0 ≤ k / 31 ∧ k / 31 ≤ 1125899906842624 := by omega
        have w2 : 0 ≤ k / 1000 ∧ k / 1000 ≤ 1125899906842624 := by omega
        have w3 : 0 ≤ k / 9000 ∧ k / 9000 ≤ 1125899906842624 := by omega
        have w4 : 0 ≤ k / 117000 ∧ k / 117000 ≤ 1125899906842624 := by omega
        generalize k / 1000 % 9 = r9 at *
        generalize k / 9000 % 13 = r13 at *
        generalize k / 117000 % 1048576 = r17 at *
        generalize k / 31 = q31 at *
        generalize k / 1000 = q1000 at *
        generalize k / 9000 = q9000 at *
        generalize k / 117000 = q117 at *
        obtain ⟨w11, w12⟩ := w1
        obtain ⟨w21, w22⟩ := w2
        obtain ⟨w31, w32⟩ := w3
        obtain ⟨w41, w42⟩ := w4
        have hfN : 0 ≤ (f : Int) ∧ (f : Int) < (n : Int) := by have := Int.tmod_lt_of_pos k hnI; omega
        have htN : 0 ≤ (t : Int) ∧ (t : Int) < (n : Int) := by have := Int.tmod_lt_of_pos q31 hnI; omega
        obtain ⟨-, hfN⟩ := hfN
        obtain ⟨-, htN⟩ := htN
        obtain ⟨b51, b52⟩ := b5
        obtain ⟨b91, b92⟩ := b9
        have wq1 : IntKind.i64.wrap q31 = q31 := by rw [IntKind.wrap_i64]; omega
        have wq2 : IntKind.i64.wrap q1000 = q1000 := by rw [IntKind.wrap_i64]; omega
        have wq3 : IntKind.i64.wrap q9000 = q9000 := by rw [IntKind.wrap_i64]; omega
        have wq4 : IntKind.i64.wrap q117 = q117 := by rw [IntKind.wrap_i64]; omega
        have wq5 : IntKind.i64.wrap (r9 - low) = r9 - low := by rw [IntKind.wrap_i64]; omega
        have wq6 : IntKind.i64.wrap (r17 - low) = r17 - low := by rw [IntKind.wrap_i64]; omega
        clear hcx hf ht hArc HSi hlx
        go_wp2_with fail
        go_at_call 8
        refine (unhide HV).mono ?_
        rintro e w2 ⟨rfl, hw2⟩
        have hw2' := hw2.symm
        subst hw2'
        clear hw2 HV c1
        go_upto_region 6 with fail
        go_cut [10] (fun s10 w9 => ∃ wq wx, s10 = .pointer (some ⟨wq.heap.size, 0, none⟩) ∧ wx = w9 ∧ Hid (Below wr.heap.size wr wq ∧ wx = wq.alloc (.cells #[.int .i64 (f : Int), .int .i64 (t : Int), .int .i64 (r9 - low)] 28)))
        case first =>
          refine wp_region_G (fun w' => True) (fun _ => false) (by kernel_rfl) trivial (fun hHeld => ?_)
          have hbq := (Below.refl wr.heap.size wr).drew
          generalize wr.drew = wq at *
          refine wpAnyG_take (v := ?_) 0 (by rfl) (by kernel_rfl) (by kernel_rfl) (by kernel_rfl) (by kernel_rfl) (fun _ _ _ h => h) (Or.inl ⟨by rfl, ?_⟩) (by assumption) ?_
          rotate_left
          · (intro w' hSw; (try dsimp only at hSw); (try simp only [List.getElem_toArray, List.getElem_cons_zero]); go_simp; try (with_reducible rfl))
          simp only [Act.put, List.getElem_toArray, List.getElem_cons_zero, List.setIfInBounds_toArray, List.set_cons_zero, List.set_cons_succ]
          refine wpAnyG_take (v := ?_) 1 (by rfl) (by kernel_rfl) (by kernel_rfl) (by kernel_rfl) (by kernel_rfl) (fun _ _ _ h => h) (Or.inl ⟨by rfl, ?_⟩) (by assumption) ?_
          rotate_left
          · (intro w' hSw; (try dsimp only at hSw); (try simp only [List.getElem_toArray, List.getElem_cons_succ, List.getElem_cons_zero]); go_simp; try (with_reducible rfl))
          simp only [Act.put, List.getElem_toArray, List.getElem_cons_succ, List.getElem_cons_zero, List.setIfInBounds_toArray, List.set_cons_zero, List.set_cons_succ]
          refine wpAnyG_take (v := ?_) 2 (by rfl) (by kernel_rfl) (by kernel_rfl) (by kernel_rfl) (by kernel_rfl) (fun _ _ _ h => h) (Or.inl ⟨by rfl, ?_⟩) (by assumption) ?_
          rotate_left
          · (intro w' hSw; (try dsimp only at hSw); (try simp only [List.getElem_toArray, List.getElem_cons_succ, List.getElem_cons_zero]); go_simp; try (with_reducible rfl))
          simp only [Act.put, List.getElem_toArray, List.getElem_cons_succ, List.getElem_cons_zero, List.setIfInBounds_toArray, List.set_cons_zero, List.set_cons_succ]
          refine wpAnyG_take (v := ?_) 3 (by rfl) (by kernel_rfl) (by kernel_rfl) (by kernel_rfl) (by kernel_rfl) (fun _ _ _ h => h) (Or.inl ⟨by rfl, ?_⟩) (by assumption) ?_
          rotate_left
          · (intro w' hSw; (try dsimp only at hSw); (try simp only [List.getElem_toArray, List.getElem_cons_succ, List.getElem_cons_zero]); go_simp; try (with_reducible rfl))
          simp only [Act.put, List.getElem_toArray, List.getElem_cons_succ, List.getElem_cons_zero, List.setIfInBounds_toArray, List.set_cons_zero, List.set_cons_succ]
          refine wpAnyG_take (v := ?_) 4 (by rfl) (by kernel_rfl) (by kernel_rfl) (by kernel_rfl) (by kernel_rfl) (fun _ _ _ h => h) (Or.inl ⟨by rfl, ?_⟩) (by assumption) ?_
          rotate_left
          · (intro w' hSw; (try dsimp only at hSw); (try simp only [List.getElem_toArray, List.getElem_cons_succ, List.getElem_cons_zero]); go_simp; try (with_reducible rfl))
          simp only [Act.put, List.getElem_toArray, List.getElem_cons_succ, List.getElem_cons_zero, List.setIfInBounds_toArray, List.set_cons_zero, List.set_cons_succ]
          refine wpAnyG_take (v := ?_) 5 (by rfl) (by kernel_rfl) (by kernel_rfl) (by kernel_rfl) (by kernel_rfl) (fun _ _ _ h => h) (Or.inl ⟨by rfl, ?_⟩) (by assumption) ?_
          rotate_left
          · (intro w' hSw; (try dsimp only at hSw); (try simp only [List.getElem_toArray, List.getElem_cons_succ, List.getElem_cons_zero]); go_simp; try (with_reducible rfl))
          simp only [Act.put, List.getElem_toArray, List.getElem_cons_succ, List.getElem_cons_zero, List.setIfInBounds_toArray, List.set_cons_zero, List.set_cons_succ]
          refine wpAnyG_take (v := ?_) 6 (by rfl) (by kernel_rfl) (by kernel_rfl) (by kernel_rfl) (by kernel_rfl) (fun _ _ _ h => h) (Or.inl ⟨by rfl, ?_⟩) (by assumption) ?_
          rotate_left
          · (intro w' hSw; (try dsimp only at hSw); (try simp only [List.getElem_toArray, List.getElem_cons_succ, List.getElem_cons_zero]); go_simp; try (with_reducible rfl))
          simp only [Act.put, List.getElem_toArray, List.getElem_cons_succ, List.getElem_cons_zero, List.setIfInBounds_toArray, List.set_cons_zero, List.set_cons_succ]
          refine wpAnyG_take (v := ?_) 7 (by rfl) (by kernel_rfl) (by kernel_rfl) (by kernel_rfl) (by kernel_rfl) (fun _ _ _ h => h) (Or.inl ⟨by rfl, ?_⟩) (by assumption) ?_
          rotate_left
          · (intro w' hSw; (try dsimp only at hSw); (try simp only [List.getElem_toArray, List.getElem_cons_succ, List.getElem_cons_zero]); go_simp; try (with_reducible rfl))
          simp only [Act.put, List.getElem_toArray, List.getElem_cons_succ, List.getElem_cons_zero, List.setIfInBounds_toArray, List.set_cons_zero, List.set_cons_succ]
          refine wpAnyG_take (v := ?_) 8 (by rfl) (by kernel_rfl) (by kernel_rfl) (by kernel_rfl) (by kernel_rfl) (fun _ _ _ h => h) (Or.inl ⟨by rfl, ?_⟩) (by assumption) ?_
          rotate_left
          · (intro w' hSw; (try dsimp only at hSw); (try simp only [List.getElem_toArray, List.getElem_cons_succ, List.getElem_cons_zero]); go_simp; try (with_reducible rfl))
          simp only [Act.put, List.getElem_toArray, List.getElem_cons_succ, List.getElem_cons_zero, List.setIfInBounds_toArray, List.set_cons_zero, List.set_cons_succ]
          refine wpAnyG_take (v := ?_) 9 (by rfl) (by kernel_rfl) (by kernel_rfl) (by kernel_rfl) (by kernel_rfl) (fun _ _ _ h => h) (Or.inl ⟨by rfl, ?_⟩) (by assumption) ?_
          rotate_left
          · (intro w' hSw; (try dsimp only at hSw); (try simp only [List.getElem_toArray, List.getElem_cons_succ, List.getElem_cons_zero]); go_simp; try (with_reducible rfl))
          simp only [Act.put, List.getElem_toArray, List.getElem_cons_succ, List.getElem_cons_zero, List.setIfInBounds_toArray, List.set_cons_zero, List.set_cons_succ]
          refine wpAnyG_take (v := ?_) 10 (by rfl) (by kernel_rfl) (by kernel_rfl) (by kernel_rfl) (by kernel_rfl) (fun _ _ _ h => h) (Or.inl ⟨by rfl, ?_⟩) (by assumption) ?_
          rotate_left
          · (intro w' hSw; (try dsimp only at hSw); (try simp only [List.getElem_toArray, List.getElem_cons_succ, List.getElem_cons_zero]); go_simp; try (with_reducible rfl))
          simp only [Act.put, List.getElem_toArray, List.getElem_cons_succ, List.getElem_cons_zero, List.setIfInBounds_toArray, List.set_cons_zero, List.set_cons_succ]
          refine wpAnyG_take (v := ?_) 11 (by rfl) (by kernel_rfl) (by kernel_rfl) (by kernel_rfl) (by kernel_rfl) (fun _ _ _ h => h) (Or.inl ⟨by rfl, ?_⟩) (by assumption) ?_
          rotate_left
          · (intro w' hSw; (try dsimp only at hSw); (try simp only [List.getElem_toArray, List.getElem_cons_succ, List.getElem_cons_zero]); go_simp; try (with_reducible rfl))
          simp only [Act.put, List.getElem_toArray, List.getElem_cons_succ, List.getElem_cons_zero, List.setIfInBounds_toArray, List.set_cons_zero, List.set_cons_succ]
          refine wpAnyG_take (v := ?_) 12 (by rfl) (by kernel_rfl) (by kernel_rfl) (by kernel_rfl) (by kernel_rfl) (fun _ _ _ h => h) (Or.inl ⟨by rfl, ?_⟩) (by assumption) ?_
          rotate_left
          · (intro w' hSw; (try dsimp only at hSw); (try simp only [List.getElem_toArray, List.getElem_cons_succ, List.getElem_cons_zero]); go_simp; try (with_reducible rfl))
          simp only [Act.put, List.getElem_toArray, List.getElem_cons_succ, List.getElem_cons_zero, List.setIfInBounds_toArray, List.set_cons_zero, List.set_cons_succ]
          refine wpAnyG_ready [13] (by kernel_rfl) (by simp) ?_
          refine AllReadyG.cons 13 (by rfl) (fun K hK => ?_) ?_
          · simp only [List.getElem_toArray, List.getElem_cons_succ, List.getElem_cons_zero]
            go_simp
            refine hK.out _ _ trivial (fun _ => ?_)
            clear hK K
            try simp only [Act.put, List.setIfInBounds_toArray, List.set_cons_zero, List.set_cons_succ]
            refine wpAnyG_ready [14] (by kernel_rfl) (by simp) ?_
            refine AllReadyG.cons 14 (by rfl) (fun K hK => ?_) ?_
            · simp only [List.getElem_toArray, List.getElem_cons_succ, List.getElem_cons_zero]
              go_simp
              refine hK.out _ _ trivial (fun _ => ?_)
              clear hK K
              try simp only [Act.put, List.setIfInBounds_toArray, List.set_cons_zero, List.set_cons_succ]
              refine wpAnyG_done (by kernel_rfl) ?_ _
              refine NoPanic.normal ?_
              go_wp2
              go_meet
              exact ⟨_, _, rfl, rfl, hide ⟨hbq, rfl⟩⟩
            exact AllReadyG.nil
          exact AllReadyG.nil
        case rest =>
          obtain ⟨wq, wx, rfl, hwx, HBX⟩ := hcut
          subst hwx
          have hbq := (unhide HBX).1
          have hwx2 := (unhide HBX).2
          have hx : wx.heap[wq.heap.size]? = some (.cells #[.int .i64 (f : Int), .int .i64 (t : Int), .int .i64 (r9 - low)] 28) := by
            rw [hwx2]; show (wq.heap.push _)[wq.heap.size]? = _; simp
          have hbx : Below wr.heap.size wr wx := by rw [hwx2]; exact hbq.alloc hbq.size _
          have hob : OwnA wx w.heap.size (.slice ra i rc) (Sp.arcsOf n ns low i) := (unhide HI).2.below hbx
          have hwb : Below w.heap.size w wx := (unhide HI).1.trans (hbx.mono (unhide HI).1.size)
          have hqs : wr.heap.size ≤ wq.heap.size := hbq.size
          have hrl : ∀ g, (Value.slice ra i rc).ownBlock = some g → g < wq.heap.size := fun g hg => Nat.lt_of_lt_of_le ((unhide HI).2.lt g hg).2 hqs
          have hws : w.heap.size ≤ wq.heap.size := Nat.le_trans (unhide HI).1.size hqs
          obtain ⟨u0, u1, u2, uf⟩ := arc_at hx
          have HH := hide (And.intro hob (And.intro hwb (And.intro hrl (And.intro hx hws))))
          clear hbq hwx2 HBX hob hwb hrl hx hbx HI hqs hws
          by_cases h13 : r13 = 0
          · have hle : lx = r17 - low := by rw [unhide Hlx, if_pos h13]
            have hb13 : (r13 == 0) = true := beq_iff_eq.2 h13
            obtain ⟨wY, hwY⟩ : ∃ wY, wY = wx.setCell ⟨wq.heap.size, 2, none⟩ (.int .i64 (r17 - low)) := ⟨_, rfl⟩
            have hY : wY.heap[wq.heap.size]? = some (.cells #[.int .i64 (f : Int), .int .i64 (t : Int), .int .i64 lx] 28) := by
              rw [hwY, hle]; exact arc_set2 (unhide HH).2.2.2.1 _
            have hoY : OwnA wY w.heap.size (.slice ra i rc) (Sp.arcsOf n ns low i) := (unhide HH).1.keep fun g hg => by
              rw [hwY, Below.heap_setCell _ _ _ _ (by show g ≠ wq.heap.size; have := (unhide HH).2.2.1 g hg; omega)]
            have hbY : Below w.heap.size w wY := by rw [hwY]; exact (unhide HH).2.1.setCell (p := ⟨wq.heap.size, 2, none⟩) (unhide HH).2.2.2.2 _
            obtain ⟨v0, v1, v2, -⟩ := arc_at hY
            have HY := hide (And.intro hoY (And.intro hbY hbY.size))
            rw [hle] at v2
            have Hle := hide hle
            clear hY hoY hbY hle
            rw [hwY] at v0 v1 v2
            go_wp2_with (at_builtin; refine wpList_appA (w := (wx.setCell ⟨wq.heap.size, 2, none⟩ (.int .i64 (r17 - low))).alloc (.cells #[.int .i64 (f : Int), .int .i64 (t : Int), .int .i64 (r17 - low)] 28)) rfl _ _ rfl w.heap.size _ _ (Sp.arcsOf n ns low i) [⟨f, t, r17 - low⟩] rfl rfl (by rw [← hwY]; exact (unhide HY).1.alloc _) (OwnA.arcs (own_litA _ 0 _ 1 [⟨f, t, r17 - low⟩] _ rfl (by simp [World.setCell]) rfl (Nat.zero_le _) (by simp))) (i + 1) (by rw [hli, Nat.min_eq_left hin]; rfl) (by omega) (by rw [← hwY]; have := (unhide HY).2.2; simp; omega) ?_)
            intro a6 c6 w6 hown6 hg6 ho6
            have HF : Hid (Below w.heap.size w w6 ∧ OwnA w6 w.heap.size (.slice a6 (i + 1) c6) (Sp.arcsOf n ns low (i + 1))) := hide ⟨by
              rw [← hwY] at hg6
              exact ((unhide HY).2.1.alloc (unhide HY).2.2 _).grown hg6 (by have := (unhide HY).2.2; simp; omega) (fun g hg => ((unhide HH).1.lt g hg).1), by rw [unhide HSj, unhide Hle]; exact hown6⟩
            clear hown6 hg6 ho6 hwY v0 v1 v2
            go_wp2
            go_roundg g'
            case rel => exact ⟨i + 1, by omega, by omega, by go_num, HF⟩
            case measure => omega
          · have hle : lx = r9 - low := by rw [unhide Hlx, if_neg h13]
            have hb13 : (r13 == 0) = false := beq_eq_false_iff_ne.2 h13
            have Hle := hide hle
            clear hle
            go_wp2_with (at_builtin; refine wpList_appA (w := wx.alloc (.cells #[.int .i64 (f : Int), .int .i64 (t : Int), .int .i64 (r9 - low)] 28)) rfl _ _ rfl w.heap.size _ _ (Sp.arcsOf n ns low i) [⟨f, t, r9 - low⟩] rfl rfl ((unhide HH).1.alloc _) (OwnA.arcs (own_litA _ 0 _ 1 [⟨f, t, r9 - low⟩] _ rfl rfl rfl (Nat.zero_le _) (by simp))) (i + 1) (by rw [hli, Nat.min_eq_left hin]; rfl) (by omega) (by have := (unhide HH).2.1.size; simp; omega) ?_)
            intro a6 c6 w6 hown6 hg6 ho6
            have HF : Hid (Below w.heap.size w w6 ∧ OwnA w6 w.heap.size (.slice a6 (i + 1) c6) (Sp.arcsOf n ns low (i + 1))) := hide ⟨((unhide HH).2.1.alloc (unhide HH).2.1.size _).grown hg6 (by have := (unhide HH).2.1.size; simp; omega) (fun g hg => ((unhide HH).1.lt g hg).1), by rw [unhide HSj, unhide Hle]; exact hown6⟩
            clear hown6 hg6 ho6
            go_wp2
            go_roundg g'
            case rel => exact ⟨i + 1, by omega, by omega, by go_num, HF⟩
            case measure => omega
    · obtain rfl : i = ns.length := by omega
      have hiI : ¬ ((ns.length : Nat) : Int) < (ns.length : Int) := by omega
      have HA2 := unhide HAl (by omega)
      go_wp2
      rw [unhide HP]
      exact ⟨_, rfl, by rw [← HA2]; exact (unhide HI).2, (unhide HI).1⟩
end Go.Proofs.Ytlmlibhkloingab


/- Known arcs: their ways. -/
namespace Go.Proofs.Ytlmlibhkloingab
open Go Go.RowKit

theorem Sp.ps_ok {far : Int} {L : List Sp.Arc} {s n : Nat} (k : Nat) (hf : 0 < far) (hs : s < n) (hL : ∀ a ∈ L, a.f < n) (hc : ∀ a ∈ L, Sp.ps far L (Sp.d0 far s) k a.f ≠ far → ¬ (Sp.ps far L (Sp.d0 far s) k a.f + a.l < Sp.ps far L (Sp.d0 far s) k a.t) ∧ Sp.ps far L (Sp.d0 far s) k a.f + a.l < far) : Sp.Short far L s n (Sp.ps far L (Sp.d0 far s) k) :=
  Sp.short_still hs (Sp.Att.ps hf hL (Sp.att0 hf) k) (fun a ha hne => (hc a ha hne).1) (fun a ha hne => (hc a ha hne).2)
/-- A step of the way: the first arc that may go on. -/
theorem Sp.WayIs.step {L : List Sp.Arc} {y : Nat → Int} {t v : Nat} {W : List Nat} (h : Sp.WayIs L y t v W) (hv : v ≠ t) {i : Nat} (hi : Sp.tt L y v i = true) (hk : ∀ k, k < i → Sp.tt L y v k = false) : ∃ r, W = i :: r ∧ Sp.WayIs L y t (L.getD i Sp.arc0).t r := by
  cases W with
  | nil => exact absurd h hv
  | cons j r =>
    obtain ⟨-, h2, h3, h4, h5⟩ := h
    have e : j = i := by
      rcases Nat.lt_trichotomy j i with e | e | e
      · rw [hk j e] at h3; cases h3
      · exact e
      · rw [h4 i e] at hi; cases hi
    subst e
    exact ⟨r, rfl, h5⟩
theorem Sp.WayIs.end_ {L : List Sp.Arc} {y : Nat → Int} {t : Nat} {W : List Nat} (h : Sp.WayIs L y t t W) : W = [] := by
  cases W with
  | nil => rfl
  | cons j r => exact absurd rfl h.1
def Sp.L0 : List Sp.Arc := [⟨0, 1, 5⟩, ⟨1, 2, 2⟩, ⟨0, 2, 9⟩]
theorem Sp.L0_short : Sp.Short 1152921504606846976 Sp.L0 0 3 (Sp.ps 1152921504606846976 Sp.L0 (Sp.d0 1152921504606846976 0) 3) := Sp.ps_ok 3 (by decide) (by decide) (by decide) (by decide +kernel)
theorem Sp.L0_row {D : Nat → Int} (h : Sp.Short 1152921504606846976 Sp.L0 0 3 D) : D 0 = 0 ∧ D 1 = 5 ∧ D 2 = 7 := by
  refine ⟨?_, ?_, ?_⟩ <;> (rw [h.uniq Sp.L0_short (by decide) (by decide)]; decide +kernel)
theorem Sp.L0_snd : Sp.Snd 3 Sp.L0 := ⟨by decide, by decide⟩
theorem Sp.L0_tow {y : Nat → Int} (h : Sp.Tow Sp.L0 2 3 y) : (y 0 = 7 ∧ y 1 = 2) ∧ (y 2 = 2 ∧ y 3 = 1) ∧ y 4 = 0 ∧ y 5 = 0 := by
  have hs : Sp.Short 345876451382054092800 (Sp.pairL 300 (Sp.L0.map Sp.sw)) 2 3 (Sp.ps 345876451382054092800 (Sp.pairL 300 (Sp.L0.map Sp.sw)) (Sp.d0 345876451382054092800 2) 3) := Sp.ps_ok 3 (by decide) (by decide) (by decide) (by decide +kernel)
  have e0 : Sp.rk y 0 = 2102 := by rw [h.sh.uniq hs (by decide) (by decide)]; decide +kernel
  have e1 : Sp.rk y 1 = 601 := by rw [h.sh.uniq hs (by decide) (by decide)]; decide +kernel
  have e2 : Sp.rk y 2 = 0 := by rw [h.sh.uniq hs (by decide) (by decide)]; decide +kernel
  have b0 := h.bd 0 (by decide)
  have b1 := h.bd 1 (by decide)
  have b2 := h.bd 2 (by decide)
  unfold Sp.rk at e0 e1 e2
  simp only [Nat.zero_mul, Nat.zero_add, Nat.one_mul, Nat.reduceMul, Nat.reduceAdd] at e0 e1 e2 b0 b1 b2
  exact ⟨by rcases b0 with b | b <;> omega, by rcases b1 with b | b <;> omega, by rcases b2 with b | b <;> omega⟩
theorem Sp.L0_way {y : Nat → Int} {W : List Nat} (h : Sp.Tow Sp.L0 2 3 y) (hw : Sp.WayIs Sp.L0 y 2 0 W) : W = [0, 1] := by
  obtain ⟨⟨a0, a1⟩, ⟨a2, a3⟩, a4, a5⟩ := Sp.L0_tow h
  obtain ⟨r, rfl, hw1⟩ := hw.step (by decide) (i := 0) (by unfold Sp.tt; simp [Sp.L0, a0, a1, a2, a3]) (fun k hk => by omega)
  obtain ⟨r2, rfl, hw2⟩ := Sp.WayIs.step hw1 (by decide) (i := 1) (by unfold Sp.tt; simp [Sp.L0, a2, a3, a4, a5]) (fun k hk => by
    obtain rfl : k = 0 := by omega
    unfold Sp.tt; simp [Sp.L0])
  have := Sp.WayIs.end_ hw2
  subst this
  rfl
theorem Sp.nil_row {D : Nat → Int} (h : Sp.Short 1152921504606846976 [] 0 1 D) : D 0 = 0 := h.src
end Go.Proofs.Ytlmlibhkloingab


/- watershedlaw6: known. -/
namespace Go.Proofs.Ytlmlibhkloingab
open Go Go.RowKit

theorem L0_is (w : World) : ArcsI (w.alloc (.cells #[.int .i64 0, .int .i64 1, .int .i64 5, .int .i64 1, .int .i64 2, .int .i64 2, .int .i64 0, .int .i64 2, .int .i64 9] 28)) (.slice (some ⟨w.heap.size, 0, none⟩) 3 3) Sp.L0 :=
  OwnA.arcs (own_litA w 0 _ 3 Sp.L0 _ rfl rfl rfl (Nat.zero_le _) (by decide))
theorem Ints.cellA {w : World} {b o n c : Nat} {l : List Int} (h : Ints w (.slice (some ⟨b, o, none⟩) n c) l) (k : Nat) (hk : k < l.length) : w.cell? ⟨b, o + k, none⟩ = some (.int .i64 (l.getD k 0)) := by
  obtain ⟨a, c', e, -, -, H⟩ := h.allA
  obtain ⟨b', o', e2, -, h2⟩ := unhide H k hk
  injection e with e1 _ _
  rw [e2] at e1
  injection e1 with e1
  injection e1 with q1 q2
  subst q1 q2
  exact h2 w (Below.refl _ _)
theorem row3 (D : Nat → Int) {a b c : Int} (h0 : D 0 = a) (h1 : D 1 = b) (h2 : D 2 = c) : (List.range 3).map D = [a, b, c] := by
  show [D 0, D 1, D 2] = _
  rw [h0, h1, h2]
theorem known6_From (lv : Value) (w : World) (hl : ArcsI w lv Sp.L0) : Calls Try.prog 14 #[.int .i64 3, lv, .int .i64 0] w fun e w' => ∃ G, e = .returned (.slice (some ⟨G, 0, none⟩) 3 3) ∧ Ints w' (.slice (some ⟨G, 0, none⟩) 3 3) [0, 5, 7] ∧ Below w.heap.size w w' := by
  have h := from_any 3 Sp.L0 0 lv w hl Sp.L0_snd (by decide) (by decide) (by decide)
  refine h.mono ?_
  rintro e w' ⟨G, D, rfl, -, hr, hb, hD, -⟩
  obtain ⟨d0, d1, d2⟩ := Sp.L0_row hD
  have hi := hr.ints (by decide)
  rw [row3 D d0 d1 d2] at hi
  exact ⟨G, rfl, hi, hb⟩
theorem L0_ex : ∃ D, Sp.Short 1152921504606846976 Sp.L0 0 3 D ∧ ∀ v, D v ≠ 1152921504606846976 → D v < 1152921504606846976 :=
  Sp.Short.ex (by decide) (by decide) Sp.L0_short (by
    intro v hv _
    rcases (show v = 0 ∨ v = 1 ∨ v = 2 by omega) with rfl | rfl | rfl <;> decide +kernel)
theorem known6_Any (lv : Value) (w : World) (hl : ArcsI w lv Sp.L0) : Calls Try.prog 10 #[.int .i64 3, lv, .int .i64 0] w fun e w' => ∃ G, e = .returned (.tuple #[.slice (some ⟨G, 0, none⟩) 3 3, .slice none 0 0, .bool true]) ∧ Ints w' (.slice (some ⟨G, 0, none⟩) 3 3) [0, 5, 7] ∧ Below w.heap.size w w' := by
  have h := any_yes 3 Sp.L0 0 lv w hl Sp.L0_snd (by decide) (by decide) L0_ex
  refine h.mono ?_
  rintro e w' ⟨G, D, rfl, -, hr, hb, hD⟩
  obtain ⟨d0, d1, d2⟩ := Sp.L0_row hD
  have hi := hr.ints (by decide)
  rw [row3 D d0 d1 d2] at hi
  exact ⟨G, rfl, hi, hb⟩
theorem known6_Right (lv dv : Value) (w : World) (hl : ArcsI w lv Sp.L0) (hd : Ints w dv [0, 5, 7]) : Calls Try.prog 12 #[.int .i64 3, lv, .int .i64 0, dv] w fun e w' => e = .returned (.bool true) ∧ Below w.heap.size w w' := by
  have h := right_yes 3 Sp.L0 0 [0, 5, 7] lv dv w hl hd (by decide) Sp.L0_snd (by decide) (by decide) L0_ex
  refine h.mono ?_
  rintro e w' ⟨hb, D, b, rfl, hD, rfl⟩
  obtain ⟨d0, d1, d2⟩ := Sp.L0_row hD
  rw [row3 D d0 d1 d2]
  exact ⟨rfl, hb⟩
theorem known6_Way (lv : Value) (w : World) (hl : ArcsI w lv Sp.L0) : Calls Try.prog 13 #[.int .i64 3, lv, .int .i64 0, .int .i64 2] w fun e w' => ∃ rv, e = .returned (.tuple #[rv, .bool true]) ∧ Ints w' rv [0, 1] ∧ Below w.heap.size w w' := by
  have h := way_any6 3 Sp.L0 0 2 lv w hl Sp.L0_snd (by decide) (by decide) (by decide) (by decide)
  refine h.mono ?_
  rintro e w' ⟨hb, y, hT, ⟨hf, rfl⟩ | ⟨-, rv, W, rfl, ho, -, hw⟩⟩
  · have := (Sp.L0_tow hT).1.1
    rw [show (0 * 2 : Nat) = 0 from rfl, this] at hf
    cases hf
  · have := Sp.L0_way hT hw
    subst this
    exact ⟨rv, rfl, OwnI.ints ho, hb⟩
theorem known6_One (w : World) : Calls Try.prog 14 #[.int .i64 1, .slice none 0 0, .int .i64 0] w fun e w' => ∃ G, e = .returned (.slice (some ⟨G, 0, none⟩) 1 1) ∧ Ints w' (.slice (some ⟨G, 0, none⟩) 1 1) [0] ∧ Below w.heap.size w w' := by
  have h := from_any 1 [] 0 (.slice none 0 0) w (OwnA.nil w 0).arcs ⟨by decide, fun a ha => by cases ha⟩ (fun a ha => by cases ha) (by decide) (by decide)
  refine h.mono ?_
  rintro e w' ⟨G, D, rfl, -, hr, hb, hD, -⟩
  have hi := hr.ints (by decide)
  have e1 : (List.range 1).map D = [0] := by show [D 0] = _; rw [Sp.nil_row hD]
  rw [e1] at hi
  exact ⟨G, rfl, hi, hb⟩
set_option maxRecDepth 100000 in
set_option maxHeartbeats 4000000 in
theorem known6_any (w : World) : Calls Try.prog 7 #[] w fun e w' => e = .returned (.bool true) ∧ Below w.heap.size w w' := by
  obtain ⟨W1, hW1⟩ : ∃ W1, W1 = w.alloc (.cells #[.int .i64 0, .int .i64 1, .int .i64 5, .int .i64 1, .int .i64 2, .int .i64 2, .int .i64 0, .int .i64 2, .int .i64 9] 28) := ⟨_, rfl⟩
  have hl := L0_is w
  rw [← hW1] at hl
  have hb1 : Below w.heap.size w W1 := by rw [hW1]; exact (Below.refl _ w).alloc (Nat.le_refl _) _
  have HL := hide (fun w' (hb : Below W1.heap.size W1 w') => hl.below hb)
  have HF := hide (known6_From _ W1 hl)
  have HB1 := hide (fun w' (hb : Below W1.heap.size W1 w') => hb1.trans (hb.mono hb1.size))
  clear hl hb1
  subst hW1
  go_enter Try.func7, Try.ntmps7
  go_wp2_with fail
  go_at_call 14
  generalize w.alloc (.cells #[.int .i64 0, .int .i64 1, .int .i64 5, .int .i64 1, .int .i64 2, .int .i64 2, .int .i64 0, .int .i64 2, .int .i64 9] 28) = W1 at *
  refine (unhide HF).mono ?_
  rintro e w2 ⟨G, rfl, hd2, hb2⟩
  have HW := hide (known6_Way _ w2 (unhide HL _ hb2))
  have H2 := hide (And.intro hb2 hd2)
  clear hd2 hb2 HF
  go_wp2_with fail
  go_at_call 13
  refine (unhide HW).mono ?_
  rintro e w3 ⟨rv, rfl, hr3, hb3⟩
  have H3 := hide (And.intro ((unhide H2).1.trans (hb3.mono (unhide H2).1.size)) (And.intro ((unhide H2).2.below hb3) hr3))
  obtain ⟨ra, rc, rfl, -⟩ := hr3.form
  have HA := hide (known6_Any _ w3 (unhide HL _ (unhide H3).1))
  clear hr3 hb3 H2 HW
  go_wp2_with fail
  go_at_call 10
  refine (unhide HA).mono ?_
  rintro e w4 ⟨G4, rfl, he4, hb4⟩
  have H4 := hide (And.intro ((unhide H3).1.trans (hb4.mono (unhide H3).1.size)) (And.intro ((unhide H3).2.1.below hb4) (And.intro ((unhide H3).2.2.below hb4) he4)))
  have HO := hide (known6_One w4)
  clear he4 hb4 H3 HA
  go_wp2_with fail
  go_at_call 14
  refine (unhide HO).mono ?_
  rintro e w5 ⟨G5, rfl, ho5, hb5⟩
  have H5 := hide (And.intro ((unhide H4).1.trans (hb5.mono (unhide H4).1.size)) (And.intro ((unhide H4).2.1.below hb5) (And.intro ((unhide H4).2.2.1.below hb5) ((unhide H4).2.2.2.below hb5))))
  have hd5 := (unhide H5).2.1
  have hr5 := (unhide H5).2.2.1
  have k1 := ho5.cellA 0 (by decide)
  have k2 := hd5.cellA 2 (by decide)
  have k3 : ∃ b o, ra = some ⟨b, o, none⟩ ∧ w5.cell? ⟨b, o + 1, none⟩ = some (.int .i64 1) := by
    obtain ⟨a, c', e, -, -, H⟩ := hr5.allA
    obtain ⟨b', o', e2, -, h2⟩ := unhide H 1 (by decide)
    injection e with e1 _ _
    exact ⟨b', o', by rw [e1, e2], h2 w5 (Below.refl _ _)⟩
  obtain ⟨b3, o3, rfl, k3⟩ := k3
  have k1' : w5.cell? ⟨G5, 0, none⟩ = some (.int .i64 0) := k1
  have k2' : w5.cell? ⟨G, 2, none⟩ = some (.int .i64 7) := k2
  have hI0 : Calls Try.prog 11 #[.slice (some ⟨G, 0, none⟩) 3 3, .slice (some ⟨G4, 0, none⟩) 3 3] w5 fun e w' => e = .returned (.bool true) ∧ Below w5.heap.size w5 w' := by
    refine (ints6_any [0, 5, 7] [0, 5, 7] _ _ w5 (unhide H5).2.1 (unhide H5).2.2.2 (by decide)).mono ?_
    rintro e w' ⟨rfl, hb⟩
    exact ⟨by simp, hb⟩
  have HI := hide hI0
  clear hI0
  have HRt := hide (fun w' (hb : Below w5.heap.size w5 w') => known6_Right _ _ w' (unhide HL _ ((unhide H5).1.trans (hb.mono (unhide H5).1.size))) ((unhide H5).2.1.below hb))
  have HE := hide (fun w' (hb : Below w5.heap.size w5 w') => unhide HB1 _ ((unhide H5).1.trans (hb.mono (unhide H5).1.size)))
  clear hd5 hr5 k1 k2 ho5 hb5 HO H4 H5 HL HB1
  go_wp2_with fail
  go_at_call 11
  refine (unhide HI).mono ?_
  rintro e w6 ⟨rfl, hb6⟩
  have HR6 := hide (unhide HRt _ hb6)
  have HB6 := hide hb6
  clear hb6 HRt HI
  go_wp2_with fail
  go_at_call 12
  refine (unhide HR6).mono ?_
  rintro e w7 ⟨rfl, hb7⟩
  have HB7 := hide (unhide HE _ ((unhide HB6).trans (hb7.mono (unhide HB6).size)))
  clear hb7 HR6 HE
  go_wp2
  go_ret
  exact ⟨by rfl, unhide HB7⟩
end Go.Proofs.Ytlmlibhkloingab


/- The law PathFrom, walked. -/
namespace Go.Proofs.Ytlmlibhkloingab
open Go Go.RowKit

theorem Sp.rows_eq {L : List Sp.Arc} {s n : Nat} {D D' : Nat → Int} (h : Sp.Short 1152921504606846976 L s n D) (h' : Sp.Short 1152921504606846976 L s n D') : (List.range n).map D = (List.range n).map D' :=
  List.map_congr_left fun v hv => h.uniq h' (by decide) (List.mem_range.1 hv)
end Go.Proofs.Ytlmlibhkloingab


/- The law PathOwn, walked. -/
namespace Go.Proofs.Ytlmlibhkloingab
open Go Go.RowKit

theorem arc_fields : ((Try.prog.fieldsOf 28).toList.map fun f => (f.name == "_", f.type, f.offset)) = [(false, 3, 0), (false, 3, 1), (false, 3, 2)] := by kernel_rfl
set_option maxRecDepth 100000 in
theorem run_neq_arc (a b c : Int) (w : World) : (binOp .neq 28 (.agg #[.int .i64 a, .int .i64 b, .int .i64 c]) (.agg #[.int .i64 a, .int .i64 b, .int .i64 c])).run Try.prog w = .ok (.bool false) w := by
  have hp : Try.prog.stoodInHeld 28 = false := by kernel_rfl
  have hu : Try.prog.underlying 28 = some (.struct (Try.prog.fieldsOf 28)) := by kernel_rfl
  have hi : ∀ x : Int, ∀ w, (Op.equalIn 9999 3 (.int .i64 x) (.int .i64 x)).run Try.prog w = .ok true w := fun x w => by
    rw [run_equalIn_int w 9998 _ _ _ _ _ Try.underlying3, beq_self_eq_true]
  rw [run_neq_struct, run_equalIn_struct w 9999 _ _ _ hu hp]
  have hf := arc_fields
  cases hl : (Try.prog.fieldsOf 28).toList with
  | nil => rw [hl] at hf; simp at hf
  | cons f1 r =>
    cases r with
    | nil => rw [hl] at hf; simp at hf
    | cons f2 r =>
      cases r with
      | nil => rw [hl] at hf; simp at hf
      | cons f3 r =>
        cases r with
        | cons f4 r => rw [hl] at hf; simp at hf
        | nil =>
          rw [hl] at hf
          simp only [List.map_cons, List.map_nil, List.cons.injEq, Prod.mk.injEq, and_true] at hf
          obtain ⟨⟨h1, h2, h3⟩, ⟨h4, h5, h6⟩, h7, h8, h9⟩ := hf
          have n1 : f1.name ≠ "_" := fun e => by rw [e] at h1; simp at h1
          have n2 : f2.name ≠ "_" := fun e => by rw [e] at h4; simp at h4
          have n3 : f3.name ≠ "_" := fun e => by rw [e] at h7; simp at h7
          have p0 : ∀ (x y z : Int) w, (part 3 #[.int .i64 x, .int .i64 y, .int .i64 z] 0).run Try.prog w = .ok (.int .i64 x) w := fun x y z w => by rfl
          have p1 : ∀ (x y z : Int) w, (part 3 #[.int .i64 x, .int .i64 y, .int .i64 z] 1).run Try.prog w = .ok (.int .i64 y) w := fun x y z w => by rfl
          have p2 : ∀ (x y z : Int) w, (part 3 #[.int .i64 x, .int .i64 y, .int .i64 z] 2).run Try.prog w = .ok (.int .i64 z) w := fun x y z w => by rfl
          simp [Op.eqFields, n1, n2, n3, h2, h3, h5, h6, h8, h9, p0, p1, p2, hi]
set_option maxRecDepth 100000 in
set_option maxHeartbeats 16000000 in
theorem pathOwn_any (size s t : Int) (ns : List Int) (nv : Value) (w : World) (hv : Ints w nv ns) :
    Calls Try.prog 6 #[.int .i64 size, nv, .int .i64 s, .int .i64 t] w fun e w' => e = .returned (.bool true) ∧ Below w.heap.size w w' := by
  have HK := hide (known6_any w)
  have HN0 := hide (fun w' => within6_any size 14 w' (by omega) (by omega))
  have hm0 : 0 ≤ size % 14 := Int.emod_nonneg _ (by omega)
  have hm1 : size % 14 < 14 := Int.emod_lt_of_pos _ (by omega)
  obtain ⟨N, hN⟩ : ∃ N : Nat, 1 + size % 14 = (N : Int) := ⟨(1 + size % 14).toNat, by omega⟩
  have hN1 : 0 < N := by omega
  have hN2 : N ≤ 14 + 1 - 1 := by omega
  have HAr := hide (fun w' (hb : Below w.heap.size w w') => arcs_any N ns 0 nv w' (hv.below hb) hN1 (by omega) (by omega) (by omega))
  have HSn : Hid (Sp.Snd N (Sp.arcsOf N ns 0 50) ∧ ∀ a ∈ Sp.arcsOf N ns 0 50, 0 ≤ a.l) := hide ⟨Sp.arcsOf_snd hN1 ns (by omega) (by omega), Sp.arcsOf_pos N ns 50⟩
  have HLn : Hid ((Sp.arcsOf N ns 0 50).length ≤ 50) := hide (by rw [Sp.arcsOf_len]; omega)
  obtain ⟨L, hL⟩ : ∃ L, Sp.arcsOf N ns 0 50 = L := ⟨_, rfl⟩
  rw [hL] at HSn HLn
  simp only [hL] at HAr
  generalize size % 14 = sz at *
  obtain ⟨na, nc, rfl, -, -⟩ := hv.form
  obtain ⟨P, hP⟩ : ∃ P : Ending → World → Prop, P = fun e w' => e = .returned (.bool true) ∧ Below w.heap.size w w' := ⟨_, rfl⟩
  rw [← hP]
  have HP := hide hP
  clear hP
  go_enter Try.func6, Try.ntmps6
  go_wp2_with fail
  go_at_call 7
  refine (unhide HK).mono ?_
  rintro e w1 ⟨rfl, hb1⟩
  have HB1 := hide hb1
  clear hb1 HK
  go_wp2_with fail
  go_at_call 8
  refine (unhide HN0 w1).mono ?_
  rintro e wz ⟨rfl, hwz⟩
  have hwz' := hwz.symm
  subst hwz'
  clear hwz
  clear HN0
  go_wp2_with fail
  go_at_call 9
  refine (unhide HAr _ (unhide HB1)).mono ?_
  rintro e w3 ⟨lv, rfl, ho3, hb3⟩
  have hwb3 := (unhide HB1).trans (hb3.mono (unhide HB1).size)
  have hal3 := ho3.arcs
  obtain ⟨la, lc, rfl, -⟩ := hal3.form
  have HA3 : Hid (∀ w', Below w3.heap.size w3 w' → ArcsI w' (.slice la L.length lc) L ∧ Below w.heap.size w w') := hide fun w' hb => ⟨hal3.below hb, hwb3.trans (hb.mono hwb3.size)⟩
  have HNN := hide hN
  have hln := unhide HLn
  have HB3 := hide hwb3
  clear hN ho3 hb3 hwb3 hal3 HB1 hL
  go_wp2_with fail
  go_at_call 9
  refine (unhide HAr _ (unhide HB3)).mono ?_
  rintro e w4 ⟨lv2, rfl, ho4, hb4⟩
  have hal4 := ho4.arcs
  obtain ⟨ma, mc, rfl, -⟩ := hal4.form
  have HA4 : Hid (∀ w', Below w4.heap.size w4 w' → ArcsI w' (.slice la L.length lc) L ∧ ArcsI w' (.slice ma L.length mc) L ∧ Below w.heap.size w w') := hide fun w' hb =>
    ⟨(unhide HA3 w' (hb4.trans (hb.mono hb4.size))).1, hal4.below hb, (unhide HA3 w' (hb4.trans (hb.mono hb4.size))).2⟩
  clear ho4 hb4 hal4 HAr HA3 HB3
  have hx0 : 0 ≤ s % (N : Int) := Int.emod_nonneg _ (by omega)
  have hx1 : s % (N : Int) < (N : Int) := Int.emod_lt_of_pos _ (by omega)
  obtain ⟨x, hx⟩ : ∃ x : Nat, s % (N : Int) = (x : Int) := ⟨(s % (N : Int)).toNat, by omega⟩
  have hxN : x < N := by omega
  have HWtx : Hid (∀ w', Calls Try.prog 8 #[.int .i64 s, .int .i64 (N : Int)] w' fun e w'' => e = .returned (.int .i64 (x : Int)) ∧ w'' = w') := hide (fun w' => by rw [← hx]; exact within6_any s (N : Int) w' (by omega) (by omega))
  clear hx0 hx1 hx
  have hy0 : 0 ≤ t % (N : Int) := Int.emod_nonneg _ (by omega)
  have hy1 : t % (N : Int) < (N : Int) := Int.emod_lt_of_pos _ (by omega)
  obtain ⟨y, hy⟩ : ∃ y : Nat, t % (N : Int) = (y : Int) := ⟨(t % (N : Int)).toNat, by omega⟩
  have hyN : y < N := by omega
  have HWty : Hid (∀ w', Calls Try.prog 8 #[.int .i64 t, .int .i64 (N : Int)] w' fun e w'' => e = .returned (.int .i64 (y : Int)) ∧ w'' = w') := hide (fun w' => by rw [← hy]; exact within6_any t (N : Int) w' (by omega) (by omega))
  clear hy0 hy1 hy
  go_wp2_with fail
  go_at_call 8
  refine (unhide HWtx _).mono ?_
  rintro e wz ⟨rfl, hwz⟩
  have hwz' := hwz.symm
  subst hwz'
  clear hwz
  go_wp2_with fail
  go_at_call 8
  refine (unhide HWty _).mono ?_
  rintro e wz ⟨rfl, hwz⟩
  have hwz' := hwz.symm
  subst hwz'
  clear hwz
  clear HWtx HWty
  have HFr := hide (from_any N L x _ w4 (unhide HA4 w4 (Below.refl _ _)).1 (unhide HSn).1 (unhide HSn).2 hxN (by omega))
  go_wp2_with fail
  go_at_call 14
  refine (unhide HFr).mono ?_
  rintro e w5 ⟨G, D, rfl, hG, hr5, hb5, hD, hDb⟩
  have HI5 : Hid (Below w4.heap.size w4 w5 ∧ RowAt w5 G N (fun v => if v < 0 then -9 else D v)) := hide ⟨hb5, hr5.congr fun j hj => by rw [if_neg (by omega)]⟩
  clear hr5 hb5 hD hDb HFr
  go_wp2
  go_loopg [15] N (fun g s15 wr => ∃ d : Nat, d + g = N ∧ s15 = .int .i64 (d : Int) ∧ Hid (Below w4.heap.size w4 wr ∧ RowAt wr G N (fun v => if v < d then -9 else D v)))
  case atStart => exact ⟨0, by omega, rfl, HI5⟩
  case round =>
    clear HI5
    obtain ⟨d, hdg, rfl, HI⟩ := hrel
    cases gk with
    | succ g' =>
      have hd : d < N := by omega
      have hdI : (d : Int) < (N : Int) := by omega
      have k0 := (unhide HI).2.cell hd
      have kf := fun i => (unhide HI).2.frozen i none
      have HI2 : Hid (Below w4.heap.size w4 (wr.setCell ⟨G, d, none⟩ (.int .i64 (-9))) ∧ RowAt (wr.setCell ⟨G, d, none⟩ (.int .i64 (-9))) G N (fun v => if v < d + 1 then -9 else D v)) := hide ⟨(unhide HI).1.setCell (p := ⟨G, d, none⟩) hG _, ((unhide HI).2.set _ _).congr fun j hj => by
        unfold Sp.upd
        by_cases e : j = d
        · subst e; rw [if_pos rfl, if_pos (by omega)]
        · rw [if_neg e]
          show (if j < d then _ else _) = _
          by_cases e2 : j < d
          · rw [if_pos e2, if_pos (by omega)]
          · rw [if_neg e2, if_neg (by omega)]⟩
      clear HI
      go_wp2
      go_roundg g'
      case rel => exact ⟨d + 1, by omega, by go_num, HI2⟩
      case measure => omega
    | zero =>
      obtain rfl : d = N := by omega
      have hnn : ¬ (d : Int) < (d : Int) := by omega
      have HB5 := hide (unhide HI).1
      obtain ⟨w6, hw6⟩ : ∃ w6, w6 = wr := ⟨_, rfl⟩
      rw [← hw6] at HB5 ⊢
      clear HI hw6 hdg
      have hW0 : Calls Try.prog 13 #[.int .i64 (d : Int), .slice la L.length lc, .int .i64 (x : Int), .int .i64 (y : Int)] w6 fun e w' => ∃ rv l b, e = .returned (.tuple #[rv, .bool b]) ∧ OwnI w' w6.heap.size rv l ∧ l.length ≤ 100 ∧ Below w6.heap.size w6 w' := by
        refine (way_any6 d L x y _ w6 (unhide HA4 w6 (unhide HB5)).1 (unhide HSn).1 (unhide HSn).2 hxN hyN (by omega)).mono ?_
        rintro e w' ⟨hb, y', hT, ⟨hf, rfl⟩ | ⟨-, rv, W, rfl, ho, hl, -⟩⟩
        · exact ⟨_, [], _, rfl, World.ownsRow_nil _ _ _ _, by simp, hb⟩
        · exact ⟨_, _, _, rfl, ho, by rw [List.length_map]; exact hl, hb⟩
      have HW := hide hW0
      clear hW0
      go_wp2_with fail
      go_at_call 13
      refine (unhide HW).mono ?_
      rintro e w7 ⟨rv, l, wb, rfl, ho7, hl7, hb7⟩
      obtain ⟨ra, rc, rfl, -, -⟩ := (OwnI.ints ho7).form
      have hw6s := (unhide HB5).size
      have HI7 : Hid (Below w6.heap.size w6 w7 ∧ OwnI w7 w6.heap.size (.slice ra l.length rc) l) := hide ⟨hb7, ho7⟩
      obtain ⟨n, hn⟩ : ∃ n, l.length = n := ⟨_, rfl⟩
      rw [hn] at HI7 ⊢ hl7
      have HNl := hide hn
      clear ho7 hb7 HW hn
      go_wp2
      rename_i sK3 sJ sK2 sa3 sa2 sK1 sa1 sK sa
      clear sa3 sa2 sa1
      go_loopg [18] n (fun g s18 wr => ∃ (d : Nat) (l' : List Int), d + g = n ∧ s18 = .int .i64 (d : Int) ∧ l'.length = n ∧ Hid (Below w6.heap.size w6 wr ∧ OwnI wr w6.heap.size (.slice ra n rc) l'))
      case atStart => exact ⟨0, l, by omega, rfl, unhide HNl, HI7⟩
      case round =>
        clear HI7
        obtain ⟨d2, l', hdg2, rfl, hll, HI⟩ := hrel
        cases gk with
        | succ g' =>
          have hd : d2 < l'.length := by omega
          have hdI : (d2 : Int) < (n : Int) := by omega
          obtain ⟨g7, hg7⟩ : ∃ g7, ra = some ⟨g7, 0, none⟩ := by
            rcases (unhide HI).2.2 with ⟨-, h0⟩ | ⟨g7, cap, cur, e, -⟩
            · omega
            · injection e with e1 _ _; exact ⟨g7, e1⟩
          subst hg7
          have k0 := own_cell (unhide HI).2 d2 hd
          have kf := fun i => own_frozen (unhide HI).2 i
          have hg8 := ((unhide HI).2.lt g7 rfl).1
          have HI2 : Hid (Below w6.heap.size w6 (wr.setCell ⟨g7, d2, none⟩ (.int .i64 (-9))) ∧ OwnI (wr.setCell ⟨g7, d2, none⟩ (.int .i64 (-9))) w6.heap.size (.slice (some ⟨g7, 0, none⟩) n rc) (l'.set d2 (-9))) := hide ⟨(unhide HI).1.setCell (p := ⟨g7, d2, none⟩) hg8 _, own_setCell (unhide HI).2 _ _⟩
          clear HI
          go_wp2
          go_roundg g'
          case rel => exact ⟨d2 + 1, _, by omega, by go_num, by rw [List.length_set]; exact hll, HI2⟩
          case measure => omega
        | zero =>
          obtain rfl : d2 = n := by omega
          have hnn2 : ¬ (d2 : Int) < (d2 : Int) := by omega
          have HB8 : Hid (Below w4.heap.size w4 wr) := hide ((unhide HB5).trans ((unhide HI).1.mono hw6s))
          clear HI hdg2
          go_wp2
          rename_i tK3 tJ tK2 ta3 ta2 tK1 ta1 tK ta
          clear ta3 ta2 ta1
          go_loopg [19] L.length (fun g s19 wr => ∃ i : Nat, i + g = L.length ∧ s19 = .int .i64 (i : Int) ∧ Hid (Below w4.heap.size w4 wr))
          case atStart => exact ⟨0, by omega, rfl, HB8⟩
          case round =>
            clear HB8
            obtain ⟨i, hig, rfl, HI⟩ := hrel
            by_cases hi : i < L.length
            · obtain ⟨g2, rfl⟩ : ∃ g2, gk = g2 + 1 := ⟨gk - 1, by omega⟩
              have hiI : (i : Int) < (L.length : Int) := by omega
              obtain ⟨a, c, e, -, -, HC⟩ := (unhide HA4 wr (unhide HI)).1.all
              injection e with e1 e2 e3
              subst e1 e3
              obtain ⟨b, o, rfl, hb, hcx⟩ := unhide HC i hi
              obtain ⟨c1, c2, c3⟩ := hcx wr (Below.refl _ _)
              obtain ⟨a', c', e', -, -, HC'⟩ := (unhide HA4 wr (unhide HI)).2.1.all
              injection e' with e1 e2' e3
              subst e1 e3
              obtain ⟨b', o', rfl, hb', hcx'⟩ := unhide HC' i hi
              obtain ⟨c1', c2', c3'⟩ := hcx' wr (Below.refl _ _)
              generalize L.getD i Sp.arc0 = a at *
              obtain ⟨f, t, l⟩ := a
              simp only at c1 c2 c3 c1' c2' c3'
              have hq := fun w' => run_neq_arc (f : Int) (t : Int) l w'
              have HI2 : Hid (∀ nq, Below w4.heap.size w4 (wr.drewN nq)) := hide fun nq => below_dn (unhide HI) nq
              clear hcx hcx' HC HC' HI e2 e2'
              go_wp2_with fail
              go_quiet (fail)
              go_wp2
              go_roundg g2
              case rel => exact ⟨i + 1, by omega, by go_num, hide (unhide HI2 _)⟩
              case measure => omega
            · obtain rfl : i = L.length := by omega
              have hiI : ¬ ((L.length : Nat) : Int) < (L.length : Int) := by omega
              have HFr := hide (from_any d L x _ wr (unhide HA4 wr (unhide HI)).1 (unhide HSn).1 (unhide HSn).2 hxN (by omega))
              go_wp2_with fail
              go_at_call 14
              refine (unhide HFr).mono ?_
              rintro e w8 ⟨G8, D8, rfl, hG8, hr8, hb8, hD8, hDb8⟩
              have hex := Sp.Short.ex (fun a ha => ⟨((unhide HSn).1.at_ a ha).1, ((unhide HSn).1.at_ a ha).2.1⟩) hxN hD8 hDb8
              have hb48 := (unhide HI).trans (hb8.mono (unhide HI).size)
              have HRf := hide (rFrom_any d L x _ w8 (unhide HA4 w8 hb48).2.1 (unhide HSn).1 hxN (by omega) hex)
              have H8 := hide (And.intro hb48 (And.intro hr8 hD8))
              clear hG8 hr8 hb8 hD8 hDb8 hex HFr hb48
              go_wp2_with fail
              go_at_call 15
              refine (unhide HRf).mono ?_
              rintro e w9 ⟨G9, D9, rfl, hG9, hr9, hb9, hD9⟩
              have hI0 : Calls Try.prog 11 #[.slice (some ⟨G8, 0, none⟩) d d, .slice (some ⟨G9, 0, none⟩) d d] w9 fun e w' => e = .returned (.bool true) ∧ Below w9.heap.size w9 w' := by
                refine (ints6_any _ _ _ _ w9 (((unhide H8).2.1.below hb9).ints (by omega)) (hr9.ints (by omega)) (by simp; omega)).mono ?_
                rintro e w' ⟨rfl, hb⟩
                rw [Sp.rows_eq (unhide H8).2.2 hD9]
                exact ⟨by simp, hb⟩
              have HIc := hide hI0
              have HB9 := hide ((unhide H8).1.trans (hb9.mono (unhide H8).1.size))
              clear hI0 hG9 hr9 hb9 hD9 HRf
              go_wp2_with fail
              go_at_call 11
              refine (unhide HIc).mono ?_
              rintro e w10 ⟨rfl, hb10⟩
              have HE := hide (unhide HA4 _ ((unhide HB9).trans (hb10.mono (unhide HB9).size))).2.2
              clear hb10
              go_wp2
              rw [unhide HP]
              exact ⟨rfl, unhide HE⟩
end Go.Proofs.Ytlmlibhkloingab


