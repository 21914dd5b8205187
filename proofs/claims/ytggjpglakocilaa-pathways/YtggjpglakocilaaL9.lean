/- What the proof needs, part 9. -/
import Derived.Test.YtggjpglakocilaaL8
/- The reference's From, Any; within, Arcs of watershedlaw6. -/
namespace Go.Proofs.Ytggjpglakocilaa
open Go Go.RowKit

set_option maxRecDepth 100000 in
set_option maxHeartbeats 2000000 in
theorem rFrom_any (N : Nat) (L : List Sp.Arc) (s : Nat) (lv : Value) (w : World) (hl : ArcsI w lv L) (hS : Sp.Snd N L) (hs : s < N) (hN : N ≤ 60) (hex : ∃ D, Sp.Short 1152921504606846976 L s N D ∧ ∀ v, D v ≠ 1152921504606846976 → D v < 1152921504606846976) :
    Calls Try.prog 14 #[.int .i64 (N : Int), lv, .int .i64 (s : Int)] w fun e w' => ∃ G D, e = .returned (.slice (some ⟨G, 0, none⟩) N N) ∧ w.heap.size ≤ G ∧ RowAt w' G N D ∧ Below w.heap.size w w' ∧ Sp.Short 1152921504606846976 L s N D := by
  have HC := hide (rfrom0_any N L s lv w hl hS hs hN)
  have HX := hide hex
  obtain ⟨la, lc, rfl, -⟩ := hl.form
  clear hl hS hex
  go_enter Try.func14, Try.ntmps14
  go_wp2_with fail
  go_at_call 25
  refine (unhide HC).mono ?_
  rintro e w2 ⟨G, D, ag, rfl, hG, hr2, hb2, h1, h2⟩
  have HQ : Hid (RowAt w2 G N D ∧ Below w.heap.size w w2 ∧ Sp.Short 1152921504606846976 L s N D) := hide ⟨hr2, hb2, h1 (by
    cases ag with
    | false => rfl
    | true => exact absurd (unhide HX) (h2 rfl))⟩
  clear hr2 hb2 h1 h2 HC
  go_wp2
  go_ret
  exact ⟨G, D, rfl, hG, (unhide HQ).1, (unhide HQ).2.1, (unhide HQ).2.2⟩
set_option maxRecDepth 100000 in
set_option maxHeartbeats 1000000 in
theorem within6_any (a n : Int) (w : World) (hn : 0 < n) (hn1 : n ≤ 4611686018427387904) :
    Calls Try.prog 10 #[.int .i64 a, .int .i64 n] w fun e w' => e = .returned (.int .i64 (a % n)) ∧ w' = w := by
  have h0 : 0 ≤ a % n := Int.emod_nonneg a (by omega)
  have h1 : a % n < n := Int.emod_lt_of_pos a hn
  rcases tmod_casesH a n hn with ⟨ha, hb⟩ | ⟨ha, hb⟩
  · have hc : -n ≤ a.tmod n := by omega
    have Hb := hide hb; clear hb h0 h1
    go_enter Try.func10, Try.ntmps10
    go_wp2
    go_ret
    exact ⟨ret_intH (unhide Hb), rfl⟩
  · have Hb := hide hb; clear hb h0 h1
    go_enter Try.func10, Try.ntmps10
    go_wp2
    go_ret
    exact ⟨ret_intH (unhide Hb), rfl⟩
/-- An arc, of a number. -/
def Sp.arcOf (n : Nat) (k low : Int) : Sp.Arc := ⟨(k % (n : Int)).toNat, (k / 31 % (n : Int)).toNat, if k / 9000 % 13 = 0 then k / 117000 % 1048576 - low else k / 1000 % 9 - low⟩
def Sp.arcsOf (n : Nat) (ns : List Int) (low : Int) (m : Nat) : List Sp.Arc := (ns.take m).map fun z => Sp.arcOf n (z % 1125899906842624) low
theorem Sp.arcsOf_snd {n : Nat} (hn : 0 < n) (ns : List Int) {low : Int} (h0 : 0 ≤ low) (h4 : low ≤ 8) : Sp.Snd n (Sp.arcsOf n ns low 50) := by
  refine ⟨by unfold Sp.arcsOf; rw [List.length_map]; have := List.length_take_le 50 ns; omega, fun a ha => ?_⟩
  obtain ⟨z, -, rfl⟩ := List.mem_map.1 ha
  unfold Sp.arcOf
  generalize z % 1125899906842624 = k
  have h1 := Int.emod_nonneg k (b := (n : Int)) (by omega)
  have h2 := Int.emod_lt_of_pos k (b := (n : Int)) (by omega)
  have h3 := Int.emod_nonneg (k / 31) (b := (n : Int)) (by omega)
  have h5 := Int.emod_lt_of_pos (k / 31) (b := (n : Int)) (by omega)
  refine ⟨by show (k % (n : Int)).toNat < n; omega, by show (k / 31 % (n : Int)).toNat < n; omega, ?_, ?_⟩ <;> (show _ ≤ _; dsimp only; split <;> omega)
theorem Sp.arcsOf_pos (n : Nat) (ns : List Int) (m : Nat) : ∀ a ∈ Sp.arcsOf n ns 0 m, 0 ≤ a.l := fun a ha => by
  obtain ⟨z, -, rfl⟩ := List.mem_map.1 ha
  unfold Sp.arcOf
  dsimp only
  split <;> omega
end Go.Proofs.Ytggjpglakocilaa


/- watershedlaw6: Arcs. -/
namespace Go.Proofs.Ytggjpglakocilaa
open Go Go.RowKit

theorem arc_set2 {w : World} {b : Nat} {a c d : Value} (h : w.heap[b]? = some (.cells #[a, c, d] 30)) (x : Value) : (w.setCell ⟨b, 2, none⟩ x).heap[b]? = some (.cells #[a, c, x] 30) := by
  simp only [World.setCell, Array.getElem?_modify, if_pos, h]; rfl
theorem arc_at {w : World} {b : Nat} {u v x : Value} (h : w.heap[b]? = some (.cells #[u, v, x] 30)) : w.cell? ⟨b, 0, none⟩ = some u ∧ w.cell? ⟨b, 1, none⟩ = some v ∧ w.cell? ⟨b, 2, none⟩ = some x ∧ ∀ i, w.frozen? ⟨b, i, none⟩ = false := by
  refine ⟨?_, ?_, ?_, fun i => ?_⟩
  · simp only [World.cell?, h]; rfl
  · simp only [World.cell?, h]; rfl
  · simp only [World.cell?, h]; rfl
  · simp only [World.frozen?, h]; simp
theorem Sp.arcsOf_succ (n : Nat) (ns : List Int) (low : Int) {i : Nat} (hi : i < ns.length) : Sp.arcsOf n ns low (i + 1) = Sp.arcsOf n ns low i ++ [Sp.arcOf n (ns.getD i 0 % 1125899906842624) low] := by
  unfold Sp.arcsOf
  rw [List.take_succ_eq_append_getElem hi, List.map_append, List.getD_eq_getElem?_getD, List.getElem?_eq_getElem hi]; rfl
theorem Sp.arcsOf_len (n : Nat) (ns : List Int) (low : Int) (i : Nat) : (Sp.arcsOf n ns low i).length = min i ns.length := by
  unfold Sp.arcsOf; rw [List.length_map, List.length_take]
theorem Sp.arcsOf_all (n : Nat) (ns : List Int) (low : Int) (h : ns.length ≤ 50) : Sp.arcsOf n ns low ns.length = Sp.arcsOf n ns low 50 := by
  unfold Sp.arcsOf; rw [List.take_of_length_le (Nat.le_refl _), List.take_of_length_le h]
set_option maxRecDepth 100000 in
set_option maxHeartbeats 8000000 in
theorem arcs_any (n : Nat) (ns : List Int) (low : Int) (nv : Value) (w : World) (hv : Ints w nv ns) (hn : 0 < n) (hn2 : n ≤ 60) (hl0 : 0 ≤ low) (hl8 : low ≤ 8) :
    Calls Try.prog 11 #[.int .i64 (n : Int), nv, .int .i64 low] w fun e w' => ∃ rv, e = .returned rv ∧ OwnA w' w.heap.size rv (Sp.arcsOf n ns low 50) ∧ Below w.heap.size w w' := by
  obtain ⟨na, nc, rfl, hnc, hnm, HN⟩ := hv.allA
  have hmax : ns.length ≤ 9223372036854775807 := Nat.le_trans (Nat.le_trans hnc hnm) (by unfold maxLen; omega)
  have HS := hide (fun (i : Nat) (hi : i < ns.length) => Sp.arcsOf_succ n ns low hi)
  have HLn := hide (Sp.arcsOf_len n ns low)
  have HAl : Hid (ns.length ≤ 50 → Sp.arcsOf n ns low ns.length = Sp.arcsOf n ns low 50) := hide (Sp.arcsOf_all n ns low)
  obtain ⟨P, hP⟩ : ∃ P : Ending → World → Prop, P = fun e w' => ∃ rv, e = .returned rv ∧ OwnA w' w.heap.size rv (Sp.arcsOf n ns low 50) ∧ Below w.heap.size w w' := ⟨_, rfl⟩
  rw [← hP]
  have HP := hide hP
  have HI0 : Hid (Below w.heap.size w w ∧ OwnA w w.heap.size (.slice none 0 0) (Sp.arcsOf n ns low 0)) := hide ⟨Below.refl _ _, OwnA.nil _ _⟩
  have hnI : 0 < (n : Int) := by omega
  have hn0 : ¬ n = 0 := by omega
  have hnZ : ¬ (n : Int) = 0 := by omega
  clear hP hv hnc hnm
  go_enter Try.func11, Try.ntmps11
  go_wp2
  go_loopg [7, 8] 50 (fun g s7 s8 wr => ∃ i : Nat, i + g = 50 ∧ i ≤ ns.length ∧ s8 = .int .i64 (i : Int) ∧ Hid (Below w.heap.size w wr ∧ OwnA wr w.heap.size s7 (Sp.arcsOf n ns low i)))
  case atStart => exact ⟨0, by omega, by omega, rfl, HI0⟩
  case round =>
    clear HI0
    obtain ⟨i, hig, hin, rfl, HI⟩ := hrel
    have hli := unhide HLn i
    obtain ⟨ra, rc, hrv, -⟩ := (unhide HI).2.arcs.form
    rw [hli, Nat.min_eq_left hin] at hrv
    subst hrv
    by_cases hi : i < ns.length
    · have hiI : (i : Int) < (ns.length : Int) := by omega
      cases gk with
      | zero =>
        obtain rfl : i = 50 := by omega
        have hi50 : ¬ ((50 : Nat) : Int) < 50 := by omega
        go_wp2
        rw [unhide HP]
        exact ⟨_, rfl, (unhide HI).2, (unhide HI).1⟩
      | succ g' =>
        have hi50 : (i : Int) < 50 := by omega
        obtain ⟨b, o, rfl, hb, hcx⟩ := unhide HN i hi
        have c1 := hcx wr (unhide HI).1
        have HSi := unhide HS i hi
        have HV := hide (within6_any (ns.getD i 0) 1125899906842624 wr (by omega) (by omega))
        have hk0 : 0 ≤ ns.getD i 0 % 1125899906842624 := Int.emod_nonneg _ (by omega)
        have hk1 : ns.getD i 0 % 1125899906842624 < 1125899906842624 := Int.emod_lt_of_pos _ (by omega)
        generalize ns.getD i 0 = z at *
        generalize z % 1125899906842624 = k at *
        obtain ⟨f, hf⟩ : ∃ f : Nat, (k % (n : Int)).toNat = f := ⟨_, rfl⟩
        obtain ⟨t, ht⟩ : ∃ t : Nat, (k / 31 % (n : Int)).toNat = t := ⟨_, rfl⟩
        have e1 : k.tmod (n : Int) = (f : Int) := by rw [Int.tmod_eq_emod_of_nonneg hk0, ← hf]; exact (Int.toNat_of_nonneg (Int.emod_nonneg _ (by omega))).symm
        have e2 : k.tdiv 31 = k / 31 := Int.tdiv_eq_ediv_of_nonneg hk0
        have e3 : (k / 31).tmod (n : Int) = (t : Int) := by rw [Int.tmod_eq_emod_of_nonneg (by omega), ← ht]; exact (Int.toNat_of_nonneg (Int.emod_nonneg _ (by omega))).symm
        have e4 : k.tdiv 1000 = k / 1000 := Int.tdiv_eq_ediv_of_nonneg hk0
        have e5 : (k / 1000).tmod 9 = k / 1000 % 9 := Int.tmod_eq_emod_of_nonneg (by omega)
        have e6 : k.tdiv 9000 = k / 9000 := Int.tdiv_eq_ediv_of_nonneg hk0
        have e7 : (k / 9000).tmod 13 = k / 9000 % 13 := Int.tmod_eq_emod_of_nonneg (by omega)
        have e8 : k.tdiv 117000 = k / 117000 := Int.tdiv_eq_ediv_of_nonneg hk0
        have e9 : (k / 117000).tmod 1048576 = k / 117000 % 1048576 := Int.tmod_eq_emod_of_nonneg (by omega)
        have b5 : 0 ≤ k / 1000 % 9 ∧ k / 1000 % 9 < 9 := by omega
        have b9 : 0 ≤ k / 117000 % 1048576 ∧ k / 117000 % 1048576 < 1048576 := by omega
        obtain ⟨lx, hlx⟩ : ∃ lx, lx = if k / 9000 % 13 = 0 then k / 117000 % 1048576 - low else k / 1000 % 9 - low := ⟨_, rfl⟩
        have hArc : Sp.arcOf n k low = ⟨f, t, lx⟩ := by unfold Sp.arcOf; rw [hf, ht, hlx]
        rw [hArc] at HSi
        have HSj := hide HSi
        have Hlx := hide hlx
        have w1 : 0 ≤ k / 31 ∧ k / 31 ≤ 1125899906842624 := by omega
        have w2 : 0 ≤ k / 1000 ∧ k / 1000 ≤ 1125899906842624 := by omega
        have w3 : 0 ≤ k / 9000 ∧ k / 9000 ≤ 1125899906842624 := by omega
        have w4 : 0 ≤ k / 117000 ∧ k / 117000 ≤ 1125899906842624 := by omega
        generalize k / 1000 % 9 = r9 at *
        generalize k / 9000 % 13 = r13 at *
        generalize k / 117000 % 1048576 = r17 at *
        generalize k / 31 = q31 at *
        generalize k / 1000 = q1000 at *
        generalize k / 9000 = q9000 at *
        generalize k / 117000 = q117 at *
        obtain ⟨w11, w12⟩ := w1
        obtain ⟨w21, w22⟩ := w2
        obtain ⟨w31, w32⟩ := w3
        obtain ⟨w41, w42⟩ := w4
        have hfN : 0 ≤ (f : Int) ∧ (f : Int) < (n : Int) := by have := Int.tmod_lt_of_pos k hnI; omega
        have htN : 0 ≤ (t : Int) ∧ (t : Int) < (n : Int) := by have := Int.tmod_lt_of_pos q31 hnI; omega
        obtain ⟨-, hfN⟩ := hfN
        obtain ⟨-, htN⟩ := htN
        obtain ⟨b51, b52⟩ := b5
        obtain ⟨b91, b92⟩ := b9
        have wq1 : IntKind.i64.wrap q31 = q31 := by rw [IntKind.wrap_i64]; omega
        have wq2 : IntKind.i64.wrap q1000 = q1000 := by rw [IntKind.wrap_i64]; omega
        have wq3 : IntKind.i64.wrap q9000 = q9000 := by rw [IntKind.wrap_i64]; omega
        have wq4 : IntKind.i64.wrap q117 = q117 := by rw [IntKind.wrap_i64]; omega
        have wq5 : IntKind.i64.wrap (r9 - low) = r9 - low := by rw [IntKind.wrap_i64]; omega
        have wq6 : IntKind.i64.wrap (r17 - low) = r17 - low := by rw [IntKind.wrap_i64]; omega
        clear hcx hf ht hArc HSi hlx
        go_wp2_with fail
        go_at_call 10
        refine (unhide HV).mono ?_
        rintro e w2 ⟨rfl, hw2⟩
        have hw2' := hw2.symm
        subst hw2'
        clear hw2 HV c1
        go_upto_region 6 with fail
        go_cut [10] (fun s10 w9 => ∃ wq wx, s10 = .pointer (some ⟨wq.heap.size, 0, none⟩) ∧ wx = w9 ∧ Hid (Below wr.heap.size wr wq ∧ wx = wq.alloc (.cells #[.int .i64 (f : Int), .int .i64 (t : Int), .int .i64 (r9 - low)] 30)))
        case first =>
          refine wp_region_G (fun w' => True) (fun _ => false) (by kernel_rfl) trivial (fun hHeld => ?_)
          have hbq := (Below.refl wr.heap.size wr).drew
          generalize wr.drew = wq at *
          refine wpAnyG_take (v := ?_) 0 (by rfl) (by kernel_rfl) (by kernel_rfl) (by kernel_rfl) (by kernel_rfl) (fun _ _ _ h => h) (Or.inl ⟨by rfl, ?_⟩) (by assumption) ?_
          rotate_left
          · (intro w' hSw; (try dsimp only at hSw); (try simp only [List.getElem_toArray, List.getElem_cons_zero]); go_simp; try (with_reducible rfl))
          simp only [Act.put, List.getElem_toArray, List.getElem_cons_zero, List.setIfInBounds_toArray, List.set_cons_zero, List.set_cons_succ]
          refine wpAnyG_take (v := ?_) 1 (by rfl) (by kernel_rfl) (by kernel_rfl) (by kernel_rfl) (by kernel_rfl) (fun _ _ _ h => h) (Or.inl ⟨by rfl, ?_⟩) (by assumption) ?_
          rotate_left
          · (intro w' hSw; (try dsimp only at hSw); (try simp only [List.getElem_toArray, List.getElem_cons_succ, List.getElem_cons_zero]); go_simp; try (with_reducible rfl))
          simp only [Act.put, List.getElem_toArray, List.getElem_cons_succ, List.getElem_cons_zero, List.setIfInBounds_toArray, List.set_cons_zero, List.set_cons_succ]
          refine wpAnyG_take (v := ?_) 2 (by rfl) (by kernel_rfl) (by kernel_rfl) (by kernel_rfl) (by kernel_rfl) (fun _ _ _ h => h) (Or.inl ⟨by rfl, ?_⟩) (by assumption) ?_
          rotate_left
          · (intro w' hSw; (try dsimp only at hSw); (try simp only [List.getElem_toArray, List.getElem_cons_succ, List.getElem_cons_zero]); go_simp; try (with_reducible rfl))
          simp only [Act.put, List.getElem_toArray, List.getElem_cons_succ, List.getElem_cons_zero, List.setIfInBounds_toArray, List.set_cons_zero, List.set_cons_succ]
          refine wpAnyG_take (v := ?_) 3 (by rfl) (by kernel_rfl) (by kernel_rfl) (by kernel_rfl) (by kernel_rfl) (fun _ _ _ h => h) (Or.inl ⟨by rfl, ?_⟩) (by assumption) ?_
          rotate_left
          · (intro w' hSw; (try dsimp only at hSw); (try simp only [List.getElem_toArray, List.getElem_cons_succ, List.getElem_cons_zero]); go_simp; try (with_reducible rfl))
          simp only [Act.put, List.getElem_toArray, List.getElem_cons_succ, List.getElem_cons_zero, List.setIfInBounds_toArray, List.set_cons_zero, List.set_cons_succ]
          refine wpAnyG_take (v := ?_) 4 (by rfl) (by kernel_rfl) (by kernel_rfl) (by kernel_rfl) (by kernel_rfl) (fun _ _ _ h => h) (Or.inl ⟨by rfl, ?_⟩) (by assumption) ?_
          rotate_left
          · (intro w' hSw; (try dsimp only at hSw); (try simp only [List.getElem_toArray, List.getElem_cons_succ, List.getElem_cons_zero]); go_simp; try (with_reducible rfl))
          simp only [Act.put, List.getElem_toArray, List.getElem_cons_succ, List.getElem_cons_zero, List.setIfInBounds_toArray, List.set_cons_zero, List.set_cons_succ]
          refine wpAnyG_take (v := ?_) 5 (by rfl) (by kernel_rfl) (by kernel_rfl) (by kernel_rfl) (by kernel_rfl) (fun _ _ _ h => h) (Or.inl ⟨by rfl, ?_⟩) (by assumption) ?_
          rotate_left
          · (intro w' hSw; (try dsimp only at hSw); (try simp only [List.getElem_toArray, List.getElem_cons_succ, List.getElem_cons_zero]); go_simp; try (with_reducible rfl))
          simp only [Act.put, List.getElem_toArray, List.getElem_cons_succ, List.getElem_cons_zero, List.setIfInBounds_toArray, List.set_cons_zero, List.set_cons_succ]
          refine wpAnyG_take (v := ?_) 6 (by rfl) (by kernel_rfl) (by kernel_rfl) (by kernel_rfl) (by kernel_rfl) (fun _ _ _ h => h) (Or.inl ⟨by rfl, ?_⟩) (by assumption) ?_
          rotate_left
          · (intro w' hSw; (try dsimp only at hSw); (try simp only [List.getElem_toArray, List.getElem_cons_succ, List.getElem_cons_zero]); go_simp; try (with_reducible rfl))
          simp only [Act.put, List.getElem_toArray, List.getElem_cons_succ, List.getElem_cons_zero, List.setIfInBounds_toArray, List.set_cons_zero, List.set_cons_succ]
          refine wpAnyG_take (v := ?_) 7 (by rfl) (by kernel_rfl) (by kernel_rfl) (by kernel_rfl) (by kernel_rfl) (fun _ _ _ h => h) (Or.inl ⟨by rfl, ?_⟩) (by assumption) ?_
          rotate_left
          · (intro w' hSw; (try dsimp only at hSw); (try simp only [List.getElem_toArray, List.getElem_cons_succ, List.getElem_cons_zero]); go_simp; try (with_reducible rfl))
          simp only [Act.put, List.getElem_toArray, List.getElem_cons_succ, List.getElem_cons_zero, List.setIfInBounds_toArray, List.set_cons_zero, List.set_cons_succ]
          refine wpAnyG_take (v := ?_) 8 (by rfl) (by kernel_rfl) (by kernel_rfl) (by kernel_rfl) (by kernel_rfl) (fun _ _ _ h => h) (Or.inl ⟨by rfl, ?_⟩) (by assumption) ?_
          rotate_left
          · (intro w' hSw; (try dsimp only at hSw); (try simp only [List.getElem_toArray, List.getElem_cons_succ, List.getElem_cons_zero]); go_simp; try (with_reducible rfl))
          simp only [Act.put, List.getElem_toArray, List.getElem_cons_succ, List.getElem_cons_zero, List.setIfInBounds_toArray, List.set_cons_zero, List.set_cons_succ]
          refine wpAnyG_take (v := ?_) 9 (by rfl) (by kernel_rfl) (by kernel_rfl) (by kernel_rfl) (by kernel_rfl) (fun _ _ _ h => h) (Or.inl ⟨by rfl, ?_⟩) (by assumption) ?_
          rotate_left
          · (intro w' hSw; (try dsimp only at hSw); (try simp only [List.getElem_toArray, List.getElem_cons_succ, List.getElem_cons_zero]); go_simp; try (with_reducible rfl))
          simp only [Act.put, List.getElem_toArray, List.getElem_cons_succ, List.getElem_cons_zero, List.setIfInBounds_toArray, List.set_cons_zero, List.set_cons_succ]
          refine wpAnyG_take (v := ?_) 10 (by rfl) (by kernel_rfl) (by kernel_rfl) (by kernel_rfl) (by kernel_rfl) (fun _ _ _ h => h) (Or.inl ⟨by rfl, ?_⟩) (by assumption) ?_
          rotate_left
          · (intro w' hSw; (try dsimp only at hSw); (try simp only [List.getElem_toArray, List.getElem_cons_succ, List.getElem_cons_zero]); go_simp; try (with_reducible rfl))
          simp only [Act.put, List.getElem_toArray, List.getElem_cons_succ, List.getElem_cons_zero, List.setIfInBounds_toArray, List.set_cons_zero, List.set_cons_succ]
          refine wpAnyG_take (v := ?_) 11 (by rfl) (by kernel_rfl) (by kernel_rfl) (by kernel_rfl) (by kernel_rfl) (fun _ _ _ h => h) (Or.inl ⟨by rfl, ?_⟩) (by assumption) ?_
          rotate_left
          · (intro w' hSw; (try dsimp only at hSw); (try simp only [List.getElem_toArray, List.getElem_cons_succ, List.getElem_cons_zero]); go_simp; try (with_reducible rfl))
          simp only [Act.put, List.getElem_toArray, List.getElem_cons_succ, List.getElem_cons_zero, List.setIfInBounds_toArray, List.set_cons_zero, List.set_cons_succ]
          refine wpAnyG_take (v := ?_) 12 (by rfl) (by kernel_rfl) (by kernel_rfl) (by kernel_rfl) (by kernel_rfl) (fun _ _ _ h => h) (Or.inl ⟨by rfl, ?_⟩) (by assumption) ?_
          rotate_left
          · (intro w' hSw; (try dsimp only at hSw); (try simp only [List.getElem_toArray, List.getElem_cons_succ, List.getElem_cons_zero]); go_simp; try (with_reducible rfl))
          simp only [Act.put, List.getElem_toArray, List.getElem_cons_succ, List.getElem_cons_zero, List.setIfInBounds_toArray, List.set_cons_zero, List.set_cons_succ]
          refine wpAnyG_ready [13] (by kernel_rfl) (by simp) ?_
          refine AllReadyG.cons 13 (by rfl) (fun K hK => ?_) ?_
          · simp only [List.getElem_toArray, List.getElem_cons_succ, List.getElem_cons_zero]
            go_simp
            refine hK.out _ _ trivial (fun _ => ?_)
            clear hK K
            try simp only [Act.put, List.setIfInBounds_toArray, List.set_cons_zero, List.set_cons_succ]
            refine wpAnyG_ready [14] (by kernel_rfl) (by simp) ?_
            refine AllReadyG.cons 14 (by rfl) (fun K hK => ?_) ?_
            · simp only [List.getElem_toArray, List.getElem_cons_succ, List.getElem_cons_zero]
              go_simp
              refine hK.out _ _ trivial (fun _ => ?_)
              clear hK K
              try simp only [Act.put, List.setIfInBounds_toArray, List.set_cons_zero, List.set_cons_succ]
              refine wpAnyG_done (by kernel_rfl) ?_ _
              refine NoPanic.normal ?_
              go_wp2
              go_meet
              exact ⟨_, _, rfl, rfl, hide ⟨hbq, rfl⟩⟩
            exact AllReadyG.nil
          exact AllReadyG.nil
        case rest =>
          obtain ⟨wq, wx, rfl, hwx, HBX⟩ := hcut
          subst hwx
          have hbq := (unhide HBX).1
          have hwx2 := (unhide HBX).2
          have hx : wx.heap[wq.heap.size]? = some (.cells #[.int .i64 (f : Int), .int .i64 (t : Int), .int .i64 (r9 - low)] 30) := by
            rw [hwx2]; show (wq.heap.push _)[wq.heap.size]? = _; simp
          have hbx : Below wr.heap.size wr wx := by rw [hwx2]; exact hbq.alloc hbq.size _
          have hob : OwnA wx w.heap.size (.slice ra i rc) (Sp.arcsOf n ns low i) := (unhide HI).2.below hbx
          have hwb : Below w.heap.size w wx := (unhide HI).1.trans (hbx.mono (unhide HI).1.size)
          have hqs : wr.heap.size ≤ wq.heap.size := hbq.size
          have hrl : ∀ g, (Value.slice ra i rc).ownBlock = some g → g < wq.heap.size := fun g hg => Nat.lt_of_lt_of_le ((unhide HI).2.lt g hg).2 hqs
          have hws : w.heap.size ≤ wq.heap.size := Nat.le_trans (unhide HI).1.size hqs
          obtain ⟨u0, u1, u2, uf⟩ := arc_at hx
          have HH := hide (And.intro hob (And.intro hwb (And.intro hrl (And.intro hx hws))))
          clear hbq hwx2 HBX hob hwb hrl hx hbx HI hqs hws
          by_cases h13 : r13 = 0
          · have hle : lx = r17 - low := by rw [unhide Hlx, if_pos h13]
            have hb13 : (r13 == 0) = true := beq_iff_eq.2 h13
            obtain ⟨wY, hwY⟩ : ∃ wY, wY = wx.setCell ⟨wq.heap.size, 2, none⟩ (.int .i64 (r17 - low)) := ⟨_, rfl⟩
            have hY : wY.heap[wq.heap.size]? = some (.cells #[.int .i64 (f : Int), .int .i64 (t : Int), .int .i64 lx] 30) := by
              rw [hwY, hle]; exact arc_set2 (unhide HH).2.2.2.1 _
            have hoY : OwnA wY w.heap.size (.slice ra i rc) (Sp.arcsOf n ns low i) := (unhide HH).1.keep fun g hg => by
              rw [hwY, Below.heap_setCell _ _ _ _ (by show g ≠ wq.heap.size; have := (unhide HH).2.2.1 g hg; omega)]
            have hbY : Below w.heap.size w wY := by rw [hwY]; exact (unhide HH).2.1.setCell (p := ⟨wq.heap.size, 2, none⟩) (unhide HH).2.2.2.2 _
            obtain ⟨v0, v1, v2, -⟩ := arc_at hY
            have HY := hide (And.intro hoY (And.intro hbY hbY.size))
            rw [hle] at v2
            have Hle := hide hle
            clear hY hoY hbY hle
            rw [hwY] at v0 v1 v2
            go_wp2_with (at_builtin; refine wpList_appA (w := (wx.setCell ⟨wq.heap.size, 2, none⟩ (.int .i64 (r17 - low))).alloc (.cells #[.int .i64 (f : Int), .int .i64 (t : Int), .int .i64 (r17 - low)] 30)) rfl _ _ rfl w.heap.size _ _ (Sp.arcsOf n ns low i) [⟨f, t, r17 - low⟩] rfl rfl (by rw [← hwY]; exact (unhide HY).1.alloc _) (OwnA.arcs (own_litA _ 0 _ 1 [⟨f, t, r17 - low⟩] _ rfl (by simp [World.setCell]) rfl (Nat.zero_le _) (by simp))) (i + 1) (by rw [hli, Nat.min_eq_left hin]; rfl) (by omega) (by rw [← hwY]; have := (unhide HY).2.2; simp; omega) ?_)
            intro a6 c6 w6 hown6 hg6 ho6
            have HF : Hid (Below w.heap.size w w6 ∧ OwnA w6 w.heap.size (.slice a6 (i + 1) c6) (Sp.arcsOf n ns low (i + 1))) := hide ⟨by
              rw [← hwY] at hg6
              exact ((unhide HY).2.1.alloc (unhide HY).2.2 _).grown hg6 (by have := (unhide HY).2.2; simp; omega) (fun g hg => ((unhide HH).1.lt g hg).1), by rw [unhide HSj, unhide Hle]; exact hown6⟩
            clear hown6 hg6 ho6 hwY v0 v1 v2
            go_wp2
            go_roundg g'
            case rel => exact ⟨i + 1, by omega, by omega, by go_num, HF⟩
            case measure => omega
          · have hle : lx = r9 - low := by rw [unhide Hlx, if_neg h13]
            have hb13 : (r13 == 0) = false := beq_eq_false_iff_ne.2 h13
            have Hle := hide hle
            clear hle
            go_wp2_with (at_builtin; refine wpList_appA (w := wx.alloc (.cells #[.int .i64 (f : Int), .int .i64 (t : Int), .int .i64 (r9 - low)] 30)) rfl _ _ rfl w.heap.size _ _ (Sp.arcsOf n ns low i) [⟨f, t, r9 - low⟩] rfl rfl ((unhide HH).1.alloc _) (OwnA.arcs (own_litA _ 0 _ 1 [⟨f, t, r9 - low⟩] _ rfl rfl rfl (Nat.zero_le _) (by simp))) (i + 1) (by rw [hli, Nat.min_eq_left hin]; rfl) (by omega) (by have := (unhide HH).2.1.size; simp; omega) ?_)
            intro a6 c6 w6 hown6 hg6 ho6
            have HF : Hid (Below w.heap.size w w6 ∧ OwnA w6 w.heap.size (.slice a6 (i + 1) c6) (Sp.arcsOf n ns low (i + 1))) := hide ⟨((unhide HH).2.1.alloc (unhide HH).2.1.size _).grown hg6 (by have := (unhide HH).2.1.size; simp; omega) (fun g hg => ((unhide HH).1.lt g hg).1), by rw [unhide HSj, unhide Hle]; exact hown6⟩
            clear hown6 hg6 ho6
            go_wp2
            go_roundg g'
            case rel => exact ⟨i + 1, by omega, by omega, by go_num, HF⟩
            case measure => omega
    · obtain rfl : i = ns.length := by omega
      have hiI : ¬ ((ns.length : Nat) : Int) < (ns.length : Int) := by omega
      have HA2 := unhide HAl (by omega)
      go_wp2
      rw [unhide HP]
      exact ⟨_, rfl, by rw [← HA2]; exact (unhide HI).2, (unhide HI).1⟩
end Go.Proofs.Ytggjpglakocilaa


/- Known arcs: their ways. -/
namespace Go.Proofs.Ytggjpglakocilaa
open Go Go.RowKit

theorem Sp.ps_ok {far : Int} {L : List Sp.Arc} {s n : Nat} (k : Nat) (hf : 0 < far) (hs : s < n) (hL : ∀ a ∈ L, a.f < n) (hc : ∀ a ∈ L, Sp.ps far L (Sp.d0 far s) k a.f ≠ far → ¬ (Sp.ps far L (Sp.d0 far s) k a.f + a.l < Sp.ps far L (Sp.d0 far s) k a.t) ∧ Sp.ps far L (Sp.d0 far s) k a.f + a.l < far) : Sp.Short far L s n (Sp.ps far L (Sp.d0 far s) k) :=
  Sp.short_still hs (Sp.Att.ps hf hL (Sp.att0 hf) k) (fun a ha hne => (hc a ha hne).1) (fun a ha hne => (hc a ha hne).2)
/-- A step of the way: the first arc that may go on. -/
theorem Sp.WayIs.step {L : List Sp.Arc} {y : Nat → Int} {t v : Nat} {W : List Nat} (h : Sp.WayIs L y t v W) (hv : v ≠ t) {i : Nat} (hi : Sp.tt L y v i = true) (hk : ∀ k, k < i → Sp.tt L y v k = false) : ∃ r, W = i :: r ∧ Sp.WayIs L y t (L.getD i Sp.arc0).t r := by
  cases W with
  | nil => exact absurd h hv
  | cons j r =>
    obtain ⟨-, h2, h3, h4, h5⟩ := h
    have e : j = i := by
      rcases Nat.lt_trichotomy j i with e | e | e
      · rw [hk j e] at h3; cases h3
      · exact e
      · rw [h4 i e] at hi; cases hi
    subst e
    exact ⟨r, rfl, h5⟩
theorem Sp.WayIs.end_ {L : List Sp.Arc} {y : Nat → Int} {t : Nat} {W : List Nat} (h : Sp.WayIs L y t t W) : W = [] := by
  cases W with
  | nil => rfl
  | cons j r => exact absurd rfl h.1
def Sp.L0 : List Sp.Arc := [⟨0, 1, 5⟩, ⟨1, 2, 2⟩, ⟨0, 2, 9⟩]
theorem Sp.L0_short : Sp.Short 1152921504606846976 Sp.L0 0 3 (Sp.ps 1152921504606846976 Sp.L0 (Sp.d0 1152921504606846976 0) 3) := Sp.ps_ok 3 (by decide) (by decide) (by decide) (by decide +kernel)
theorem Sp.L0_row {D : Nat → Int} (h : Sp.Short 1152921504606846976 Sp.L0 0 3 D) : D 0 = 0 ∧ D 1 = 5 ∧ D 2 = 7 := by
  refine ⟨?_, ?_, ?_⟩ <;> (rw [h.uniq Sp.L0_short (by decide) (by decide)]; decide +kernel)
theorem Sp.L0_snd : Sp.Snd 3 Sp.L0 := ⟨by decide, by decide⟩
theorem Sp.L0_tow {y : Nat → Int} (h : Sp.Tow Sp.L0 2 3 y) : (y 0 = 7 ∧ y 1 = 2) ∧ (y 2 = 2 ∧ y 3 = 1) ∧ y 4 = 0 ∧ y 5 = 0 := by
  have hs : Sp.Short 345876451382054092800 (Sp.pairL 300 (Sp.L0.map Sp.sw)) 2 3 (Sp.ps 345876451382054092800 (Sp.pairL 300 (Sp.L0.map Sp.sw)) (Sp.d0 345876451382054092800 2) 3) := Sp.ps_ok 3 (by decide) (by decide) (by decide) (by decide +kernel)
  have e0 : Sp.rk y 0 = 2102 := by rw [h.sh.uniq hs (by decide) (by decide)]; decide +kernel
  have e1 : Sp.rk y 1 = 601 := by rw [h.sh.uniq hs (by decide) (by decide)]; decide +kernel
  have e2 : Sp.rk y 2 = 0 := by rw [h.sh.uniq hs (by decide) (by decide)]; decide +kernel
  have b0 := h.bd 0 (by decide)
  have b1 := h.bd 1 (by decide)
  have b2 := h.bd 2 (by decide)
  unfold Sp.rk at e0 e1 e2
  simp only [Nat.zero_mul, Nat.zero_add, Nat.one_mul, Nat.reduceMul, Nat.reduceAdd] at e0 e1 e2 b0 b1 b2
  exact ⟨by rcases b0 with b | b <;> omega, by rcases b1 with b | b <;> omega, by rcases b2 with b | b <;> omega⟩
theorem Sp.L0_way {y : Nat → Int} {W : List Nat} (h : Sp.Tow Sp.L0 2 3 y) (hw : Sp.WayIs Sp.L0 y 2 0 W) : W = [0, 1] := by
  obtain ⟨⟨a0, a1⟩, ⟨a2, a3⟩, a4, a5⟩ := Sp.L0_tow h
  obtain ⟨r, rfl, hw1⟩ := hw.step (by decide) (i := 0) (by unfold Sp.tt; simp [Sp.L0, a0, a1, a2, a3]) (fun k hk => by omega)
  obtain ⟨r2, rfl, hw2⟩ := Sp.WayIs.step hw1 (by decide) (i := 1) (by unfold Sp.tt; simp [Sp.L0, a2, a3, a4, a5]) (fun k hk => by
    obtain rfl : k = 0 := by omega
    unfold Sp.tt; simp [Sp.L0])
  have := Sp.WayIs.end_ hw2
  subst this
  rfl
theorem Sp.nil_row {D : Nat → Int} (h : Sp.Short 1152921504606846976 [] 0 1 D) : D 0 = 0 := h.src
end Go.Proofs.Ytggjpglakocilaa


/- watershedlaw6: known. -/
namespace Go.Proofs.Ytggjpglakocilaa
open Go Go.RowKit

theorem L0_is (w : World) : ArcsI (w.alloc (.cells #[.int .i64 0, .int .i64 1, .int .i64 5, .int .i64 1, .int .i64 2, .int .i64 2, .int .i64 0, .int .i64 2, .int .i64 9] 30)) (.slice (some ⟨w.heap.size, 0, none⟩) 3 3) Sp.L0 :=
  OwnA.arcs (own_litA w 0 _ 3 Sp.L0 _ rfl rfl rfl (Nat.zero_le _) (by decide))
theorem Ints.cellA {w : World} {b o n c : Nat} {l : List Int} (h : Ints w (.slice (some ⟨b, o, none⟩) n c) l) (k : Nat) (hk : k < l.length) : w.cell? ⟨b, o + k, none⟩ = some (.int .i64 (l.getD k 0)) := by
  obtain ⟨a, c', e, -, -, H⟩ := h.allA
  obtain ⟨b', o', e2, -, h2⟩ := unhide H k hk
  injection e with e1 _ _
  rw [e2] at e1
  injection e1 with e1
  injection e1 with q1 q2
  subst q1 q2
  exact h2 w (Below.refl _ _)
theorem row3 (D : Nat → Int) {a b c : Int} (h0 : D 0 = a) (h1 : D 1 = b) (h2 : D 2 = c) : (List.range 3).map D = [a, b, c] := by
  show [D 0, D 1, D 2] = _
  rw [h0, h1, h2]
theorem known6_From (lv : Value) (w : World) (hl : ArcsI w lv Sp.L0) : Calls Try.prog 12 #[.int .i64 3, lv, .int .i64 0] w fun e w' => ∃ G, e = .returned (.slice (some ⟨G, 0, none⟩) 3 3) ∧ Ints w' (.slice (some ⟨G, 0, none⟩) 3 3) [0, 5, 7] ∧ Below w.heap.size w w' := by
  have h := from_any 3 Sp.L0 0 lv w hl Sp.L0_snd (by decide) (by decide) (by decide)
  refine h.mono ?_
  rintro e w' ⟨G, D, rfl, -, hr, hb, hD, -⟩
  obtain ⟨d0, d1, d2⟩ := Sp.L0_row hD
  have hi := hr.ints (by decide)
  rw [row3 D d0 d1 d2] at hi
  exact ⟨G, rfl, hi, hb⟩
theorem L0_ex : ∃ D, Sp.Short 1152921504606846976 Sp.L0 0 3 D ∧ ∀ v, D v ≠ 1152921504606846976 → D v < 1152921504606846976 :=
  Sp.Short.ex (by decide) (by decide) Sp.L0_short (by
    intro v hv _
    rcases (show v = 0 ∨ v = 1 ∨ v = 2 by omega) with rfl | rfl | rfl <;> decide +kernel)
theorem known6_Any (lv : Value) (w : World) (hl : ArcsI w lv Sp.L0) : Calls Try.prog 16 #[.int .i64 3, lv, .int .i64 0] w fun e w' => ∃ G, e = .returned (.tuple #[.slice (some ⟨G, 0, none⟩) 3 3, .slice none 0 0, .bool true]) ∧ Ints w' (.slice (some ⟨G, 0, none⟩) 3 3) [0, 5, 7] ∧ Below w.heap.size w w' := by
  have h := any_yes 3 Sp.L0 0 lv w hl Sp.L0_snd (by decide) (by decide) L0_ex
  refine h.mono ?_
  rintro e w' ⟨G, D, rfl, -, hr, hb, hD⟩
  obtain ⟨d0, d1, d2⟩ := Sp.L0_row hD
  have hi := hr.ints (by decide)
  rw [row3 D d0 d1 d2] at hi
  exact ⟨G, rfl, hi, hb⟩
theorem known6_Right (lv dv : Value) (w : World) (hl : ArcsI w lv Sp.L0) (hd : Ints w dv [0, 5, 7]) : Calls Try.prog 15 #[.int .i64 3, lv, .int .i64 0, dv] w fun e w' => e = .returned (.bool true) ∧ Below w.heap.size w w' := by
  have h := right_yes 3 Sp.L0 0 [0, 5, 7] lv dv w hl hd (by decide) Sp.L0_snd (by decide) (by decide) L0_ex
  refine h.mono ?_
  rintro e w' ⟨hb, D, b, rfl, hD, rfl⟩
  obtain ⟨d0, d1, d2⟩ := Sp.L0_row hD
  rw [row3 D d0 d1 d2]
  exact ⟨rfl, hb⟩
theorem known6_Way (lv : Value) (w : World) (hl : ArcsI w lv Sp.L0) : Calls Try.prog 20 #[.int .i64 3, lv, .int .i64 0, .int .i64 2] w fun e w' => ∃ rv, e = .returned (.tuple #[rv, .bool true]) ∧ Ints w' rv [0, 1] ∧ Below w.heap.size w w' := by
  have h := way_any6 3 Sp.L0 0 2 lv w hl Sp.L0_snd (by decide) (by decide) (by decide) (by decide)
  refine h.mono ?_
  rintro e w' ⟨hb, y, hT, ⟨hf, rfl⟩ | ⟨-, rv, W, rfl, ho, -, hw⟩⟩
  · have := (Sp.L0_tow hT).1.1
    rw [show (0 * 2 : Nat) = 0 from rfl, this] at hf
    cases hf
  · have := Sp.L0_way hT hw
    subst this
    exact ⟨rv, rfl, OwnI.ints ho, hb⟩
theorem known6_One (w : World) : Calls Try.prog 12 #[.int .i64 1, .slice none 0 0, .int .i64 0] w fun e w' => ∃ G, e = .returned (.slice (some ⟨G, 0, none⟩) 1 1) ∧ Ints w' (.slice (some ⟨G, 0, none⟩) 1 1) [0] ∧ Below w.heap.size w w' := by
  have h := from_any 1 [] 0 (.slice none 0 0) w (OwnA.nil w 0).arcs ⟨by decide, fun a ha => by cases ha⟩ (fun a ha => by cases ha) (by decide) (by decide)
  refine h.mono ?_
  rintro e w' ⟨G, D, rfl, -, hr, hb, hD, -⟩
  have hi := hr.ints (by decide)
  have e1 : (List.range 1).map D = [0] := by show [D 0] = _; rw [Sp.nil_row hD]
  rw [e1] at hi
  exact ⟨G, rfl, hi, hb⟩
set_option maxRecDepth 100000 in
set_option maxHeartbeats 4000000 in
theorem known6_any (w : World) : Calls Try.prog 9 #[] w fun e w' => e = .returned (.bool true) ∧ Below w.heap.size w w' := by
  obtain ⟨W1, hW1⟩ : ∃ W1, W1 = w.alloc (.cells #[.int .i64 0, .int .i64 1, .int .i64 5, .int .i64 1, .int .i64 2, .int .i64 2, .int .i64 0, .int .i64 2, .int .i64 9] 30) := ⟨_, rfl⟩
  have hl := L0_is w
  rw [← hW1] at hl
  have hb1 : Below w.heap.size w W1 := by rw [hW1]; exact (Below.refl _ w).alloc (Nat.le_refl _) _
  have HL := hide (fun w' (hb : Below W1.heap.size W1 w') => hl.below hb)
  have HF := hide (known6_From _ W1 hl)
  have HB1 := hide (fun w' (hb : Below W1.heap.size W1 w') => hb1.trans (hb.mono hb1.size))
  clear hl hb1
  subst hW1
  go_enter Try.func9, Try.ntmps9
  go_wp2_with fail
  go_at_call 12
  generalize w.alloc (.cells #[.int .i64 0, .int .i64 1, .int .i64 5, .int .i64 1, .int .i64 2, .int .i64 2, .int .i64 0, .int .i64 2, .int .i64 9] 30) = W1 at *
  refine (unhide HF).mono ?_
  rintro e w2 ⟨G, rfl, hd2, hb2⟩
  have HW := hide (known6_Way _ w2 (unhide HL _ hb2))
  have H2 := hide (And.intro hb2 hd2)
  clear hd2 hb2 HF
  go_wp2_with fail
  go_at_call 20
  refine (unhide HW).mono ?_
  rintro e w3 ⟨rv, rfl, hr3, hb3⟩
  have H3 := hide (And.intro ((unhide H2).1.trans (hb3.mono (unhide H2).1.size)) (And.intro ((unhide H2).2.below hb3) hr3))
  obtain ⟨ra, rc, rfl, -⟩ := hr3.form
  have HA := hide (known6_Any _ w3 (unhide HL _ (unhide H3).1))
  clear hr3 hb3 H2 HW
  go_wp2_with fail
  go_at_call 16
  refine (unhide HA).mono ?_
  rintro e w4 ⟨G4, rfl, he4, hb4⟩
  have H4 := hide (And.intro ((unhide H3).1.trans (hb4.mono (unhide H3).1.size)) (And.intro ((unhide H3).2.1.below hb4) (And.intro ((unhide H3).2.2.below hb4) he4)))
  have HO := hide (known6_One w4)
  clear he4 hb4 H3 HA
  go_wp2_with fail
  go_at_call 12
  refine (unhide HO).mono ?_
  rintro e w5 ⟨G5, rfl, ho5, hb5⟩
  have H5 := hide (And.intro ((unhide H4).1.trans (hb5.mono (unhide H4).1.size)) (And.intro ((unhide H4).2.1.below hb5) (And.intro ((unhide H4).2.2.1.below hb5) ((unhide H4).2.2.2.below hb5))))
  have hd5 := (unhide H5).2.1
  have hr5 := (unhide H5).2.2.1
  have k1 := ho5.cellA 0 (by decide)
  have k2 := hd5.cellA 2 (by decide)
  have k3 : ∃ b o, ra = some ⟨b, o, none⟩ ∧ w5.cell? ⟨b, o + 1, none⟩ = some (.int .i64 1) := by
    obtain ⟨a, c', e, -, -, H⟩ := hr5.allA
    obtain ⟨b', o', e2, -, h2⟩ := unhide H 1 (by decide)
    injection e with e1 _ _
    exact ⟨b', o', by rw [e1, e2], h2 w5 (Below.refl _ _)⟩
  obtain ⟨b3, o3, rfl, k3⟩ := k3
  have k1' : w5.cell? ⟨G5, 0, none⟩ = some (.int .i64 0) := k1
  have k2' : w5.cell? ⟨G, 2, none⟩ = some (.int .i64 7) := k2
  have hI0 : Calls Try.prog 13 #[.slice (some ⟨G, 0, none⟩) 3 3, .slice (some ⟨G4, 0, none⟩) 3 3] w5 fun e w' => e = .returned (.bool true) ∧ Below w5.heap.size w5 w' := by
    refine (ints6_any [0, 5, 7] [0, 5, 7] _ _ w5 (unhide H5).2.1 (unhide H5).2.2.2 (by decide)).mono ?_
    rintro e w' ⟨rfl, hb⟩
    exact ⟨by simp, hb⟩
  have HI := hide hI0
  clear hI0
  have HRt := hide (fun w' (hb : Below w5.heap.size w5 w') => known6_Right _ _ w' (unhide HL _ ((unhide H5).1.trans (hb.mono (unhide H5).1.size))) ((unhide H5).2.1.below hb))
  have HE := hide (fun w' (hb : Below w5.heap.size w5 w') => unhide HB1 _ ((unhide H5).1.trans (hb.mono (unhide H5).1.size)))
  clear hd5 hr5 k1 k2 ho5 hb5 HO H4 H5 HL HB1
  go_wp2_with fail
  go_at_call 13
  refine (unhide HI).mono ?_
  rintro e w6 ⟨rfl, hb6⟩
  have HR6 := hide (unhide HRt _ hb6)
  have HB6 := hide hb6
  clear hb6 HRt HI
  go_wp2_with fail
  go_at_call 15
  refine (unhide HR6).mono ?_
  rintro e w7 ⟨rfl, hb7⟩
  have HB7 := hide (unhide HE _ ((unhide HB6).trans (hb7.mono (unhide HB6).size)))
  clear hb7 HR6 HE
  go_wp2
  go_ret
  exact ⟨by rfl, unhide HB7⟩
end Go.Proofs.Ytggjpglakocilaa


/- By which arc each place was shortened last, pass by pass (P601: Any's round). -/
namespace Go.Proofs.Ytggjpglakocilaa
open Go Go.RowKit

/-- The arc that a place's number names. -/
def Sp.byA (L : List Sp.Arc) (Y : Nat → Int) (v : Nat) : Option Sp.Arc := if Y v = -1 then none else some (L.getD (Y v).toNat Sp.arc0)
/-- While pass K is made, i arcs of it tried. -/
structure Sp.Pas (L : List Sp.Arc) (n K i : Nat) (D Y : Nat → Int) (tm pn : Nat → Nat) (clock : Nat) : Prop where
  tr : Sp.Tr 1152921504606846976 L n D (Sp.byA L Y) tm pn clock
  le : ∀ v, pn v ≤ K
  num : ∀ v, v < n → Y v = -1 ∨ ∃ m : Nat, Y v = (m : Int) ∧ m < L.length
  old : ∀ m, m < L.length → pn (L.getD m Sp.arc0).f + 1 < K → D (L.getD m Sp.arc0).f ≠ 1152921504606846976 → D (L.getD m Sp.arc0).t ≤ D (L.getD m Sp.arc0).f + (L.getD m Sp.arc0).l
  new_ : ∀ m, m < i → m < L.length → pn (L.getD m Sp.arc0).f < K → D (L.getD m Sp.arc0).f ≠ 1152921504606846976 → D (L.getD m Sp.arc0).t ≤ D (L.getD m Sp.arc0).f + (L.getD m Sp.arc0).l
theorem Sp.Pas.start (L : List Sp.Arc) (n s : Nat) : Sp.Pas L n 0 0 (Sp.pk L s 0) (fun _ => -1) (fun _ => 0) (fun _ => 0) 1 :=
  ⟨⟨fun v a _ h => by unfold Sp.byA at h; simp at h, fun v => by omega, fun v _ h => by omega⟩, fun _ => Nat.le_refl _, fun _ _ => .inl rfl, fun m _ h => by omega, fun m h => by omega⟩
/-- The next pass. -/
theorem Sp.Pas.next {L : List Sp.Arc} {n K : Nat} {D Y : Nat → Int} {tm pn : Nat → Nat} {clock : Nat} (h : Sp.Pas L n K L.length D Y tm pn clock) : Sp.Pas L n (K + 1) 0 D Y tm pn clock :=
  ⟨h.tr, fun v => by have := h.le v; omega, h.num, fun m hm hp hne => h.new_ m hm hm (by omega) hne, fun m hm => by omega⟩
/-- An arc that changes nothing. -/
theorem Sp.Pas.no {L : List Sp.Arc} {n K i : Nat} {D Y : Nat → Int} {tm pn : Nat → Nat} {clock : Nat} (h : Sp.Pas L n K i D Y tm pn clock) (hno : ¬ (D (L.getD i Sp.arc0).f ≠ 1152921504606846976 ∧ D (L.getD i Sp.arc0).f + (L.getD i Sp.arc0).l < D (L.getD i Sp.arc0).t)) : Sp.Pas L n K (i + 1) D Y tm pn clock :=
  ⟨h.tr, h.le, h.num, h.old, fun m hm hml hp hne => by
    by_cases e : m = i
    · subst e
      exact Int.not_lt.1 (fun hh => hno ⟨hne, hh⟩)
    · exact h.new_ m (by omega) hml hp hne⟩
/-- An arc that shortens a way. -/
theorem Sp.Pas.yes {L : List Sp.Arc} {n K i : Nat} {D Y : Nat → Int} {tm pn : Nat → Nat} {clock : Nat} (h : Sp.Pas L n K i D Y tm pn clock) (hi : i < L.length) (hg : D (L.getD i Sp.arc0).f ≠ 1152921504606846976) (hlt : D (L.getD i Sp.arc0).f + (L.getD i Sp.arc0).l < D (L.getD i Sp.arc0).t) (hx : D (L.getD i Sp.arc0).f + (L.getD i Sp.arc0).l ≠ 1152921504606846976) :
    Sp.Pas L n K (i + 1) (Sp.upd D (L.getD i Sp.arc0).t (D (L.getD i Sp.arc0).f + (L.getD i Sp.arc0).l)) (Sp.upd Y (L.getD i Sp.arc0).t (i : Int)) (fun v => if v = (L.getD i Sp.arc0).t then clock else tm v) (fun v => if v = (L.getD i Sp.arc0).t then K else pn v) (clock + 1) := by
  have hk : K ≤ pn (L.getD i Sp.arc0).f + 1 := by
    rcases Nat.lt_or_ge (pn (L.getD i Sp.arc0).f + 1) K with e | e
    · have := h.old i hi e hg; omega
    · exact e
  have hput := h.tr.put (Sp.arc_mem hi) hg hlt hx hk (h.le _)
  have eB : (fun v => if v = (L.getD i Sp.arc0).t then some (L.getD i Sp.arc0) else Sp.byA L Y v) = Sp.byA L (Sp.upd Y (L.getD i Sp.arc0).t (i : Int)) := funext fun v => by
    unfold Sp.byA Sp.upd
    by_cases e : v = (L.getD i Sp.arc0).t
    · rw [if_pos e, if_pos e, if_neg (by omega), Int.toNat_natCast]
    · rw [if_neg e, if_neg e]
  rw [eB] at hput
  refine ⟨hput, fun v => ?_, fun v hv => ?_, fun m hm hp hne => ?_, fun m hm hml hp hne => ?_⟩
  · show (if v = _ then K else pn v) ≤ K
    split
    · exact Nat.le_refl _
    · exact h.le v
  · unfold Sp.upd
    by_cases e : v = (L.getD i Sp.arc0).t
    · rw [if_pos e]; exact .inr ⟨i, rfl, hi⟩
    · rw [if_neg e]; exact h.num v hv
  · have hp' : (if (L.getD m Sp.arc0).f = (L.getD i Sp.arc0).t then K else pn (L.getD m Sp.arc0).f) + 1 < K := hp
    by_cases e : (L.getD m Sp.arc0).f = (L.getD i Sp.arc0).t
    · rw [if_pos e] at hp'; omega
    · rw [if_neg e] at hp'
      rw [Sp.upd_other _ _ e] at hne ⊢
      have h1 := h.old m hm hp' hne
      unfold Sp.upd
      split
      · rename_i e2; rw [e2] at h1; omega
      · exact h1
  · have hp' : (if (L.getD m Sp.arc0).f = (L.getD i Sp.arc0).t then K else pn (L.getD m Sp.arc0).f) < K := hp
    by_cases e : (L.getD m Sp.arc0).f = (L.getD i Sp.arc0).t
    · rw [if_pos e] at hp'; omega
    · rw [if_neg e] at hp'
      rw [Sp.upd_other _ _ e] at hne ⊢
      by_cases em : m = i
      · subst em
        rw [Sp.upd_same]; exact Int.le_refl _
      · have h1 := h.new_ m (by omega) hml hp' hne
        unfold Sp.upd
        split
        · rename_i e2; rw [e2] at h1; omega
        · exact h1
/-- Along a whole pass: what was shortened last was so in this pass. -/
theorem Sp.Pas.pass {L : List Sp.Arc} {n K : Nat} {D Y : Nat → Int} (hb : ∀ i, i < L.length → ∀ v, v < n → (Sp.pq L D Y i).1 v = 1152921504606846976 ∨ (Sp.pq L D Y i).1 v < 1000000000000000000) (hL : ∀ a ∈ L, a.f < n ∧ a.t < n ∧ a.l ≤ 1099511627776) :
    ∀ i, i ≤ L.length → (∃ tm pn clock, Sp.Pas L n K 0 D Y tm pn clock) → ∃ tm pn clock, Sp.Pas L n K i (Sp.pq L D Y i).1 (Sp.pq L D Y i).2.1 tm pn clock ∧ ((Sp.pq L D Y i).2.2 = -1 ∨ ∃ x : Nat, (Sp.pq L D Y i).2.2 = (x : Int) ∧ x < n ∧ pn x = K)
  | 0, _, ⟨tm, pn, clock, h⟩ => ⟨tm, pn, clock, h, .inl rfl⟩
  | i + 1, hi, h0 => by
    obtain ⟨tm, pn, clock, h, hs⟩ := Sp.Pas.pass hb hL i (by omega) h0
    obtain ⟨g1, g2, g3⟩ := hL _ (Sp.arc_mem (show i < L.length by omega))
    have hbf := hb i (by omega) _ g1
    rw [Sp.pq]
    by_cases hc : (Sp.pq L D Y i).1 (L.getD i Sp.arc0).f ≠ 1152921504606846976 ∧ (Sp.pq L D Y i).1 (L.getD i Sp.arc0).f + (L.getD i Sp.arc0).l < (Sp.pq L D Y i).1 (L.getD i Sp.arc0).t
    · rw [if_pos hc]
      have hx := hbf.resolve_left hc.1
      exact ⟨_, _, _, h.yes (by omega) hc.1 hc.2 (by omega), .inr ⟨_, rfl, g2, by show (if _ = _ then K else _) = K; rw [if_pos rfl]⟩⟩
    · rw [if_neg hc]
      exact ⟨tm, pn, clock, h.no hc, hs⟩
end Go.Proofs.Ytggjpglakocilaa


/- Back along the arcs that shortened last: n steps back stands a place of a round, below 0 (P601: Any's round). -/
namespace Go.Proofs.Ytggjpglakocilaa
open Go Go.RowKit

def Sp.bk (L : List Sp.Arc) (Y : Nat → Int) (v : Nat) : Nat := (L.getD (Y v).toNat Sp.arc0).f
def Sp.itb (L : List Sp.Arc) (Y : Nat → Int) : Nat → Nat → Nat
  | 0, x => x
  | m + 1, x => Sp.bk L Y (Sp.itb L Y m x)
theorem Sp.itb_add (L : List Sp.Arc) (Y : Nat → Int) (x : Nat) (i : Nat) : ∀ j, Sp.itb L Y (j + i) x = Sp.itb L Y j (Sp.itb L Y i x)
  | 0 => by rw [Nat.zero_add]; rfl
  | j + 1 => by
    rw [show j + 1 + i = j + i + 1 by omega]
    show Sp.bk L Y (Sp.itb L Y (j + i) x) = Sp.bk L Y _
    rw [Sp.itb_add L Y x i j]
theorem Sp.itb_succ (L : List Sp.Arc) (Y : Nat → Int) (x m : Nat) : Sp.itb L Y (m + 1) x = Sp.itb L Y m (Sp.bk L Y x) := Sp.itb_add L Y x 1 m
/-- How long m arcs back are together. -/
def Sp.smb (L : List Sp.Arc) (Y : Nat → Int) : Nat → Nat → Int
  | 0, _ => 0
  | m + 1, x => (L.getD (Y x).toNat Sp.arc0).l + Sp.smb L Y m (Sp.bk L Y x)
theorem Sp.byA_some {L : List Sp.Arc} {Y : Nat → Int} {v : Nat} (h : Y v ≠ -1) : Sp.byA L Y v = some (L.getD (Y v).toNat Sp.arc0) := by
  unfold Sp.byA; rw [if_neg h]
theorem Sp.Bk.of_it {L : List Sp.Arc} {Y : Nat → Int} : ∀ m x, (∀ j, j < m → Y (Sp.itb L Y j x) ≠ -1) → Sp.Bk (Sp.byA L Y) m x (Sp.itb L Y m x) (Sp.smb L Y m x)
  | 0, x, _ => ⟨rfl, rfl⟩
  | m + 1, x, h => by
    refine ⟨_, Sp.byA_some (h 0 (by omega)), ?_⟩
    have ih := Sp.Bk.of_it (L := L) (Y := Y) m (Sp.bk L Y x) (fun j hj => by rw [← Sp.itb_succ]; exact h (j + 1) (by omega))
    rw [← Sp.itb_succ] at ih
    have e : Sp.smb L Y (m + 1) x - (L.getD (Y x).toNat Sp.arc0).l = Sp.smb L Y m (Sp.bk L Y x) := by
      show (L.getD (Y x).toNat Sp.arc0).l + Sp.smb L Y m (Sp.bk L Y x) - _ = _
      omega
    rw [e]; exact ih
/-- The state behind pass K, as far as the way back asks it. -/
structure Sp.Ago (L : List Sp.Arc) (n : Nat) (D Y : Nat → Int) (pn : Nat → Nat) : Prop where
  tr : ∃ tm clock, Sp.Tr 1152921504606846976 L n D (Sp.byA L Y) tm pn clock
  rng : ∀ a ∈ L, a.f < n ∧ a.t < n
  num : ∀ v, v < n → Y v = -1 ∨ ∃ m : Nat, Y v = (m : Int) ∧ m < L.length
theorem Sp.Ago.ne {L : List Sp.Arc} {n : Nat} {D Y : Nat → Int} {pn : Nat → Nat} (h : Sp.Ago L n D Y pn) {v : Nat} (hv : v < n) (hp : 0 < pn v) : Y v ≠ -1 := fun e => by
  obtain ⟨tm, clock, ht⟩ := h.tr
  exact ht.some_ v hv hp (by unfold Sp.byA; rw [if_pos e])
theorem Sp.Ago.arc {L : List Sp.Arc} {n : Nat} {D Y : Nat → Int} {pn : Nat → Nat} (h : Sp.Ago L n D Y pn) {v : Nat} (hv : v < n) (hy : Y v ≠ -1) : (L.getD (Y v).toNat Sp.arc0).t = v ∧ Sp.bk L Y v < n ∧ D (Sp.bk L Y v) ≠ 1152921504606846976 ∧ pn v ≤ pn (Sp.bk L Y v) + 1 ∧ ∃ m : Nat, Y v = (m : Int) ∧ m < L.length := by
  obtain ⟨tm, clock, ht⟩ := h.tr
  obtain ⟨h1, h2, h3, -, -, h6⟩ := ht.arc v _ hv (Sp.byA_some hy)
  exact ⟨h2, (h.rng _ h1).1, h3, h6, (h.num v hv).resolve_left hy⟩
theorem Sp.Ago.back {L : List Sp.Arc} {n : Nat} {D Y : Nat → Int} {pn : Nat → Nat} (h : Sp.Ago L n D Y pn) {x : Nat} (hx : x < n) : ∀ m, m ≤ pn x → Sp.itb L Y m x < n ∧ pn x ≤ pn (Sp.itb L Y m x) + m
  | 0, _ => ⟨hx, by show pn x ≤ pn x + 0; omega⟩
  | m + 1, hm => by
    obtain ⟨h1, h2⟩ := Sp.Ago.back h hx m (by omega)
    obtain ⟨-, h3, -, h4, -⟩ := h.arc h1 (h.ne h1 (by omega))
    exact ⟨h3, by show pn x ≤ pn (Sp.bk L Y (Sp.itb L Y m x)) + (m + 1); omega⟩
/-- Of n + 1 places two are one. -/
theorem Sp.pigeon {n : Nat} (f : Nat → Nat) (hf : ∀ m, m ≤ n → f m < n) : ∃ i j, i < j ∧ j ≤ n ∧ f i = f j := by
  rcases Classical.em (∃ i j, i < j ∧ j ≤ n ∧ f i = f j) with h | h
  · exact h
  · exfalso
    have hnd : ((List.range (n + 1)).map fun m => ((f m : Nat) : Int)).Nodup := by
      unfold List.Nodup
      rw [List.pairwise_iff_getElem]
      intro i j hi hj hij e
      simp only [List.length_map, List.length_range] at hi hj
      simp only [List.getElem_map, List.getElem_range] at e
      exact h ⟨i, j, hij, by omega, by omega⟩
    have := nodup_le n _ hnd (fun x hx => by
      obtain ⟨m, hm, rfl⟩ := List.mem_map.1 hx
      have := hf m (by have := List.mem_range.1 hm; omega)
      omega)
    rw [List.length_map, List.length_range] at this
    omega
theorem Sp.least_nat {P : Nat → Prop} : ∀ m, P m → ∃ q, q ≤ m ∧ P q ∧ ∀ j, j < q → ¬ P j
  | m, h => by
    rcases Classical.em (∃ j, j < m ∧ P j) with ⟨j, hj, hp⟩ | hn
    · obtain ⟨q, h1, h2, h3⟩ := Sp.least_nat j hp
      exact ⟨q, by omega, h2, h3⟩
    · exact ⟨m, Nat.le_refl _, h, fun j hj hp => hn ⟨j, hj, hp⟩⟩
/-- n steps back stands a place of a round: q arcs lead back to it, none fewer; together they are below 0. -/
theorem Sp.Ago.round {L : List Sp.Arc} {n : Nat} {D Y : Nat → Int} {pn : Nat → Nat} (h : Sp.Ago L n D Y pn) {x : Nat} (hx : x < n) (hp : n ≤ pn x) :
    ∃ q, 0 < q ∧ q ≤ n ∧ Sp.itb L Y q (Sp.itb L Y n x) = Sp.itb L Y n x ∧ (∀ j, Sp.itb L Y j (Sp.itb L Y n x) < n ∧ Y (Sp.itb L Y j (Sp.itb L Y n x)) ≠ -1) ∧ (∀ j, 0 < j → j < q → Sp.itb L Y j (Sp.itb L Y n x) ≠ Sp.itb L Y n x) ∧ Sp.smb L Y q (Sp.itb L Y n x) < 0 := by
  obtain ⟨i, j, hij, hj, e⟩ := Sp.pigeon (n := n) (fun m => Sp.itb L Y m x) (fun m hm => (h.back hx m (by omega)).1)
  have e' : Sp.itb L Y i x = Sp.itb L Y j x := e
  obtain ⟨c, hc⟩ : ∃ c, Sp.itb L Y i x = c := ⟨_, rfl⟩
  obtain ⟨p, hpj⟩ : ∃ p, j = p + i := ⟨j - i, by omega⟩
  have hp0 : 0 < p := by omega
  have hcyc : Sp.itb L Y p c = c := by rw [← hc, ← Sp.itb_add, ← hpj]; exact e'.symm
  have hmod : ∀ m, Sp.itb L Y m c = Sp.itb L Y (m % p) c := by
    intro m
    induction m using Nat.strongRecOn with
    | _ m ih =>
      by_cases hm : m < p
      · rw [Nat.mod_eq_of_lt hm]
      · have h1 := ih (m - p) (by omega)
        rw [show m = (m - p) + p by omega, Sp.itb_add, hcyc, Nat.add_mod_right]
        exact h1
  have hgood : ∀ m, Sp.itb L Y m c < n ∧ Y (Sp.itb L Y m c) ≠ -1 := fun m => by
    rw [hmod m]
    have hlt := Nat.mod_lt m hp0
    generalize m % p = r at *
    rw [← hc, ← Sp.itb_add]
    obtain ⟨h1, h2⟩ := h.back hx (r + i) (by omega)
    exact ⟨h1, h.ne h1 (by omega)⟩
  obtain ⟨a, ha⟩ : ∃ a, Sp.itb L Y n x = a := ⟨_, rfl⟩
  have hac : a = Sp.itb L Y (n - i) c := by rw [← ha, ← hc, ← Sp.itb_add]; congr 1; omega
  rw [ha]
  have hpa : Sp.itb L Y p a = a := by
    rw [hac, ← Sp.itb_add, show p + (n - i) = (n - i) + p by omega, Sp.itb_add, hcyc]
  have hga : ∀ m, Sp.itb L Y m a < n ∧ Y (Sp.itb L Y m a) ≠ -1 := fun m => by
    rw [hac, ← Sp.itb_add]; exact hgood _
  obtain ⟨q, hq1, ⟨hq2, hq3⟩, hq4⟩ := Sp.least_nat (P := fun q => 0 < q ∧ Sp.itb L Y q a = a) p ⟨hp0, hpa⟩
  refine ⟨q, hq2, by omega, hq3, hga, fun j h1 h2 h3 => hq4 j h2 ⟨h1, h3⟩, ?_⟩
  obtain ⟨tm, clock, ht⟩ := h.tr
  have hB := Sp.Bk.of_it (L := L) (Y := Y) q a (fun j _ => (hga j).2)
  rw [hq3] at hB
  exact ht.round h.rng (hga 0).1 hq2 hB
end Go.Proofs.Ytggjpglakocilaa


/- slices.Reverse of a row of ints. -/
namespace Go.Proofs.Ytggjpglakocilaa
open Go Go.RowKit

theorem Sp.map_set (n : Nat) (f : Nat → Int) (i : Nat) (a : Int) : ((List.range n).map f).set i a = (List.range n).map (Sp.upd f i a) := by
  apply List.ext_getElem
  · simp
  · intro k h1 h2
    simp only [List.getElem_set, List.getElem_map, List.getElem_range, Sp.upd]
    by_cases e : i = k
    · rw [if_pos e, if_pos e.symm]
    · rw [if_neg e, if_neg (fun h => e h.symm)]
end Go.Proofs.Ytggjpglakocilaa


/- Package path: Any where no row of lengths is: a round is told. (gen_a25.py makes this from A12.) -/
namespace Go.Proofs.Ytggjpglakocilaa
open Go Go.RowKit

/-- Before the first pass. -/
theorem Sp.Pas.zero {L : List Sp.Arc} {n : Nat} {D Y : Nat → Int} {clock : Nat} (h : Sp.Pas L n 0 0 D Y (fun _ => 0) (fun _ => 0) clock) : Sp.Pas L n (0 + 1) 0 D Y (fun _ => 0) (fun _ => 0) clock :=
  ⟨h.tr, fun _ => by omega, h.num, fun m _ hp => by omega, fun m hm => by omega⟩
end Go.Proofs.Ytggjpglakocilaa


/- Every pass shortens a way: then a round below 0 is reached, and no row of lengths is (P601). -/
namespace Go.Proofs.Ytggjpglakocilaa
open Go Go.RowKit

/-- Along the arcs back no row of lengths rises by more than they are long. -/
theorem Sp.Short.back {N s : Nat} {L : List Sp.Arc} {D D0 Y : Nat → Int} {pn : Nat → Nat} (hD : Sp.Short 1152921504606846976 L s N D) (hA : Sp.Ago L N D0 Y pn) (hr : ∀ v, v < N → D0 v ≠ 1152921504606846976 → D v ≠ 1152921504606846976) :
    ∀ m a, (∀ j, Sp.itb L Y j a < N ∧ Y (Sp.itb L Y j a) ≠ -1) → D a ≤ D (Sp.itb L Y m a) + Sp.smb L Y m a
  | 0, a, _ => by show D a ≤ D a + 0; omega
  | m + 1, a, h => by
    have ih := Sp.Short.back hD hA hr m (Sp.bk L Y a) (fun j => by rw [← Sp.itb_succ]; exact h (j + 1))
    obtain ⟨h1, h2, h3, -, k, h5, h6⟩ := hA.arc (h 0).1 (h 0).2
    have h7 := (hD.arc _ (Sp.arc_mem h6) (by
      have e : (L.getD k Sp.arc0).f = Sp.bk L Y a := by unfold Sp.bk; rw [show Y a = (k : Int) from h5, Int.toNat_natCast]
      rw [e]; exact hr _ h2 h3)).2
    have e : (Y a).toNat = k := by rw [show Y a = (k : Int) from h5, Int.toNat_natCast]
    have h1' : (L.getD (Y a).toNat Sp.arc0).t = a := h1
    rw [e] at h1'
    rw [h1'] at h7
    rw [Sp.itb_succ]
    show D a ≤ _ + ((L.getD (Y a).toNat Sp.arc0).l + Sp.smb L Y m (Sp.bk L Y a))
    have e2 : (L.getD k Sp.arc0).f = Sp.bk L Y a := by unfold Sp.bk; rw [e]
    rw [e2] at h7
    rw [e]; omega
end Go.Proofs.Ytggjpglakocilaa


/- What any arcs reach; the arcs of a round, told backwards (P601: the reference's Round). -/
namespace Go.Proofs.Ytggjpglakocilaa
open Go Go.RowKit

/-- A row of truths that no arc leads out of. -/
def Sp.clo (L : List Sp.Arc) (s : Nat) (B : Nat → Bool) : Prop := B s = true ∧ ∀ k, k < L.length → B (L.getD k Sp.arc0).f = true → B (L.getD k Sp.arc0).t = true
theorem Sp.clo.wk {L : List Sp.Arc} {s : Nat} {B : Nat → Bool} (h : Sp.clo L s B) : ∀ m v x, Sp.Wk L s m v x → B v = true
  | 0, v, x, hw => by obtain ⟨rfl, -⟩ := hw; exact h.1
  | m + 1, v, x, hw => by
    obtain ⟨a, ha, rfl, hw⟩ := hw
    have ih := Sp.clo.wk h m a.f _ hw
    obtain ⟨k, hk, e⟩ := List.getElem_of_mem ha
    have e2 : L.getD k Sp.arc0 = a := by rw [List.getD_eq_getElem?_getD, List.getElem?_eq_getElem hk, e]; rfl
    have := h.2 k hk
    rw [e2] at this
    exact this ih
/-- An arc leads out of what is known: it is known as well; fewer are unknown. -/
def Sp.updB (z : Nat → Bool) (j : Nat) (v : Bool) : Nat → Bool := fun k => if k = j then v else z k
end Go.Proofs.Ytggjpglakocilaa


/- A row of truths in a block of its own, as a function; make([]bool, n). -/
namespace Go.Proofs.Ytggjpglakocilaa
open Go Go.RowKit

def RowB (w : World) (b n : Nat) (z : Nat → Bool) : Prop := ∃ c, w.heap[b]? = some (.cells c 4) ∧ c.size = n ∧ ∀ j, j < n → c[j]? = some (.bool (z j))
theorem RowB.lt {w : World} {b n : Nat} {z : Nat → Bool} (h : RowB w b n z) : b < w.heap.size := by
  obtain ⟨c, hc, -⟩ := h
  exact (Array.getElem?_eq_some_iff.1 hc).1
theorem RowB.cell {w : World} {b n : Nat} {z : Nat → Bool} (h : RowB w b n z) {j : Nat} (hj : j < n) : w.cell? ⟨b, j, none⟩ = some (.bool (z j)) := by
  obtain ⟨c, hc, -, hz⟩ := h
  simp only [World.cell?, hc]
  exact hz j hj
theorem RowB.frozen {w : World} {b n : Nat} {z : Nat → Bool} (h : RowB w b n z) (j : Nat) (s : Option Nat) : w.frozen? ⟨b, j, s⟩ = false := by
  obtain ⟨c, hc, -⟩ := h
  simp only [World.frozen?, hc]
  simp
theorem RowB.of_block {w w' : World} {b n : Nat} {z : Nat → Bool} (h : RowB w b n z) (e : w'.heap[b]? = w.heap[b]?) : RowB w' b n z := by
  obtain ⟨c, hc, h1⟩ := h
  exact ⟨c, by rw [e]; exact hc, h1⟩
theorem RowB.set {w : World} {b n : Nat} {z : Nat → Bool} (h : RowB w b n z) (j : Nat) (v : Bool) : RowB (w.setCell ⟨b, j, none⟩ (.bool v)) b n (Sp.updB z j v) := by
  obtain ⟨c, hc, hs, hz⟩ := h
  refine ⟨c.setIfInBounds j (.bool v), ?_, by simpa using hs, fun k hk => ?_⟩
  · simp only [World.setCell, Array.getElem?_modify, if_pos, hc]
    rfl
  · rw [Array.getElem?_setIfInBounds]
    unfold Sp.updB
    by_cases hjk : j = k
    · rw [if_pos hjk, if_pos (by omega), if_pos hjk.symm]
    · rw [if_neg hjk, hz k hk, if_neg (fun e => hjk e.symm)]
theorem RowB.below {w w' : World} {b n : Nat} {z : Nat → Bool} (h : RowB w b n z) (hb : Below w.heap.size w w') : RowB w' b n z := h.of_block (hb.block b h.lt)
theorem RowB.congr {w : World} {b n : Nat} {z z' : Nat → Bool} (h : RowB w b n z) (e : ∀ j, j < n → z j = z' j) : RowB w b n z' := by
  obtain ⟨c, hc, hs, hz⟩ := h
  exact ⟨c, hc, hs, fun j hj => by rw [← e j hj]; exact hz j hj⟩
theorem RowB.of_rep {w : World} {B b n : Nat} {x : Bool} (h : OwnB w B (.slice (some ⟨b, 0, none⟩) n n) (List.replicate n x)) : RowB w b n (fun _ => x) ∧ B ≤ b := by
  unfold OwnB at h
  obtain ⟨h1, ⟨h2, -⟩ | ⟨g', cap, cur, e, hg, hh, hnc, hcm, hsz, htk⟩⟩ := h
  · cases h2
  · injection e with e1 e2 e3
    injection e1 with e1
    injection e1 with e1 _
    subst e1
    rw [List.length_replicate] at hnc htk
    refine ⟨⟨cur, hh, by omega, fun j hj => ?_⟩, hg⟩
    have e4 : cur.toList = (List.replicate n x).map Value.bool := by
      rw [← htk, List.take_of_length_le]
      simp; omega
    rw [← Array.getElem?_toList, e4, List.getElem?_map, List.getElem?_replicate, if_pos hj]; rfl
end Go.Proofs.Ytggjpglakocilaa


/- The law PathFrom, walked. -/
namespace Go.Proofs.Ytggjpglakocilaa
open Go Go.RowKit

theorem Sp.Short.pos {L : List Sp.Arc} {s n : Nat} {D : Nat → Int} (h : Sp.Short 1152921504606846976 L s n D) (hp : ∀ a ∈ L, 0 ≤ a.l) {v : Nat} (hv : v < n) : 0 ≤ D v := by
  have hw : ∀ m v x, Sp.Wk L s m v x → 0 ≤ x := by
    intro m
    induction m with
    | zero => intro v x hw; have := hw.2; omega
    | succ m ih =>
      intro v x hw
      obtain ⟨a, ha, -, hw⟩ := hw
      have := ih _ _ hw
      have := hp a ha
      omega
  by_cases h1 : D v = 1152921504606846976
  · rw [h1]; decide
  · obtain ⟨m, hm⟩ := h.att v hv h1
    exact hw m v _ hm
end Go.Proofs.Ytggjpglakocilaa


/- The reference's Way: the fewest arcs, by rounds over the arcs until nothing changes (P601: PathWays). -/
namespace Go.Proofs.Ytggjpglakocilaa
open Go Go.RowKit

/-- All numbers of a row together. -/
def Sp.smE (E : Nat → Int) : Nat → Nat
  | 0 => 0
  | n + 1 => Sp.smE E n + (E n).toNat
theorem Sp.smE_out {E : Nat → Int} {v : Nat} {x : Int} : ∀ n, n ≤ v → Sp.smE (Sp.upd E v x) n = Sp.smE E n
  | 0, _ => rfl
  | n + 1, h => by
    unfold Sp.smE
    rw [Sp.smE_out n (by omega), Sp.upd_other _ _ (by omega)]
theorem Sp.smE_upd {E : Nat → Int} {v : Nat} {x : Int} (h0 : 0 ≤ x) (hx : x < E v) : ∀ n, v < n → Sp.smE (Sp.upd E v x) n + 1 ≤ Sp.smE E n
  | 0, h => by omega
  | n + 1, h => by
    unfold Sp.smE
    by_cases e : v = n
    · subst e
      rw [Sp.smE_out v (Nat.le_refl _), Sp.upd_same]
      omega
    · have := Sp.smE_upd h0 hx n (by omega)
      rw [Sp.upd_other _ _ (by omega)]
      omega
/-- Whether arc a shortens a way by fewest arcs. -/
def Sp.fc (y E : Nat → Int) (a : Sp.Arc) : Prop := y (a.t * 2) ≠ 1152921504606846976 ∧ y (a.f * 2) = y (a.t * 2) + a.l ∧ E a.t ≠ 1152921504606846976 ∧ E a.t + 1 < E a.f
structure Sp.FewI (L : List Sp.Arc) (t n : Nat) (y E : Nat → Int) : Prop where
  src : E t = 0
  low : ∀ v, v < n → E v = 1152921504606846976 ∨ (0 ≤ E v ∧ E v + 1 ≤ (Sp.ct (fun v => decide (E v ≠ 1152921504606846976)) n : Int))
  att : ∀ v, v < n → E v ≠ 1152921504606846976 → ∃ m, Sp.Wk (Sp.tightL 1152921504606846976 (L.map Sp.sw) (fun v => y (v * 2))) t m v (E v)
theorem Sp.FewI.start {L : List Sp.Arc} {t n : Nat} {y : Nat → Int} (ht : t < n) : Sp.FewI L t n y (Sp.upd (fun _ => 1152921504606846976) t 0) := by
  refine ⟨Sp.upd_same _ _ _, fun v hv => ?_, fun v hv hne => ?_⟩
  · by_cases e : v = t
    · subst e
      rw [Sp.upd_same]
      have := Sp.ct_lt (p := fun _ => false) (p' := fun w => decide (Sp.upd (fun _ => 1152921504606846976) v 0 w ≠ 1152921504606846976)) n (fun i _ h => by cases h) ⟨v, hv, rfl, by rw [decide_eq_true_eq, Sp.upd_same]; decide⟩
      exact .inr ⟨Int.le_refl _, by omega⟩
    · rw [Sp.upd_other _ _ e]; exact .inl rfl
  · by_cases e : v = t
    · subst e; rw [Sp.upd_same]; exact ⟨0, rfl, rfl⟩
    · rw [Sp.upd_other _ _ e] at hne; exact absurd rfl hne
theorem Sp.FewI.bd {L : List Sp.Arc} {t n : Nat} {y E : Nat → Int} (h : Sp.FewI L t n y E) {v : Nat} (hv : v < n) : E v = 1152921504606846976 ∨ (0 ≤ E v ∧ E v + 1 ≤ (n : Int)) := by
  rcases h.low v hv with e | e
  · exact .inl e
  · have := Sp.ct_le (fun v => decide (E v ≠ 1152921504606846976)) n
    exact .inr ⟨e.1, by omega⟩
theorem Sp.FewI.yes {L : List Sp.Arc} {t n : Nat} {y E : Nat → Int} (h : Sp.FewI L t n y E) (hn : n ≤ 200) (_ht : t < n) {a : Sp.Arc} (ha : a ∈ L) (hf : a.f < n) (hat : a.t < n) (hc : Sp.fc y E a) : Sp.FewI L t n y (Sp.upd E a.f (E a.t + 1)) ∧ Sp.smE (Sp.upd E a.f (E a.t + 1)) n + 1 ≤ Sp.smE E n := by
  obtain ⟨h1, h2, h3, h4⟩ := hc
  have hb := (h.bd hat).resolve_left h3
  have hbc := (h.low _ hat).resolve_left h3
  have hft : a.f ≠ t := fun e => by rw [e, h.src] at h4; omega
  refine ⟨⟨by rw [Sp.upd_other _ _ (fun e => hft e.symm)]; exact h.src, fun v hv => ?_, fun v hv hne => ?_⟩, Sp.smE_upd (by omega) h4 n hf⟩
  · have hct : (Sp.ct (fun v => decide (E v ≠ 1152921504606846976)) n : Int) + (if E a.f = 1152921504606846976 then 1 else 0) ≤ (Sp.ct (fun v => decide (Sp.upd E a.f (E a.t + 1) v ≠ 1152921504606846976)) n : Int) := by
      by_cases e : E a.f = 1152921504606846976
      · rw [if_pos e]
        have := Sp.ct_lt (p := fun v => decide (E v ≠ 1152921504606846976)) (p' := fun v => decide (Sp.upd E a.f (E a.t + 1) v ≠ 1152921504606846976)) n (fun i _ hp => by
          rw [decide_eq_true_eq] at hp ⊢
          by_cases e2 : i = a.f
          · rw [e2, Sp.upd_same]; omega
          · rw [Sp.upd_other _ _ e2]; exact hp) ⟨a.f, hf, by rw [decide_eq_false_iff_not]; exact fun h => h e, by rw [decide_eq_true_eq, Sp.upd_same]; omega⟩
        omega
      · rw [if_neg e]
        have e3 : (fun v => decide (Sp.upd E a.f (E a.t + 1) v ≠ 1152921504606846976)) = (fun v => decide (E v ≠ 1152921504606846976)) := funext fun v => by
          by_cases e2 : v = a.f
          · rw [e2, Sp.upd_same, decide_eq_true e, decide_eq_true (by omega)]
          · rw [Sp.upd_other _ _ e2]
        rw [e3]; omega
    by_cases e : v = a.f
    · subst e
      rw [Sp.upd_same]
      refine .inr ⟨by omega, ?_⟩
      by_cases e2 : E a.f = 1152921504606846976
      · rw [if_pos e2] at hct; omega
      · rw [if_neg e2] at hct
        have := (h.low _ hf).resolve_left e2
        omega
    · rw [Sp.upd_other _ _ e]
      rcases h.low v hv with q | q
      · exact .inl q
      · refine .inr ⟨q.1, ?_⟩
        split at hct <;> omega
  · by_cases e : v = a.f
    · subst e
      rw [Sp.upd_same]
      obtain ⟨m, hm⟩ := h.att _ hat h3
      refine ⟨m + 1, ⟨a.t, a.f, 1⟩, Sp.mem_tightL.2 ⟨Sp.sw a, List.mem_map.2 ⟨a, ha, rfl⟩, h1, h2, rfl⟩, rfl, ?_⟩
      show Sp.Wk _ t m a.t (E a.t + 1 - 1)
      rw [Int.add_sub_cancel]; exact hm
    · rw [Sp.upd_other _ _ e] at hne ⊢
      exact h.att v hv hne
/-- Where no arc shortens a way it is the program's number of arcs. -/
theorem Sp.FewI.done {L : List Sp.Arc} {t n : Nat} {y E : Nat → Int} (h : Sp.FewI L t n y E) (hT : Sp.Tow L t n y) (hn : n ≤ 200) (hL : ∀ a ∈ L, a.f < n ∧ a.t < n) (ht : t < n) (hno : ∀ k, k < L.length → ¬ Sp.fc y E (L.getD k Sp.arc0)) : ∀ v, v < n → E v = Sp.fewR y v := by
  have hS : Sp.Short 1152921504606846976 (Sp.tightL 1152921504606846976 (L.map Sp.sw) (fun v => y (v * 2))) t n E := by
    refine ⟨h.src, fun b hb hne => ?_, h.att⟩
    obtain ⟨a', ha', h1, h2, rfl⟩ := Sp.mem_tightL.1 hb
    obtain ⟨a, ha, rfl⟩ := List.mem_map.1 ha'
    obtain ⟨k, hk, e⟩ := List.getElem_of_mem ha
    have e2 : L.getD k Sp.arc0 = a := by rw [List.getD_eq_getElem?_getD, List.getElem?_eq_getElem hk, e]; rfl
    have h3 := hno k hk
    rw [e2] at h3
    have h1' : y (a.t * 2) ≠ 1152921504606846976 := h1
    have h2' : y (a.f * 2) = y (a.t * 2) + a.l := h2
    have hne' : E a.t ≠ 1152921504606846976 := hne
    have hb1 := (h.bd (hL a ha).2).resolve_left hne'
    have hb2 := h.bd (hL a ha).1
    have h4 : ¬ E a.t + 1 < E a.f := fun hh => h3 ⟨h1', h2', hne', hh⟩
    show E a.f ≠ _ ∧ E a.f ≤ E a.t + 1
    exact ⟨by omega, by omega⟩
  intro v hv
  exact hS.uniq (hT.few hn hL ht) (by decide) hv
end Go.Proofs.Ytggjpglakocilaa


