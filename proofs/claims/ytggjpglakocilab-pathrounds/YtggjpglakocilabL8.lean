/- What the proof needs, part 8. -/
import Derived.Test.YtggjpglakocilabL7
/- Package path: Right. The reference's Ints, from. -/
namespace Go.Proofs.Ytggjpglakocilab
open Go Go.RowKit

set_option maxRecDepth 100000 in
set_option maxHeartbeats 2000000 in
theorem right_yes (N : Nat) (L : List Sp.Arc) (s : Nat) (l : List Int) (lv dv : Value) (w : World) (hl : ArcsI w lv L) (hd : Ints w dv l) (hd2 : l.length ≤ 1000) (hS : Sp.Snd N L) (hs : s < N) (hN : N ≤ 60) (hex : ∃ D, Sp.Short 1152921504606846976 L s N D ∧ ∀ v, D v ≠ 1152921504606846976 → D v < 1152921504606846976) :
    Calls Try.prog 12 #[.int .i64 (N : Int), lv, .int .i64 (s : Int), dv] w fun e w' => Below w.heap.size w w' ∧ ∃ D b, e = .returned (.bool b) ∧ Sp.Short 1152921504606846976 L s N D ∧ b = decide (l = (List.range N).map D) := by
  have HC1 := hide (any_yes N L s lv w hl hS hs hN hex)
  have HD : Hid (∀ w' G (D : Nat → Int), Below w.heap.size w w' → RowAt w' G N D → Calls Try.prog 20 #[dv, .slice (some ⟨G, 0, none⟩) N N] w' fun e w'' => e = .returned (.bool (decide (l = (List.range N).map D))) ∧ Below w'.heap.size w' w'') := hide fun w' G D hb hr => equal_any6 l _ dv _ w' (hd.below hb) (hr.ints (by omega)) hd2
  obtain ⟨la, lc, rfl, -⟩ := hl.form
  obtain ⟨da, dc, rfl, -⟩ := hd.form
  obtain ⟨P, hP⟩ : ∃ P : Ending → World → Prop, P = fun e w' => Below w.heap.size w w' ∧ ∃ D b, e = .returned (.bool b) ∧ Sp.Short 1152921504606846976 L s N D ∧ b = decide (l = (List.range N).map D) := ⟨_, rfl⟩
  rw [← hP]
  have HP := hide hP
  clear hP hl hd hS hex
  go_enter Try.func12, Try.ntmps12
  go_wp2_with fail
  go_at_call 10
  refine (unhide HC1).mono ?_
  rintro e w2 ⟨G, D, rfl, hG, hr2, hb2, hD⟩
  have HDd := unhide HD w2 G D hb2 hr2
  have hRR : ∃ R, decide (l = (List.range N).map D) = R := ⟨_, rfl⟩
  obtain ⟨R, hR⟩ := hRR
  rw [hR] at HDd
  have HQ := hide (And.intro hb2 (And.intro hD hR))
  have HDe := hide HDd
  clear hr2 hb2 hD hR HD HDd HC1
  go_wp2_with fail
  go_at_call 20
  refine (unhide HDe).mono ?_
  rintro e w3 ⟨rfl, hb3⟩
  have HB3 := hide ((unhide HQ).1.trans (hb3.mono (unhide HQ).1.size))
  clear hb3 HDe
  go_wp2
  rw [unhide HP]
  exact ⟨unhide HB3, D, R, rfl, (unhide HQ).2.1, (unhide HQ).2.2.symm⟩
set_option maxRecDepth 100000 in
set_option maxHeartbeats 2000000 in
theorem ints6_any (l m : List Int) (u v : Value) (w : World) (hu : Ints w u l) (hv : Ints w v m) (hl : l.length ≤ 1000) :
    Calls Try.prog 11 #[u, v] w fun e w' => e = .returned (.bool (decide (l = m))) ∧ Below w.heap.size w w' := by
  obtain ⟨ua, uc, rfl, -, -, HU⟩ := hu.allA
  obtain ⟨va, vc, rfl, -, -, HV⟩ := hv.allA
  clear hu hv
  by_cases hn : l.length = m.length
  · have hneb : ((l.length : Int) != (m.length : Int)) = false := by simp [hn]
    obtain ⟨R, hR⟩ : ∃ R, decide (l = m) = R := ⟨_, rfl⟩
    rw [hR]
    have HR := hide hR
    have HE : Hid ((∀ j, j < l.length → l.getD j 0 = m.getD j 0) → R = true) := hide fun h => by
      rw [← hR, decide_eq_true_eq]
      exact List.ext_getElem hn fun j h1 h2 => by
        have := h j h1
        rwa [List.getD_eq_getElem?_getD, List.getD_eq_getElem?_getD, List.getElem?_eq_getElem h1, List.getElem?_eq_getElem h2] at this
    have HNe : Hid (∀ j, l.getD j 0 ≠ m.getD j 0 → R = false) := hide fun j h => by
      rw [← hR, decide_eq_false_iff_not]; exact fun e => h (by rw [e])
    obtain ⟨P, hP⟩ : ∃ P : Ending → World → Prop, P = fun e w' => e = .returned (.bool R) ∧ Below w.heap.size w w' := ⟨_, rfl⟩
    rw [← hP]
    have HP := hide hP
    rw [← hn]
    clear hP hR HR
    have HNn := hide hn
    clear hn
    go_enter Try.func11, Try.ntmps11
    go_wp2
    go_loopg [5] l.length (fun g s5 wr => ∃ i : Nat, i + g = l.length ∧ s5 = .int .i64 (i : Int) ∧ Hid (∀ j, j < i → l.getD j 0 = m.getD j 0) ∧ Hid (Below w.heap.size w wr))
    case atStart => exact ⟨0, by omega, rfl, hide fun j hj => by omega, hide (Below.refl _ _)⟩
    case round =>
      obtain ⟨i, hig, rfl, HJ, HB⟩ := hrel
      cases gk with
      | zero =>
        obtain rfl : i = l.length := by omega
        have hRt := unhide HE (unhide HJ)
        go_wp2
        rw [unhide HP, hRt]
        exact ⟨rfl, unhide HB⟩
      | succ g' =>
        have hi : i < l.length := by omega
        have hiI : (i : Int) < (l.length : Int) := by omega
        obtain ⟨b, o, rfl, -, hc⟩ := unhide HU i hi
        obtain ⟨b', o', rfl, -, hc'⟩ := unhide HV i (by rw [← unhide HNn]; exact hi)
        have c1 := hc wr (unhide HB)
        have c2 := hc' wr (unhide HB)
        have HB2 : Hid (∀ nq, Below w.heap.size w (wr.drewN nq)) := hide fun nq => below_dn (unhide HB) nq
        by_cases he : l.getD i 0 = m.getD i 0
        · have HJ2 : Hid (∀ j, j < i + 1 → l.getD j 0 = m.getD j 0) := hide fun j hj => by
            by_cases e : j = i
            · rw [e]; exact he
            · exact unhide HJ j (by omega)
          rw [← he] at c2
          have hb : ((l.getD i 0) != (l.getD i 0)) = false := by simp
          generalize l.getD i 0 = z at *
          clear hc hc' he HJ HB
          go_wp2_with fail
          go_quiet (fail)
          go_wp2
          go_roundg g'
          case rel => exact ⟨i + 1, by omega, by go_num, HJ2, hide (unhide HB2 _)⟩
          case measure => omega
        · have hRf := unhide HNe i he
          have hb : ((l.getD i 0) != (m.getD i 0)) = true := bne_iff_ne.2 he
          generalize l.getD i 0 = z at *
          generalize m.getD i 0 = z' at *
          clear hc hc' he HJ HB
          go_wp2_with fail
          go_quiet (fail)
          go_wp2
          rw [unhide HP, hRf]
          exact ⟨rfl, unhide HB2 _⟩
  · have hneb : ((l.length : Int) != (m.length : Int)) = true := bne_iff_ne.2 (by omega)
    have HR := hide (show decide (l = m) = false from decide_eq_false (fun e => hn (by rw [e])))
    generalize decide (l = m) = R at *
    go_enter Try.func11, Try.ntmps11
    go_wp2
    go_ret
    exact ⟨by rw [unhide HR]; rfl, Below.refl _ _⟩
end Go.Proofs.Ytggjpglakocilab


/- The reference's From, Any; within, Arcs of watershedlaw6. -/
namespace Go.Proofs.Ytggjpglakocilab
open Go Go.RowKit

set_option maxRecDepth 100000 in
set_option maxHeartbeats 1000000 in
theorem within6_any (a n : Int) (w : World) (hn : 0 < n) (hn1 : n ≤ 4611686018427387904) :
    Calls Try.prog 8 #[.int .i64 a, .int .i64 n] w fun e w' => e = .returned (.int .i64 (a % n)) ∧ w' = w := by
  have h0 : 0 ≤ a % n := Int.emod_nonneg a (by omega)
  have h1 : a % n < n := Int.emod_lt_of_pos a hn
  rcases tmod_casesH a n hn with ⟨ha, hb⟩ | ⟨ha, hb⟩
  · have hc : -n ≤ a.tmod n := by omega
    have Hb := hide hb; clear hb h0 h1
    go_enter Try.func8, Try.ntmps8
    go_wp2
    go_ret
    exact ⟨ret_intH (unhide Hb), rfl⟩
  · have Hb := hide hb; clear hb h0 h1
    go_enter Try.func8, Try.ntmps8
    go_wp2
    go_ret
    exact ⟨ret_intH (unhide Hb), rfl⟩
/-- An arc, of a number. -/
def Sp.arcOf (n : Nat) (k low : Int) : Sp.Arc := ⟨(k % (n : Int)).toNat, (k / 31 % (n : Int)).toNat, if k / 9000 % 13 = 0 then k / 117000 % 1048576 - low else k / 1000 % 9 - low⟩
def Sp.arcsOf (n : Nat) (ns : List Int) (low : Int) (m : Nat) : List Sp.Arc := (ns.take m).map fun z => Sp.arcOf n (z % 1125899906842624) low
theorem Sp.arcsOf_snd {n : Nat} (hn : 0 < n) (ns : List Int) {low : Int} (h0 : 0 ≤ low) (h4 : low ≤ 8) : Sp.Snd n (Sp.arcsOf n ns low 50) := by
  refine ⟨by unfold Sp.arcsOf; rw [List.length_map]; have := List.length_take_le 50 ns; omega, fun a ha => ?_⟩
  obtain ⟨z, -, rfl⟩ := List.mem_map.1 ha
  unfold Sp.arcOf
  generalize z % 1125899906842624 = k
  have h1 := Int.emod_nonneg k (b := (n : Int)) (by omega)
  have h2 := Int.emod_lt_of_pos k (b := (n : Int)) (by omega)
  have h3 := Int.emod_nonneg (k / 31) (b := (n : Int)) (by omega)
  have h5 := Int.emod_lt_of_pos (k / 31) (b := (n : Int)) (by omega)
  refine ⟨by show (k % (n : Int)).toNat < n; omega, by show (k / 31 % (n : Int)).toNat < n; omega, ?_, ?_⟩ <;> (show _ ≤ _; dsimp only; split <;> omega)
theorem Sp.arcsOf_pos (n : Nat) (ns : List Int) (m : Nat) : ∀ a ∈ Sp.arcsOf n ns 0 m, 0 ≤ a.l := fun a ha => by
  obtain ⟨z, -, rfl⟩ := List.mem_map.1 ha
  unfold Sp.arcOf
  dsimp only
  split <;> omega
end Go.Proofs.Ytggjpglakocilab


/- watershedlaw6: Arcs. -/
namespace Go.Proofs.Ytggjpglakocilab
open Go Go.RowKit

theorem arc_set2 {w : World} {b : Nat} {a c d : Value} (h : w.heap[b]? = some (.cells #[a, c, d] 28)) (x : Value) : (w.setCell ⟨b, 2, none⟩ x).heap[b]? = some (.cells #[a, c, x] 28) := by
  simp only [World.setCell, Array.getElem?_modify, if_pos, h]; rfl
theorem arc_at {w : World} {b : Nat} {u v x : Value} (h : w.heap[b]? = some (.cells #[u, v, x] 28)) : w.cell? ⟨b, 0, none⟩ = some u ∧ w.cell? ⟨b, 1, none⟩ = some v ∧ w.cell? ⟨b, 2, none⟩ = some x ∧ ∀ i, w.frozen? ⟨b, i, none⟩ = false := by
  refine ⟨?_, ?_, ?_, fun i => ?_⟩
  · simp only [World.cell?, h]; rfl
  · simp only [World.cell?, h]; rfl
  · simp only [World.cell?, h]; rfl
  · simp only [World.frozen?, h]; simp
theorem Sp.arcsOf_succ (n : Nat) (ns : List Int) (low : Int) {i : Nat} (hi : i < ns.length) : Sp.arcsOf n ns low (i + 1) = Sp.arcsOf n ns low i ++ [Sp.arcOf n (ns.getD i 0 % 1125899906842624) low] := by
  unfold Sp.arcsOf
  rw [List.take_succ_eq_append_getElem hi, List.map_append, List.getD_eq_getElem?_getD, List.getElem?_eq_getElem hi]; rfl
theorem Sp.arcsOf_len (n : Nat) (ns : List Int) (low : Int) (i : Nat) : (Sp.arcsOf n ns low i).length = min i ns.length := by
  unfold Sp.arcsOf; rw [List.length_map, List.length_take]
theorem Sp.arcsOf_all (n : Nat) (ns : List Int) (low : Int) (h : ns.length ≤ 50) : Sp.arcsOf n ns low ns.length = Sp.arcsOf n ns low 50 := by
  unfold Sp.arcsOf; rw [List.take_of_length_le (Nat.le_refl _), List.take_of_length_le h]
set_option maxRecDepth 100000 in
set_option maxHeartbeats 8000000 in
theorem arcs_any (n : Nat) (ns : List Int) (low : Int) (nv : Value) (w : World) (hv : Ints w nv ns) (hn : 0 < n) (hn2 : n ≤ 60) (hl0 : 0 ≤ low) (hl8 : low ≤ 8) :
    Calls Try.prog 9 #[.int .i64 (n : Int), nv, .int .i64 low] w fun e w' => ∃ rv, e = .returned rv ∧ OwnA w' w.heap.size rv (Sp.arcsOf n ns low 50) ∧ Below w.heap.size w w' := by
  obtain ⟨na, nc, rfl, hnc, hnm, HN⟩ := hv.allA
  have hmax : ns.length ≤ 9223372036854775807 := Nat.le_trans (Nat.le_trans hnc hnm) (by unfold maxLen; omega)
  have HS := hide (fun (i : Nat) (hi : i < ns.length) => Sp.arcsOf_succ n ns low hi)
  have HLn := hide (Sp.arcsOf_len n ns low)
  have HAl : Hid (ns.length ≤ 50 → Sp.arcsOf n ns low ns.length = Sp.arcsOf n ns low 50) := hide (Sp.arcsOf_all n ns low)
  obtain ⟨P, hP⟩ : ∃ P : Ending → World → Prop, P = fun e w' => ∃ rv, e = .returned rv ∧ OwnA w' w.heap.size rv (Sp.arcsOf n ns low 50) ∧ Below w.heap.size w w' := ⟨_, rfl⟩
  rw [← hP]
  have HP := hide hP
  have HI0 : Hid (Below w.heap.size w w ∧ OwnA w w.heap.size (.slice none 0 0) (Sp.arcsOf n ns low 0)) := hide ⟨Below.refl _ _, OwnA.nil _ _⟩
  have hnI : 0 < (n : Int) := by omega
  have hn0 : ¬ n = 0 := by omega
  have hnZ : ¬ (n : Int) = 0 := by omega
  clear hP hv hnc hnm
  go_enter Try.func9, Try.ntmps9
  go_wp2
  go_loopg [7, 8] 50 (fun g s7 s8 wr => ∃ i : Nat, i + g = 50 ∧ i ≤ ns.length ∧ s8 = .int .i64 (i : Int) ∧ Hid (Below w.heap.size w wr ∧ OwnA wr w.heap.size s7 (Sp.arcsOf n ns low i)))
  case atStart => exact ⟨0, by omega, by omega, rfl, HI0⟩
  case round =>
    clear HI0
    obtain ⟨i, hig, hin, rfl, HI⟩ := hrel
    have hli := unhide HLn i
    obtain ⟨ra, rc, hrv, -⟩ := (unhide HI).2.arcs.form
    rw [hli, Nat.min_eq_left hin] at hrv
    subst hrv
    by_cases hi : i < ns.length
    · have hiI : (i : Int) < (ns.length : Int) := by omega
      cases gk with
      | zero =>
        obtain rfl : i = 50 := by omega
        have hi50 : ¬ ((50 : Nat) : Int) < 50 := by omega
        go_wp2
        rw [unhide HP]
        exact ⟨_, rfl, (unhide HI).2, (unhide HI).1⟩
      | succ g' =>
        have hi50 : (i : Int) < 50 := by omega
        obtain ⟨b, o, rfl, hb, hcx⟩ := unhide HN i hi
        have c1 := hcx wr (unhide HI).1
        have HSi := unhide HS i hi
        have HV := hide (within6_any (ns.getD i 0) 1125899906842624 wr (by omega) (by omega))
        have hk0 : 0 ≤ ns.getD i 0 % 1125899906842624 := Int.emod_nonneg _ (by omega)
        have hk1 : ns.getD i 0 % 1125899906842624 < 1125899906842624 := Int.emod_lt_of_pos _ (by omega)
        generalize ns.getD i 0 = z at *
        generalize z % 1125899906842624 = k at *
        obtain ⟨f, hf⟩ : ∃ f : Nat, (k % (n : Int)).toNat = f := ⟨_, rfl⟩
        obtain ⟨t, ht⟩ : ∃ t : Nat, (k / 31 % (n : Int)).toNat = t := ⟨_, rfl⟩
        have e1 : k.tmod (n : Int) = (f : Int) := by rw [Int.tmod_eq_emod_of_nonneg hk0, ← hf]; exact (Int.toNat_of_nonneg (Int.emod_nonneg _ (by omega))).symm
        have e2 : k.tdiv 31 = k / 31 := Int.tdiv_eq_ediv_of_nonneg hk0
        have e3 : (k / 31).tmod (n : Int) = (t : Int) := by rw [Int.tmod_eq_emod_of_nonneg (by omega), ← ht]; exact (Int.toNat_of_nonneg (Int.emod_nonneg _ (by omega))).symm
        have e4 : k.tdiv 1000 = k / 1000 := Int.tdiv_eq_ediv_of_nonneg hk0
        have e5 : (k / 1000).tmod 9 = k / 1000 % 9 := Int.tmod_eq_emod_of_nonneg (by omega)
        have e6 : k.tdiv 9000 = k / 9000 := Int.tdiv_eq_ediv_of_nonneg hk0
        have e7 : (k / 9000).tmod 13 = k / 9000 % 13 := Int.tmod_eq_emod_of_nonneg (by omega)
        have e8 : k.tdiv 117000 = k / 117000 := Int.tdiv_eq_ediv_of_nonneg hk0
        have e9 : (k / 117000).tmod 1048576 = k / 117000 % 1048576 := Int.tmod_eq_emod_of_nonneg (by omega)
        have b5 : 0 ≤ k / 1000 % 9 ∧ k / 1000 % 9 < 9 := by omega
        have b9 : 0 ≤ k / 117000 % 1048576 ∧ k / 117000 % 1048576 < 1048576 := by omega
        obtain ⟨lx, hlx⟩ : ∃ lx, lx = if k / 9000 % 13 = 0 then k / 117000 % 1048576 - low else k / 1000 % 9 - low := ⟨_, rfl⟩
        have hArc : Sp.arcOf n k low = ⟨f, t, lx⟩ := by unfold Sp.arcOf; rw [hf, ht, hlx]
        rw [hArc] at HSi
        have HSj := hide HSi
        have Hlx := hide hlx
        have w1 : 0 ≤ k / 31 ∧ k / 31 ≤ 1125899906842624 := by omega
        have w2 : 0 ≤ k / 1000 ∧ k / 1000 ≤ 1125899906842624 := by omega
        have w3 : 0 ≤ k / 9000 ∧ k / 9000 ≤ 1125899906842624 := by omega
        have w4 : 0 ≤ k / 117000 ∧ k / 117000 ≤ 1125899906842624 := by omega
        generalize k / 1000 % 9 = r9 at *
        generalize k / 9000 % 13 = r13 at *
        generalize k / 117000 % 1048576 = r17 at *
        generalize k / 31 = q31 at *
        generalize k / 1000 = q1000 at *
        generalize k / 9000 = q9000 at *
        generalize k / 117000 = q117 at *
        obtain ⟨w11, w12⟩ := w1
        obtain ⟨w21, w22⟩ := w2
        obtain ⟨w31, w32⟩ := w3
        obtain ⟨w41, w42⟩ := w4
        have hfN : 0 ≤ (f : Int) ∧ (f : Int) < (n : Int) := by have := Int.tmod_lt_of_pos k hnI; omega
        have htN : 0 ≤ (t : Int) ∧ (t : Int) < (n : Int) := by have := Int.tmod_lt_of_pos q31 hnI; omega
        obtain ⟨-, hfN⟩ := hfN
        obtain ⟨-, htN⟩ := htN
        obtain ⟨b51, b52⟩ := b5
        obtain ⟨b91, b92⟩ := b9
        have wq1 : IntKind.i64.wrap q31 = q31 := by rw [IntKind.wrap_i64]; omega
        have wq2 : IntKind.i64.wrap q1000 = q1000 := by rw [IntKind.wrap_i64]; omega
        have wq3 : IntKind.i64.wrap q9000 = q9000 := by rw [IntKind.wrap_i64]; omega
        have wq4 : IntKind.i64.wrap q117 = q117 := by rw [IntKind.wrap_i64]; omega
        have wq5 : IntKind.i64.wrap (r9 - low) = r9 - low := by rw [IntKind.wrap_i64]; omega
        have wq6 : IntKind.i64.wrap (r17 - low) = r17 - low := by rw [IntKind.wrap_i64]; omega
        clear hcx hf ht hArc HSi hlx
        go_wp2_with fail
        go_at_call 8
        refine (unhide HV).mono ?_
        rintro e w2 ⟨rfl, hw2⟩
        have hw2' := hw2.symm
        subst hw2'
        clear hw2 HV c1
        go_upto_region 6 with fail
        go_cut [10] (fun s10 w9 => ∃ wq wx, s10 = .pointer (some ⟨wq.heap.size, 0, none⟩) ∧ wx = w9 ∧ Hid (Below wr.heap.size wr wq ∧ wx = wq.alloc (.cells #[.int .i64 (f : Int), .int .i64 (t : Int), .int .i64 (r9 - low)] 28)))
        case first =>
          refine wp_region_G (fun w' => True) (fun _ => false) (by kernel_rfl) trivial (fun hHeld => ?_)
          have hbq := (Below.refl wr.heap.size wr).drew
          generalize wr.drew = wq at *
          refine wpAnyG_take (v := ?_) 0 (by rfl) (by kernel_rfl) (by kernel_rfl) (by kernel_rfl) (by kernel_rfl) (fun _ _ _ h => h) (Or.inl ⟨by rfl, ?_⟩) (by assumption) ?_
          rotate_left
          · (intro w' hSw; (try dsimp only at hSw); (try simp only [List.getElem_toArray, List.getElem_cons_zero]); go_simp; try (with_reducible rfl))
          simp only [Act.put, List.getElem_toArray, List.getElem_cons_zero, List.setIfInBounds_toArray, List.set_cons_zero, List.set_cons_succ]
          refine wpAnyG_take (v := ?_) 1 (by rfl) (by kernel_rfl) (by kernel_rfl) (by kernel_rfl) (by kernel_rfl) (fun _ _ _ h => h) (Or.inl ⟨by rfl, ?_⟩) (by assumption) ?_
          rotate_left
          · (intro w' hSw; (try dsimp only at hSw); (try simp only [List.getElem_toArray, List.getElem_cons_succ, List.getElem_cons_zero]); go_simp; try (with_reducible rfl))
          simp only [Act.put, List.getElem_toArray, List.getElem_cons_succ, List.getElem_cons_zero, List.setIfInBounds_toArray, List.set_cons_zero, List.set_cons_succ]
          refine wpAnyG_take (v := ?_) 2 (by rfl) (by kernel_rfl) (by kernel_rfl) (by kernel_rfl) (by kernel_rfl) (fun _ _ _ h => h) (Or.inl ⟨by rfl, ?_⟩) (by assumption) ?_
          rotate_left
          · (intro w' hSw; (try dsimp only at hSw); (try simp only [List.getElem_toArray, List.getElem_cons_succ, List.getElem_cons_zero]); go_simp; try (with_reducible rfl))
          simp only [Act.put, List.getElem_toArray, List.getElem_cons_succ, List.getElem_cons_zero, List.setIfInBounds_toArray, List.set_cons_zero, List.set_cons_succ]
          refine wpAnyG_take (v := ?_) 3 (by rfl) (by kernel_rfl) (by kernel_rfl) (by kernel_rfl) (by kernel_rfl) (fun _ _ _ h => h) (Or.inl ⟨by rfl, ?_⟩) (by assumption) ?_
          rotate_left
          · (intro w' hSw; (try dsimp only at hSw); (try simp only [List.getElem_toArray, List.getElem_cons_succ, List.getElem_cons_zero]); go_simp; try (with_reducible rfl))
          simp only [Act.put, List.getElem_toArray, List.getElem_cons_succ, List.getElem_cons_zero, List.setIfInBounds_toArray, List.set_cons_zero, List.set_cons_succ]
          refine wpAnyG_take (v := ?_) 4 (by rfl) (by kernel_rfl) (by kernel_rfl) (by kernel_rfl) (by kernel_rfl) (fun _ _ _ h => h) (Or.inl ⟨by rfl, ?_⟩) (by assumption) ?_
          rotate_left
          · (intro w' hSw; (try dsimp only at hSw); (try simp only [List.getElem_toArray, List.getElem_cons_succ, List.getElem_cons_zero]); go_simp; try (with_reducible rfl))
          simp only [Act.put, List.getElem_toArray, List.getElem_cons_succ, List.getElem_cons_zero, List.setIfInBounds_toArray, List.set_cons_zero, List.set_cons_succ]
          refine wpAnyG_take (v := ?_) 5 (by rfl) (by kernel_rfl) (by kernel_rfl) (by kernel_rfl) (by kernel_rfl) (fun _ _ _ h => h) (Or.inl ⟨by rfl, ?_⟩) (by assumption) ?_
          rotate_left
          · (intro w' hSw; (try dsimp only at hSw); (try simp only [List.getElem_toArray, List.getElem_cons_succ, List.getElem_cons_zero]); go_simp; try (with_reducible rfl))
          simp only [Act.put, List.getElem_toArray, List.getElem_cons_succ, List.getElem_cons_zero, List.setIfInBounds_toArray, List.set_cons_zero, List.set_cons_succ]
          refine wpAnyG_take (v := ?_) 6 (by rfl) (by kernel_rfl) (by kernel_rfl) (by kernel_rfl) (by kernel_rfl) (fun _ _ _ h => h) (Or.inl ⟨by rfl, ?_⟩) (by assumption) ?_
          rotate_left
          · (intro w' hSw; (try dsimp only at hSw); (try simp only [List.getElem_toArray, List.getElem_cons_succ, List.getElem_cons_zero]); go_simp; try (with_reducible rfl))
          simp only [Act.put, List.getElem_toArray, List.getElem_cons_succ, List.getElem_cons_zero, List.setIfInBounds_toArray, List.set_cons_zero, List.set_cons_succ]
          refine wpAnyG_take (v := ?_) 7 (by rfl) (by kernel_rfl) (by kernel_rfl) (by kernel_rfl) (by kernel_rfl) (fun _ _ _ h => h) (Or.inl ⟨by rfl, ?_⟩) (by assumption) ?_
          rotate_left
          · (intro w' hSw; (try dsimp only at hSw); (try simp only [List.getElem_toArray, List.getElem_cons_succ, List.getElem_cons_zero]); go_simp; try (with_reducible rfl))
          simp only [Act.put, List.getElem_toArray, List.getElem_cons_succ, List.getElem_cons_zero, List.setIfInBounds_toArray, List.set_cons_zero, List.set_cons_succ]
          refine wpAnyG_take (v := ?_) 8 (by rfl) (by kernel_rfl) (by kernel_rfl) (by kernel_rfl) (by kernel_rfl) (fun _ _ _ h => h) (Or.inl ⟨by rfl, ?_⟩) (by assumption) ?_
          rotate_left
          · (intro w' hSw; (try dsimp only at hSw); (try simp only [List.getElem_toArray, List.getElem_cons_succ, List.getElem_cons_zero]); go_simp; try (with_reducible rfl))
          simp only [Act.put, List.getElem_toArray, List.getElem_cons_succ, List.getElem_cons_zero, List.setIfInBounds_toArray, List.set_cons_zero, List.set_cons_succ]
          refine wpAnyG_take (v := ?_) 9 (by rfl) (by kernel_rfl) (by kernel_rfl) (by kernel_rfl) (by kernel_rfl) (fun _ _ _ h => h) (Or.inl ⟨by rfl, ?_⟩) (by assumption) ?_
          rotate_left
          · (intro w' hSw; (try dsimp only at hSw); (try simp only [List.getElem_toArray, List.getElem_cons_succ, List.getElem_cons_zero]); go_simp; try (with_reducible rfl))
          simp only [Act.put, List.getElem_toArray, List.getElem_cons_succ, List.getElem_cons_zero, List.setIfInBounds_toArray, List.set_cons_zero, List.set_cons_succ]
          refine wpAnyG_take (v := ?_) 10 (by rfl) (by kernel_rfl) (by kernel_rfl) (by kernel_rfl) (by kernel_rfl) (fun _ _ _ h => h) (Or.inl ⟨by rfl, ?_⟩) (by assumption) ?_
          rotate_left
          · (intro w' hSw; (try dsimp only at hSw); (try simp only [List.getElem_toArray, List.getElem_cons_succ, List.getElem_cons_zero]); go_simp; try (with_reducible rfl))
          simp only [Act.put, List.getElem_toArray, List.getElem_cons_succ, List.getElem_cons_zero, List.setIfInBounds_toArray, List.set_cons_zero, List.set_cons_succ]
          refine wpAnyG_take (v := ?_) 11 (by rfl) (by kernel_rfl) (by kernel_rfl) (by kernel_rfl) (by kernel_rfl) (fun _ _ _ h => h) (Or.inl ⟨by rfl, ?_⟩) (by assumption) ?_
          rotate_left
          · (intro w' hSw; (try dsimp only at hSw); (try simp only [List.getElem_toArray, List.getElem_cons_succ, List.getElem_cons_zero]); go_simp; try (with_reducible rfl))
          simp only [Act.put, List.getElem_toArray, List.getElem_cons_succ, List.getElem_cons_zero, List.setIfInBounds_toArray, List.set_cons_zero, List.set_cons_succ]
          refine wpAnyG_take (v := ?_) 12 (by rfl) (by kernel_rfl) (by kernel_rfl) (by kernel_rfl) (by kernel_rfl) (fun _ _ _ h => h) (Or.inl ⟨by rfl, ?_⟩) (by assumption) ?_
          rotate_left
          · (intro w' hSw; (try dsimp only at hSw); (try simp only [List.getElem_toArray, List.getElem_cons_succ, List.getElem_cons_zero]); go_simp; try (with_reducible rfl))
          simp only [Act.put, List.getElem_toArray, List.getElem_cons_succ, List.getElem_cons_zero, List.setIfInBounds_toArray, List.set_cons_zero, List.set_cons_succ]
          refine wpAnyG_ready [13] (by kernel_rfl) (by simp) ?_
          refine AllReadyG.cons 13 (by rfl) (fun K hK => ?_) ?_
          · simp only [List.getElem_toArray, List.getElem_cons_succ, List.getElem_cons_zero]
            go_simp
            refine hK.out _ _ trivial (fun _ => ?_)
            clear hK K
            try simp only [Act.put, List.setIfInBounds_toArray, List.set_cons_zero, List.set_cons_succ]
            refine wpAnyG_ready [14] (by kernel_rfl) (by simp) ?_
            refine AllReadyG.cons 14 (by rfl) (fun K hK => ?_) ?_
            · simp only [List.getElem_toArray, List.getElem_cons_succ, List.getElem_cons_zero]
              go_simp
              refine hK.out _ _ trivial (fun _ => ?_)
              clear hK K
              try simp only [Act.put, List.setIfInBounds_toArray, List.set_cons_zero, List.set_cons_succ]
              refine wpAnyG_done (by kernel_rfl) ?_ _
              refine NoPanic.normal ?_
              go_wp2
              go_meet
              exact ⟨_, _, rfl, rfl, hide ⟨hbq, rfl⟩⟩
            exact AllReadyG.nil
          exact AllReadyG.nil
        case rest =>
          obtain ⟨wq, wx, rfl, hwx, HBX⟩ := hcut
          subst hwx
          have hbq := (unhide HBX).1
          have hwx2 := (unhide HBX).2
          have hx : wx.heap[wq.heap.size]? = some (.cells #[.int .i64 (f : Int), .int .i64 (t : Int), .int .i64 (r9 - low)] 28) := by
            rw [hwx2]; show (wq.heap.push _)[wq.heap.size]? = _; simp
          have hbx : Below wr.heap.size wr wx := by rw [hwx2]; exact hbq.alloc hbq.size _
          have hob : OwnA wx w.heap.size (.slice ra i rc) (Sp.arcsOf n ns low i) := (unhide HI).2.below hbx
          have hwb : Below w.heap.size w wx := (unhide HI).1.trans (hbx.mono (unhide HI).1.size)
          have hqs : wr.heap.size ≤ wq.heap.size := hbq.size
          have hrl : ∀ g, (Value.slice ra i rc).ownBlock = some g → g < wq.heap.size := fun g hg => Nat.lt_of_lt_of_le ((unhide HI).2.lt g hg).2 hqs
          have hws : w.heap.size ≤ wq.heap.size := Nat.le_trans (unhide HI).1.size hqs
          obtain ⟨u0, u1, u2, uf⟩ := arc_at hx
          have HH := hide (And.intro hob (And.intro hwb (And.intro hrl (And.intro hx hws))))
          clear hbq hwx2 HBX hob hwb hrl hx hbx HI hqs hws
          by_cases h13 : r13 = 0
          · have hle : lx = r17 - low := by rw [unhide Hlx, if_pos h13]
            have hb13 : (r13 == 0) = true := beq_iff_eq.2 h13
            obtain ⟨wY, hwY⟩ : ∃ wY, wY = wx.setCell ⟨wq.heap.size, 2, none⟩ (.int .i64 (r17 - low)) := ⟨_, rfl⟩
            have hY : wY.heap[wq.heap.size]? = some (.cells #[.int .i64 (f : Int), .int .i64 (t : Int), .int .i64 lx] 28) := by
              rw [hwY, hle]; exact arc_set2 (unhide HH).2.2.2.1 _
            have hoY : OwnA wY w.heap.size (.slice ra i rc) (Sp.arcsOf n ns low i) := (unhide HH).1.keep fun g hg => by
              rw [hwY, Below.heap_setCell _ _ _ _ (by show g ≠ wq.heap.size; have := (unhide HH).2.2.1 g hg; omega)]
            have hbY : Below w.heap.size w wY := by rw [hwY]; exact (unhide HH).2.1.setCell (p := ⟨wq.heap.size, 2, none⟩) (unhide HH).2.2.2.2 _
            obtain ⟨v0, v1, v2, -⟩ := arc_at hY
            have HY := hide (And.intro hoY (And.intro hbY hbY.size))
            rw [hle] at v2
            have Hle := hide hle
            clear hY hoY hbY hle
            rw [hwY] at v0 v1 v2
            go_wp2_with (at_builtin; refine wpList_appA (w := (wx.setCell ⟨wq.heap.size, 2, none⟩ (.int .i64 (r17 - low))).alloc (.cells #[.int .i64 (f : Int), .int .i64 (t : Int), .int .i64 (r17 - low)] 28)) rfl _ _ rfl w.heap.size _ _ (Sp.arcsOf n ns low i) [⟨f, t, r17 - low⟩] rfl rfl (by rw [← hwY]; exact (unhide HY).1.alloc _) (OwnA.arcs (own_litA _ 0 _ 1 [⟨f, t, r17 - low⟩] _ rfl (by simp [World.setCell]) rfl (Nat.zero_le _) (by simp))) (i + 1) (by rw [hli, Nat.min_eq_left hin]; rfl) (by omega) (by rw [← hwY]; have := (unhide HY).2.2; simp; omega) ?_)
            intro a6 c6 w6 hown6 hg6 ho6
            have HF : Hid (Below w.heap.size w w6 ∧ OwnA w6 w.heap.size (.slice a6 (i + 1) c6) (Sp.arcsOf n ns low (i + 1))) := hide ⟨by
              rw [← hwY] at hg6
              exact ((unhide HY).2.1.alloc (unhide HY).2.2 _).grown hg6 (by have := (unhide HY).2.2; simp; omega) (fun g hg => ((unhide HH).1.lt g hg).1), by rw [unhide HSj, unhide Hle]; exact hown6⟩
            clear hown6 hg6 ho6 hwY v0 v1 v2
            go_wp2
            go_roundg g'
            case rel => exact ⟨i + 1, by omega, by omega, by go_num, HF⟩
            case measure => omega
          · have hle : lx = r9 - low := by rw [unhide Hlx, if_neg h13]
            have hb13 : (r13 == 0) = false := beq_eq_false_iff_ne.2 h13
            have Hle := hide hle
            clear hle
            go_wp2_with (at_builtin; refine wpList_appA (w := wx.alloc (.cells #[.int .i64 (f : Int), .int .i64 (t : Int), .int .i64 (r9 - low)] 28)) rfl _ _ rfl w.heap.size _ _ (Sp.arcsOf n ns low i) [⟨f, t, r9 - low⟩] rfl rfl ((unhide HH).1.alloc _) (OwnA.arcs (own_litA _ 0 _ 1 [⟨f, t, r9 - low⟩] _ rfl rfl rfl (Nat.zero_le _) (by simp))) (i + 1) (by rw [hli, Nat.min_eq_left hin]; rfl) (by omega) (by have := (unhide HH).2.1.size; simp; omega) ?_)
            intro a6 c6 w6 hown6 hg6 ho6
            have HF : Hid (Below w.heap.size w w6 ∧ OwnA w6 w.heap.size (.slice a6 (i + 1) c6) (Sp.arcsOf n ns low (i + 1))) := hide ⟨((unhide HH).2.1.alloc (unhide HH).2.1.size _).grown hg6 (by have := (unhide HH).2.1.size; simp; omega) (fun g hg => ((unhide HH).1.lt g hg).1), by rw [unhide HSj, unhide Hle]; exact hown6⟩
            clear hown6 hg6 ho6
            go_wp2
            go_roundg g'
            case rel => exact ⟨i + 1, by omega, by omega, by go_num, HF⟩
            case measure => omega
    · obtain rfl : i = ns.length := by omega
      have hiI : ¬ ((ns.length : Nat) : Int) < (ns.length : Int) := by omega
      have HA2 := unhide HAl (by omega)
      go_wp2
      rw [unhide HP]
      exact ⟨_, rfl, by rw [← HA2]; exact (unhide HI).2, (unhide HI).1⟩
end Go.Proofs.Ytggjpglakocilab


/- Known arcs: their ways. -/
namespace Go.Proofs.Ytggjpglakocilab
open Go Go.RowKit

theorem Sp.ps_ok {far : Int} {L : List Sp.Arc} {s n : Nat} (k : Nat) (hf : 0 < far) (hs : s < n) (hL : ∀ a ∈ L, a.f < n) (hc : ∀ a ∈ L, Sp.ps far L (Sp.d0 far s) k a.f ≠ far → ¬ (Sp.ps far L (Sp.d0 far s) k a.f + a.l < Sp.ps far L (Sp.d0 far s) k a.t) ∧ Sp.ps far L (Sp.d0 far s) k a.f + a.l < far) : Sp.Short far L s n (Sp.ps far L (Sp.d0 far s) k) :=
  Sp.short_still hs (Sp.Att.ps hf hL (Sp.att0 hf) k) (fun a ha hne => (hc a ha hne).1) (fun a ha hne => (hc a ha hne).2)
/-- A step of the way: the first arc that may go on. -/
theorem Sp.WayIs.step {L : List Sp.Arc} {y : Nat → Int} {t v : Nat} {W : List Nat} (h : Sp.WayIs L y t v W) (hv : v ≠ t) {i : Nat} (hi : Sp.tt L y v i = true) (hk : ∀ k, k < i → Sp.tt L y v k = false) : ∃ r, W = i :: r ∧ Sp.WayIs L y t (L.getD i Sp.arc0).t r := by
  cases W with
  | nil => exact absurd h hv
  | cons j r =>
    obtain ⟨-, h2, h3, h4, h5⟩ := h
    have e : j = i := by
      rcases Nat.lt_trichotomy j i with e | e | e
      · rw [hk j e] at h3; cases h3
      · exact e
      · rw [h4 i e] at hi; cases hi
    subst e
    exact ⟨r, rfl, h5⟩
theorem Sp.WayIs.end_ {L : List Sp.Arc} {y : Nat → Int} {t : Nat} {W : List Nat} (h : Sp.WayIs L y t t W) : W = [] := by
  cases W with
  | nil => rfl
  | cons j r => exact absurd rfl h.1
def Sp.L0 : List Sp.Arc := [⟨0, 1, 5⟩, ⟨1, 2, 2⟩, ⟨0, 2, 9⟩]
theorem Sp.L0_short : Sp.Short 1152921504606846976 Sp.L0 0 3 (Sp.ps 1152921504606846976 Sp.L0 (Sp.d0 1152921504606846976 0) 3) := Sp.ps_ok 3 (by decide) (by decide) (by decide) (by decide +kernel)
theorem Sp.L0_row {D : Nat → Int} (h : Sp.Short 1152921504606846976 Sp.L0 0 3 D) : D 0 = 0 ∧ D 1 = 5 ∧ D 2 = 7 := by
  refine ⟨?_, ?_, ?_⟩ <;> (rw [h.uniq Sp.L0_short (by decide) (by decide)]; decide +kernel)
theorem Sp.L0_snd : Sp.Snd 3 Sp.L0 := ⟨by decide, by decide⟩
theorem Sp.L0_tow {y : Nat → Int} (h : Sp.Tow Sp.L0 2 3 y) : (y 0 = 7 ∧ y 1 = 2) ∧ (y 2 = 2 ∧ y 3 = 1) ∧ y 4 = 0 ∧ y 5 = 0 := by
  have hs : Sp.Short 345876451382054092800 (Sp.pairL 300 (Sp.L0.map Sp.sw)) 2 3 (Sp.ps 345876451382054092800 (Sp.pairL 300 (Sp.L0.map Sp.sw)) (Sp.d0 345876451382054092800 2) 3) := Sp.ps_ok 3 (by decide) (by decide) (by decide) (by decide +kernel)
  have e0 : Sp.rk y 0 = 2102 := by rw [h.sh.uniq hs (by decide) (by decide)]; decide +kernel
  have e1 : Sp.rk y 1 = 601 := by rw [h.sh.uniq hs (by decide) (by decide)]; decide +kernel
  have e2 : Sp.rk y 2 = 0 := by rw [h.sh.uniq hs (by decide) (by decide)]; decide +kernel
  have b0 := h.bd 0 (by decide)
  have b1 := h.bd 1 (by decide)
  have b2 := h.bd 2 (by decide)
  unfold Sp.rk at e0 e1 e2
  simp only [Nat.zero_mul, Nat.zero_add, Nat.one_mul, Nat.reduceMul, Nat.reduceAdd] at e0 e1 e2 b0 b1 b2
  exact ⟨by rcases b0 with b | b <;> omega, by rcases b1 with b | b <;> omega, by rcases b2 with b | b <;> omega⟩
theorem Sp.L0_way {y : Nat → Int} {W : List Nat} (h : Sp.Tow Sp.L0 2 3 y) (hw : Sp.WayIs Sp.L0 y 2 0 W) : W = [0, 1] := by
  obtain ⟨⟨a0, a1⟩, ⟨a2, a3⟩, a4, a5⟩ := Sp.L0_tow h
  obtain ⟨r, rfl, hw1⟩ := hw.step (by decide) (i := 0) (by unfold Sp.tt; simp [Sp.L0, a0, a1, a2, a3]) (fun k hk => by omega)
  obtain ⟨r2, rfl, hw2⟩ := Sp.WayIs.step hw1 (by decide) (i := 1) (by unfold Sp.tt; simp [Sp.L0, a2, a3, a4, a5]) (fun k hk => by
    obtain rfl : k = 0 := by omega
    unfold Sp.tt; simp [Sp.L0])
  have := Sp.WayIs.end_ hw2
  subst this
  rfl
theorem Sp.nil_row {D : Nat → Int} (h : Sp.Short 1152921504606846976 [] 0 1 D) : D 0 = 0 := h.src
end Go.Proofs.Ytggjpglakocilab


/- watershedlaw6: known. -/
namespace Go.Proofs.Ytggjpglakocilab
open Go Go.RowKit

theorem L0_is (w : World) : ArcsI (w.alloc (.cells #[.int .i64 0, .int .i64 1, .int .i64 5, .int .i64 1, .int .i64 2, .int .i64 2, .int .i64 0, .int .i64 2, .int .i64 9] 28)) (.slice (some ⟨w.heap.size, 0, none⟩) 3 3) Sp.L0 :=
  OwnA.arcs (own_litA w 0 _ 3 Sp.L0 _ rfl rfl rfl (Nat.zero_le _) (by decide))
theorem Ints.cellA {w : World} {b o n c : Nat} {l : List Int} (h : Ints w (.slice (some ⟨b, o, none⟩) n c) l) (k : Nat) (hk : k < l.length) : w.cell? ⟨b, o + k, none⟩ = some (.int .i64 (l.getD k 0)) := by
  obtain ⟨a, c', e, -, -, H⟩ := h.allA
  obtain ⟨b', o', e2, -, h2⟩ := unhide H k hk
  injection e with e1 _ _
  rw [e2] at e1
  injection e1 with e1
  injection e1 with q1 q2
  subst q1 q2
  exact h2 w (Below.refl _ _)
theorem row3 (D : Nat → Int) {a b c : Int} (h0 : D 0 = a) (h1 : D 1 = b) (h2 : D 2 = c) : (List.range 3).map D = [a, b, c] := by
  show [D 0, D 1, D 2] = _
  rw [h0, h1, h2]
theorem known6_From (lv : Value) (w : World) (hl : ArcsI w lv Sp.L0) : Calls Try.prog 14 #[.int .i64 3, lv, .int .i64 0] w fun e w' => ∃ G, e = .returned (.slice (some ⟨G, 0, none⟩) 3 3) ∧ Ints w' (.slice (some ⟨G, 0, none⟩) 3 3) [0, 5, 7] ∧ Below w.heap.size w w' := by
  have h := from_any 3 Sp.L0 0 lv w hl Sp.L0_snd (by decide) (by decide) (by decide)
  refine h.mono ?_
  rintro e w' ⟨G, D, rfl, -, hr, hb, hD, -⟩
  obtain ⟨d0, d1, d2⟩ := Sp.L0_row hD
  have hi := hr.ints (by decide)
  rw [row3 D d0 d1 d2] at hi
  exact ⟨G, rfl, hi, hb⟩
theorem L0_ex : ∃ D, Sp.Short 1152921504606846976 Sp.L0 0 3 D ∧ ∀ v, D v ≠ 1152921504606846976 → D v < 1152921504606846976 :=
  Sp.Short.ex (by decide) (by decide) Sp.L0_short (by
    intro v hv _
    rcases (show v = 0 ∨ v = 1 ∨ v = 2 by omega) with rfl | rfl | rfl <;> decide +kernel)
theorem known6_Any (lv : Value) (w : World) (hl : ArcsI w lv Sp.L0) : Calls Try.prog 10 #[.int .i64 3, lv, .int .i64 0] w fun e w' => ∃ G, e = .returned (.tuple #[.slice (some ⟨G, 0, none⟩) 3 3, .slice none 0 0, .bool true]) ∧ Ints w' (.slice (some ⟨G, 0, none⟩) 3 3) [0, 5, 7] ∧ Below w.heap.size w w' := by
  have h := any_yes 3 Sp.L0 0 lv w hl Sp.L0_snd (by decide) (by decide) L0_ex
  refine h.mono ?_
  rintro e w' ⟨G, D, rfl, -, hr, hb, hD⟩
  obtain ⟨d0, d1, d2⟩ := Sp.L0_row hD
  have hi := hr.ints (by decide)
  rw [row3 D d0 d1 d2] at hi
  exact ⟨G, rfl, hi, hb⟩
theorem known6_Right (lv dv : Value) (w : World) (hl : ArcsI w lv Sp.L0) (hd : Ints w dv [0, 5, 7]) : Calls Try.prog 12 #[.int .i64 3, lv, .int .i64 0, dv] w fun e w' => e = .returned (.bool true) ∧ Below w.heap.size w w' := by
  have h := right_yes 3 Sp.L0 0 [0, 5, 7] lv dv w hl hd (by decide) Sp.L0_snd (by decide) (by decide) L0_ex
  refine h.mono ?_
  rintro e w' ⟨hb, D, b, rfl, hD, rfl⟩
  obtain ⟨d0, d1, d2⟩ := Sp.L0_row hD
  rw [row3 D d0 d1 d2]
  exact ⟨rfl, hb⟩
theorem known6_Way (lv : Value) (w : World) (hl : ArcsI w lv Sp.L0) : Calls Try.prog 13 #[.int .i64 3, lv, .int .i64 0, .int .i64 2] w fun e w' => ∃ rv, e = .returned (.tuple #[rv, .bool true]) ∧ Ints w' rv [0, 1] ∧ Below w.heap.size w w' := by
  have h := way_any6 3 Sp.L0 0 2 lv w hl Sp.L0_snd (by decide) (by decide) (by decide) (by decide)
  refine h.mono ?_
  rintro e w' ⟨hb, y, hT, ⟨hf, rfl⟩ | ⟨-, rv, W, rfl, ho, -, hw⟩⟩
  · have := (Sp.L0_tow hT).1.1
    rw [show (0 * 2 : Nat) = 0 from rfl, this] at hf
    cases hf
  · have := Sp.L0_way hT hw
    subst this
    exact ⟨rv, rfl, OwnI.ints ho, hb⟩
theorem known6_One (w : World) : Calls Try.prog 14 #[.int .i64 1, .slice none 0 0, .int .i64 0] w fun e w' => ∃ G, e = .returned (.slice (some ⟨G, 0, none⟩) 1 1) ∧ Ints w' (.slice (some ⟨G, 0, none⟩) 1 1) [0] ∧ Below w.heap.size w w' := by
  have h := from_any 1 [] 0 (.slice none 0 0) w (OwnA.nil w 0).arcs ⟨by decide, fun a ha => by cases ha⟩ (fun a ha => by cases ha) (by decide) (by decide)
  refine h.mono ?_
  rintro e w' ⟨G, D, rfl, -, hr, hb, hD, -⟩
  have hi := hr.ints (by decide)
  have e1 : (List.range 1).map D = [0] := by show [D 0] = _; rw [Sp.nil_row hD]
  rw [e1] at hi
  exact ⟨G, rfl, hi, hb⟩
set_option maxRecDepth 100000 in
set_option maxHeartbeats 4000000 in
theorem known6_any (w : World) : Calls Try.prog 7 #[] w fun e w' => e = .returned (.bool true) ∧ Below w.heap.size w w' := by
  obtain ⟨W1, hW1⟩ : ∃ W1, W1 = w.alloc (.cells #[.int .i64 0, .int .i64 1, .int .i64 5, .int .i64 1, .int .i64 2, .int .i64 2, .int .i64 0, .int .i64 2, .int .i64 9] 28) := ⟨_, rfl⟩
  have hl := L0_is w
  rw [← hW1] at hl
  have hb1 : Below w.heap.size w W1 := by rw [hW1]; exact (Below.refl _ w).alloc (Nat.le_refl _) _
  have HL := hide (fun w' (hb : Below W1.heap.size W1 w') => hl.below hb)
  have HF := hide (known6_From _ W1 hl)
  have HB1 := hide (fun w' (hb : Below W1.heap.size W1 w') => hb1.trans (hb.mono hb1.size))
  clear hl hb1
  subst hW1
  go_enter Try.func7, Try.ntmps7
  go_wp2_with fail
  go_at_call 14
  generalize w.alloc (.cells #[.int .i64 0, .int .i64 1, .int .i64 5, .int .i64 1, .int .i64 2, .int .i64 2, .int .i64 0, .int .i64 2, .int .i64 9] 28) = W1 at *
  refine (unhide HF).mono ?_
  rintro e w2 ⟨G, rfl, hd2, hb2⟩
  have HW := hide (known6_Way _ w2 (unhide HL _ hb2))
  have H2 := hide (And.intro hb2 hd2)
  clear hd2 hb2 HF
  go_wp2_with fail
  go_at_call 13
  refine (unhide HW).mono ?_
  rintro e w3 ⟨rv, rfl, hr3, hb3⟩
  have H3 := hide (And.intro ((unhide H2).1.trans (hb3.mono (unhide H2).1.size)) (And.intro ((unhide H2).2.below hb3) hr3))
  obtain ⟨ra, rc, rfl, -⟩ := hr3.form
  have HA := hide (known6_Any _ w3 (unhide HL _ (unhide H3).1))
  clear hr3 hb3 H2 HW
  go_wp2_with fail
  go_at_call 10
  refine (unhide HA).mono ?_
  rintro e w4 ⟨G4, rfl, he4, hb4⟩
  have H4 := hide (And.intro ((unhide H3).1.trans (hb4.mono (unhide H3).1.size)) (And.intro ((unhide H3).2.1.below hb4) (And.intro ((unhide H3).2.2.below hb4) he4)))
  have HO := hide (known6_One w4)
  clear he4 hb4 H3 HA
  go_wp2_with fail
  go_at_call 14
  refine (unhide HO).mono ?_
  rintro e w5 ⟨G5, rfl, ho5, hb5⟩
  have H5 := hide (And.intro ((unhide H4).1.trans (hb5.mono (unhide H4).1.size)) (And.intro ((unhide H4).2.1.below hb5) (And.intro ((unhide H4).2.2.1.below hb5) ((unhide H4).2.2.2.below hb5))))
  have hd5 := (unhide H5).2.1
  have hr5 := (unhide H5).2.2.1
  have k1 := ho5.cellA 0 (by decide)
  have k2 := hd5.cellA 2 (by decide)
  have k3 : ∃ b o, ra = some ⟨b, o, none⟩ ∧ w5.cell? ⟨b, o + 1, none⟩ = some (.int .i64 1) := by
    obtain ⟨a, c', e, -, -, H⟩ := hr5.allA
    obtain ⟨b', o', e2, -, h2⟩ := unhide H 1 (by decide)
    injection e with e1 _ _
    exact ⟨b', o', by rw [e1, e2], h2 w5 (Below.refl _ _)⟩
  obtain ⟨b3, o3, rfl, k3⟩ := k3
  have k1' : w5.cell? ⟨G5, 0, none⟩ = some (.int .i64 0) := k1
  have k2' : w5.cell? ⟨G, 2, none⟩ = some (.int .i64 7) := k2
  have hI0 : Calls Try.prog 11 #[.slice (some ⟨G, 0, none⟩) 3 3, .slice (some ⟨G4, 0, none⟩) 3 3] w5 fun e w' => e = .returned (.bool true) ∧ Below w5.heap.size w5 w' := by
    refine (ints6_any [0, 5, 7] [0, 5, 7] _ _ w5 (unhide H5).2.1 (unhide H5).2.2.2 (by decide)).mono ?_
    rintro e w' ⟨rfl, hb⟩
    exact ⟨by simp, hb⟩
  have HI := hide hI0
  clear hI0
  have HRt := hide (fun w' (hb : Below w5.heap.size w5 w') => known6_Right _ _ w' (unhide HL _ ((unhide H5).1.trans (hb.mono (unhide H5).1.size))) ((unhide H5).2.1.below hb))
  have HE := hide (fun w' (hb : Below w5.heap.size w5 w') => unhide HB1 _ ((unhide H5).1.trans (hb.mono (unhide H5).1.size)))
  clear hd5 hr5 k1 k2 ho5 hb5 HO H4 H5 HL HB1
  go_wp2_with fail
  go_at_call 11
  refine (unhide HI).mono ?_
  rintro e w6 ⟨rfl, hb6⟩
  have HR6 := hide (unhide HRt _ hb6)
  have HB6 := hide hb6
  clear hb6 HRt HI
  go_wp2_with fail
  go_at_call 12
  refine (unhide HR6).mono ?_
  rintro e w7 ⟨rfl, hb7⟩
  have HB7 := hide (unhide HE _ ((unhide HB6).trans (hb7.mono (unhide HB6).size)))
  clear hb7 HR6 HE
  go_wp2
  go_ret
  exact ⟨by rfl, unhide HB7⟩
end Go.Proofs.Ytggjpglakocilab


/- By which arc each place was shortened last, pass by pass (P601: Any's round). -/
namespace Go.Proofs.Ytggjpglakocilab
open Go Go.RowKit

/-- The arc that a place's number names. -/
def Sp.byA (L : List Sp.Arc) (Y : Nat → Int) (v : Nat) : Option Sp.Arc := if Y v = -1 then none else some (L.getD (Y v).toNat Sp.arc0)
/-- While pass K is made, i arcs of it tried. -/
structure Sp.Pas (L : List Sp.Arc) (n K i : Nat) (D Y : Nat → Int) (tm pn : Nat → Nat) (clock : Nat) : Prop where
  tr : Sp.Tr 1152921504606846976 L n D (Sp.byA L Y) tm pn clock
  le : ∀ v, pn v ≤ K
  num : ∀ v, v < n → Y v = -1 ∨ ∃ m : Nat, Y v = (m : Int) ∧ m < L.length
  old : ∀ m, m < L.length → pn (L.getD m Sp.arc0).f + 1 < K → D (L.getD m Sp.arc0).f ≠ 1152921504606846976 → D (L.getD m Sp.arc0).t ≤ D (L.getD m Sp.arc0).f + (L.getD m Sp.arc0).l
  new_ : ∀ m, m < i → m < L.length → pn (L.getD m Sp.arc0).f < K → D (L.getD m Sp.arc0).f ≠ 1152921504606846976 → D (L.getD m Sp.arc0).t ≤ D (L.getD m Sp.arc0).f + (L.getD m Sp.arc0).l
theorem Sp.Pas.start (L : List Sp.Arc) (n s : Nat) : Sp.Pas L n 0 0 (Sp.pk L s 0) (fun _ => -1) (fun _ => 0) (fun _ => 0) 1 :=
  ⟨⟨fun v a _ h => by unfold Sp.byA at h; simp at h, fun v => by omega, fun v _ h => by omega⟩, fun _ => Nat.le_refl _, fun _ _ => .inl rfl, fun m _ h => by omega, fun m h => by omega⟩
/-- The next pass. -/
theorem Sp.Pas.next {L : List Sp.Arc} {n K : Nat} {D Y : Nat → Int} {tm pn : Nat → Nat} {clock : Nat} (h : Sp.Pas L n K L.length D Y tm pn clock) : Sp.Pas L n (K + 1) 0 D Y tm pn clock :=
  ⟨h.tr, fun v => by have := h.le v; omega, h.num, fun m hm hp hne => h.new_ m hm hm (by omega) hne, fun m hm => by omega⟩
/-- An arc that changes nothing. -/
theorem Sp.Pas.no {L : List Sp.Arc} {n K i : Nat} {D Y : Nat → Int} {tm pn : Nat → Nat} {clock : Nat} (h : Sp.Pas L n K i D Y tm pn clock) (hno : ¬ (D (L.getD i Sp.arc0).f ≠ 1152921504606846976 ∧ D (L.getD i Sp.arc0).f + (L.getD i Sp.arc0).l < D (L.getD i Sp.arc0).t)) : Sp.Pas L n K (i + 1) D Y tm pn clock :=
  ⟨h.tr, h.le, h.num, h.old, fun m hm hml hp hne => by
    by_cases e : m = i
    · subst e
      exact Int.not_lt.1 (fun hh => hno ⟨hne, hh⟩)
    · exact h.new_ m (by omega) hml hp hne⟩
/-- An arc that shortens a way. -/
theorem Sp.Pas.yes {L : List Sp.Arc} {n K i : Nat} {D Y : Nat → Int} {tm pn : Nat → Nat} {clock : Nat} (h : Sp.Pas L n K i D Y tm pn clock) (hi : i < L.length) (hg : D (L.getD i Sp.arc0).f ≠ 1152921504606846976) (hlt : D (L.getD i Sp.arc0).f + (L.getD i Sp.arc0).l < D (L.getD i Sp.arc0).t) (hx : D (L.getD i Sp.arc0).f + (L.getD i Sp.arc0).l ≠ 1152921504606846976) :
    Sp.Pas L n K (i + 1) (Sp.upd D (L.getD i Sp.arc0).t (D (L.getD i Sp.arc0).f + (L.getD i Sp.arc0).l)) (Sp.upd Y (L.getD i Sp.arc0).t (i : Int)) (fun v => if v = (L.getD i Sp.arc0).t then clock else tm v) (fun v => if v = (L.getD i Sp.arc0).t then K else pn v) (clock + 1) := by
  have hk : K ≤ pn (L.getD i Sp.arc0).f + 1 := by
    rcases Nat.lt_or_ge (pn (L.getD i Sp.arc0).f + 1) K with e | e
    · have := h.old i hi e hg; omega
    · exact e
  have hput := h.tr.put (Sp.arc_mem hi) hg hlt hx hk (h.le _)
  have eB : (fun v => if v = (L.getD i Sp.arc0).t then some (L.getD i Sp.arc0) else Sp.byA L Y v) = Sp.byA L (Sp.upd Y (L.getD i Sp.arc0).t (i : Int)) := funext fun v => by
    unfold Sp.byA Sp.upd
    by_cases e : v = (L.getD i Sp.arc0).t
    · rw [if_pos e, if_pos e, if_neg (by omega), Int.toNat_natCast]
    · rw [if_neg e, if_neg e]
  rw [eB] at hput
  refine ⟨hput, fun v => ?_, fun v hv => ?_, fun m hm hp hne => ?_, fun m hm hml hp hne => ?_⟩
  · show (if v = _ then K else pn v) ≤ K
    split
    · exact Nat.le_refl _
    · exact h.le v
  · unfold Sp.upd
    by_cases e : v = (L.getD i Sp.arc0).t
    · rw [if_pos e]; exact .inr ⟨i, rfl, hi⟩
    · rw [if_neg e]; exact h.num v hv
  · have hp' : (if (L.getD m Sp.arc0).f = (L.getD i Sp.arc0).t then K else pn (L.getD m Sp.arc0).f) + 1 < K := hp
    by_cases e : (L.getD m Sp.arc0).f = (L.getD i Sp.arc0).t
    · rw [if_pos e] at hp'; omega
    · rw [if_neg e] at hp'
      rw [Sp.upd_other _ _ e] at hne ⊢
      have h1 := h.old m hm hp' hne
      unfold Sp.upd
      split
      · rename_i e2; rw [e2] at h1; omega
      · exact h1
  · have hp' : (if (L.getD m Sp.arc0).f = (L.getD i Sp.arc0).t then K else pn (L.getD m Sp.arc0).f) < K := hp
    by_cases e : (L.getD m Sp.arc0).f = (L.getD i Sp.arc0).t
    · rw [if_pos e] at hp'; omega
    · rw [if_neg e] at hp'
      rw [Sp.upd_other _ _ e] at hne ⊢
      by_cases em : m = i
      · subst em
        rw [Sp.upd_same]; exact Int.le_refl _
      · have h1 := h.new_ m (by omega) hml hp' hne
        unfold Sp.upd
        split
        · rename_i e2; rw [e2] at h1; omega
        · exact h1
/-- Along a whole pass: what was shortened last was so in this pass. -/
theorem Sp.Pas.pass {L : List Sp.Arc} {n K : Nat} {D Y : Nat → Int} (hb : ∀ i, i < L.length → ∀ v, v < n → (Sp.pq L D Y i).1 v = 1152921504606846976 ∨ (Sp.pq L D Y i).1 v < 1000000000000000000) (hL : ∀ a ∈ L, a.f < n ∧ a.t < n ∧ a.l ≤ 1099511627776) :
    ∀ i, i ≤ L.length → (∃ tm pn clock, Sp.Pas L n K 0 D Y tm pn clock) → ∃ tm pn clock, Sp.Pas L n K i (Sp.pq L D Y i).1 (Sp.pq L D Y i).2.1 tm pn clock ∧ ((Sp.pq L D Y i).2.2 = -1 ∨ ∃ x : Nat, (Sp.pq L D Y i).2.2 = (x : Int) ∧ x < n ∧ pn x = K)
  | 0, _, ⟨tm, pn, clock, h⟩ => ⟨tm, pn, clock, h, .inl rfl⟩
  | i + 1, hi, h0 => by
    obtain ⟨tm, pn, clock, h, hs⟩ := Sp.Pas.pass hb hL i (by omega) h0
    obtain ⟨g1, g2, g3⟩ := hL _ (Sp.arc_mem (show i < L.length by omega))
    have hbf := hb i (by omega) _ g1
    rw [Sp.pq]
    by_cases hc : (Sp.pq L D Y i).1 (L.getD i Sp.arc0).f ≠ 1152921504606846976 ∧ (Sp.pq L D Y i).1 (L.getD i Sp.arc0).f + (L.getD i Sp.arc0).l < (Sp.pq L D Y i).1 (L.getD i Sp.arc0).t
    · rw [if_pos hc]
      have hx := hbf.resolve_left hc.1
      exact ⟨_, _, _, h.yes (by omega) hc.1 hc.2 (by omega), .inr ⟨_, rfl, g2, by show (if _ = _ then K else _) = K; rw [if_pos rfl]⟩⟩
    · rw [if_neg hc]
      exact ⟨tm, pn, clock, h.no hc, hs⟩
end Go.Proofs.Ytggjpglakocilab


/- Back along the arcs that shortened last: n steps back stands a place of a round, below 0 (P601: Any's round). -/
namespace Go.Proofs.Ytggjpglakocilab
open Go Go.RowKit

def Sp.bk (L : List Sp.Arc) (Y : Nat → Int) (v : Nat) : Nat := (L.getD (Y v).toNat Sp.arc0).f
def Sp.itb (L : List Sp.Arc) (Y : Nat → Int) : Nat → Nat → Nat
  | 0, x => x
  | m + 1, x => Sp.bk L Y (Sp.itb L Y m x)
theorem Sp.itb_add (L : List Sp.Arc) (Y : Nat → Int) (x : Nat) (i : Nat) : ∀ j, Sp.itb L Y (j + i) x = Sp.itb L Y j (Sp.itb L Y i x)
  | 0 => by rw [Nat.zero_add]; rfl
  | j + 1 => by
    rw [show j + 1 + i = j + i + 1 by omega]
    show Sp.bk L Y (Sp.itb L Y (j + i) x) = Sp.bk L Y _
    rw [Sp.itb_add L Y x i j]
theorem Sp.itb_succ (L : List Sp.Arc) (Y : Nat → Int) (x m : Nat) : Sp.itb L Y (m + 1) x = Sp.itb L Y m (Sp.bk L Y x) := Sp.itb_add L Y x 1 m
/-- How long m arcs back are together. -/
def Sp.smb (L : List Sp.Arc) (Y : Nat → Int) : Nat → Nat → Int
  | 0, _ => 0
  | m + 1, x => (L.getD (Y x).toNat Sp.arc0).l + Sp.smb L Y m (Sp.bk L Y x)
theorem Sp.byA_some {L : List Sp.Arc} {Y : Nat → Int} {v : Nat} (h : Y v ≠ -1) : Sp.byA L Y v = some (L.getD (Y v).toNat Sp.arc0) := by
  unfold Sp.byA; rw [if_neg h]
theorem Sp.Bk.of_it {L : List Sp.Arc} {Y : Nat → Int} : ∀ m x, (∀ j, j < m → Y (Sp.itb L Y j x) ≠ -1) → Sp.Bk (Sp.byA L Y) m x (Sp.itb L Y m x) (Sp.smb L Y m x)
  | 0, x, _ => ⟨rfl, rfl⟩
  | m + 1, x, h => by
    refine ⟨_, Sp.byA_some (h 0 (by omega)), ?_⟩
    have ih := Sp.Bk.of_it (L := L) (Y := Y) m (Sp.bk L Y x) (fun j hj => by rw [← Sp.itb_succ]; exact h (j + 1) (by omega))
    rw [← Sp.itb_succ] at ih
    have e : Sp.smb L Y (m + 1) x - (L.getD (Y x).toNat Sp.arc0).l = Sp.smb L Y m (Sp.bk L Y x) := by
      show (L.getD (Y x).toNat Sp.arc0).l + Sp.smb L Y m (Sp.bk L Y x) - _ = _
      omega
    rw [e]; exact ih
/-- The state behind pass K, as far as the way back asks it. -/
structure Sp.Ago (L : List Sp.Arc) (n : Nat) (D Y : Nat → Int) (pn : Nat → Nat) : Prop where
  tr : ∃ tm clock, Sp.Tr 1152921504606846976 L n D (Sp.byA L Y) tm pn clock
  rng : ∀ a ∈ L, a.f < n ∧ a.t < n
  num : ∀ v, v < n → Y v = -1 ∨ ∃ m : Nat, Y v = (m : Int) ∧ m < L.length
theorem Sp.Ago.ne {L : List Sp.Arc} {n : Nat} {D Y : Nat → Int} {pn : Nat → Nat} (h : Sp.Ago L n D Y pn) {v : Nat} (hv : v < n) (hp : 0 < pn v) : Y v ≠ -1 := fun e => by
  obtain ⟨tm, clock, ht⟩ := h.tr
  exact ht.some_ v hv hp (by unfold Sp.byA; rw [if_pos e])
theorem Sp.Ago.arc {L : List Sp.Arc} {n : Nat} {D Y : Nat → Int} {pn : Nat → Nat} (h : Sp.Ago L n D Y pn) {v : Nat} (hv : v < n) (hy : Y v ≠ -1) : (L.getD (Y v).toNat Sp.arc0).t = v ∧ Sp.bk L Y v < n ∧ D (Sp.bk L Y v) ≠ 1152921504606846976 ∧ pn v ≤ pn (Sp.bk L Y v) + 1 ∧ ∃ m : Nat, Y v = (m : Int) ∧ m < L.length := by
  obtain ⟨tm, clock, ht⟩ := h.tr
  obtain ⟨h1, h2, h3, -, -, h6⟩ := ht.arc v _ hv (Sp.byA_some hy)
  exact ⟨h2, (h.rng _ h1).1, h3, h6, (h.num v hv).resolve_left hy⟩
theorem Sp.Ago.back {L : List Sp.Arc} {n : Nat} {D Y : Nat → Int} {pn : Nat → Nat} (h : Sp.Ago L n D Y pn) {x : Nat} (hx : x < n) : ∀ m, m ≤ pn x → Sp.itb L Y m x < n ∧ pn x ≤ pn (Sp.itb L Y m x) + m
  | 0, _ => ⟨hx, by show pn x ≤ pn x + 0; omega⟩
  | m + 1, hm => by
    obtain ⟨h1, h2⟩ := Sp.Ago.back h hx m (by omega)
    obtain ⟨-, h3, -, h4, -⟩ := h.arc h1 (h.ne h1 (by omega))
    exact ⟨h3, by show pn x ≤ pn (Sp.bk L Y (Sp.itb L Y m x)) + (m + 1); omega⟩
/-- Of n + 1 places two are one. -/
theorem Sp.pigeon {n : Nat} (f : Nat → Nat) (hf : ∀ m, m ≤ n → f m < n) : ∃ i j, i < j ∧ j ≤ n ∧ f i = f j := by
  rcases Classical.em (∃ i j, i < j ∧ j ≤ n ∧ f i = f j) with h | h
  · exact h
  · exfalso
    have hnd : ((List.range (n + 1)).map fun m => ((f m : Nat) : Int)).Nodup := by
      unfold List.Nodup
      rw [List.pairwise_iff_getElem]
      intro i j hi hj hij e
      simp only [List.length_map, List.length_range] at hi hj
      simp only [List.getElem_map, List.getElem_range] at e
      exact h ⟨i, j, hij, by omega, by omega⟩
    have := nodup_le n _ hnd (fun x hx => by
      obtain ⟨m, hm, rfl⟩ := List.mem_map.1 hx
      have := hf m (by have := List.mem_range.1 hm; omega)
      omega)
    rw [List.length_map, List.length_range] at this
    omega
theorem Sp.least_nat {P : Nat → Prop} : ∀ m, P m → ∃ q, q ≤ m ∧ P q ∧ ∀ j, j < q → ¬ P j
  | m, h => by
    rcases Classical.em (∃ j, j < m ∧ P j) with ⟨j, hj, hp⟩ | hn
    · obtain ⟨q, h1, h2, h3⟩ := Sp.least_nat j hp
      exact ⟨q, by omega, h2, h3⟩
    · exact ⟨m, Nat.le_refl _, h, fun j hj hp => hn ⟨j, hj, hp⟩⟩
/-- n steps back stands a place of a round: q arcs lead back to it, none fewer; together they are below 0. -/
theorem Sp.Ago.round {L : List Sp.Arc} {n : Nat} {D Y : Nat → Int} {pn : Nat → Nat} (h : Sp.Ago L n D Y pn) {x : Nat} (hx : x < n) (hp : n ≤ pn x) :
    ∃ q, 0 < q ∧ q ≤ n ∧ Sp.itb L Y q (Sp.itb L Y n x) = Sp.itb L Y n x ∧ (∀ j, Sp.itb L Y j (Sp.itb L Y n x) < n ∧ Y (Sp.itb L Y j (Sp.itb L Y n x)) ≠ -1) ∧ (∀ j, 0 < j → j < q → Sp.itb L Y j (Sp.itb L Y n x) ≠ Sp.itb L Y n x) ∧ Sp.smb L Y q (Sp.itb L Y n x) < 0 := by
  obtain ⟨i, j, hij, hj, e⟩ := Sp.pigeon (n := n) (fun m => Sp.itb L Y m x) (fun m hm => (h.back hx m (by omega)).1)
  have e' : Sp.itb L Y i x = Sp.itb L Y j x := e
  obtain ⟨c, hc⟩ : ∃ c, Sp.itb L Y i x = c := ⟨_, rfl⟩
  obtain ⟨p, hpj⟩ : ∃ p, j = p + i := ⟨j - i, by omega⟩
  have hp0 : 0 < p := by omega
  have hcyc : Sp.itb L Y p c = c := by rw [← hc, ← Sp.itb_add, ← hpj]; exact e'.symm
  have hmod : ∀ m, Sp.itb L Y m c = Sp.itb L Y (m % p) c := by
    intro m
    induction m using Nat.strongRecOn with
    | _ m ih =>
      by_cases hm : m < p
      · rw [Nat.mod_eq_of_lt hm]
      · have h1 := ih (m - p) (by omega)
        rw [show m = (m - p) + p by omega, Sp.itb_add, hcyc, Nat.add_mod_right]
        exact h1
  have hgood : ∀ m, Sp.itb L Y m c < n ∧ Y (Sp.itb L Y m c) ≠ -1 := fun m => by
    rw [hmod m]
    have hlt := Nat.mod_lt m hp0
    generalize m % p = r at *
    rw [← hc, ← Sp.itb_add]
    obtain ⟨h1, h2⟩ := h.back hx (r + i) (by omega)
    exact ⟨h1, h.ne h1 (by omega)⟩
  obtain ⟨a, ha⟩ : ∃ a, Sp.itb L Y n x = a := ⟨_, rfl⟩
  have hac : a = Sp.itb L Y (n - i) c := by rw [← ha, ← hc, ← Sp.itb_add]; congr 1; omega
  rw [ha]
  have hpa : Sp.itb L Y p a = a := by
    rw [hac, ← Sp.itb_add, show p + (n - i) = (n - i) + p by omega, Sp.itb_add, hcyc]
  have hga : ∀ m, Sp.itb L Y m a < n ∧ Y (Sp.itb L Y m a) ≠ -1 := fun m => by
    rw [hac, ← Sp.itb_add]; exact hgood _
  obtain ⟨q, hq1, ⟨hq2, hq3⟩, hq4⟩ := Sp.least_nat (P := fun q => 0 < q ∧ Sp.itb L Y q a = a) p ⟨hp0, hpa⟩
  refine ⟨q, hq2, by omega, hq3, hga, fun j h1 h2 h3 => hq4 j h2 ⟨h1, h3⟩, ?_⟩
  obtain ⟨tm, clock, ht⟩ := h.tr
  have hB := Sp.Bk.of_it (L := L) (Y := Y) q a (fun j _ => (hga j).2)
  rw [hq3] at hB
  exact ht.round h.rng (hga 0).1 hq2 hB
end Go.Proofs.Ytggjpglakocilab


/- slices.Reverse of a row of ints. -/
namespace Go.Proofs.Ytggjpglakocilab
open Go Go.RowKit

theorem Sp.map_set (n : Nat) (f : Nat → Int) (i : Nat) (a : Int) : ((List.range n).map f).set i a = (List.range n).map (Sp.upd f i a) := by
  apply List.ext_getElem
  · simp
  · intro k h1 h2
    simp only [List.getElem_set, List.getElem_map, List.getElem_range, Sp.upd]
    by_cases e : i = k
    · rw [if_pos e, if_pos e.symm]
    · rw [if_neg e, if_neg (fun h => e h.symm)]
/-- The first k and the last k turned about. -/
def Sp.rvf (n k : Nat) (f : Nat → Int) : Nat → Int := fun i => if i < k ∨ n ≤ i + k then f (n - 1 - i) else f i
theorem Sp.rvf_succ {n k j : Nat} (f : Nat → Int) (h : k + j + 1 = n) (hk : k < j) : ∀ i, i < n → Sp.upd (Sp.upd (Sp.rvf n k f) k (Sp.rvf n k f j)) j (Sp.rvf n k f k) i = Sp.rvf n (k + 1) f i := fun i hi => by
  unfold Sp.upd Sp.rvf
  by_cases e1 : i = j
  · subst e1
    rw [if_pos rfl, if_neg (by omega), if_pos (by omega), show n - 1 - i = k by omega]
  · rw [if_neg e1]
    by_cases e2 : i = k
    · subst e2
      rw [if_pos rfl, if_neg (by omega), if_pos (by omega), show n - 1 - i = j by omega]
    · rw [if_neg e2]
      by_cases e3 : i < k ∨ n ≤ i + k
      · rw [if_pos e3, if_pos (by omega)]
      · rw [if_neg e3, if_neg (by omega)]
set_option maxRecDepth 100000 in
set_option maxHeartbeats 8000000 in
theorem reverse_any (n c g B : Nat) (f : Nat → Int) (w : World) (hn : 0 < n) (hn2 : n ≤ 1000) (hO : OwnI w B (.slice (some ⟨g, 0, none⟩) n c) ((List.range n).map f)) :
    Calls Try.prog 33 #[.slice (some ⟨g, 0, none⟩) n c] w fun e w' => e = .returned (.tuple #[]) ∧ Below B w w' ∧ OwnI w' B (.slice (some ⟨g, 0, none⟩) n c) ((List.range n).map fun i => f (n - 1 - i)) := by
  have hgB := (hO.lt g rfl).1
  have hBs : B ≤ w.heap.size := by have := (hO.lt g rfl).2; omega
  have HRs := hide (fun (k j : Nat) (h : k + j + 1 = n) (hk : k < j) => Sp.rvf_succ f h hk)
  have HI0 : Hid (Below B w w ∧ OwnI w B (.slice (some ⟨g, 0, none⟩) n c) ((List.range n).map (Sp.rvf n 0 f))) := hide ⟨Below.refl _ _, by
    have e : (List.range n).map (Sp.rvf n 0 f) = (List.range n).map f := List.map_congr_left fun i hi => by
      have := List.mem_range.1 hi
      unfold Sp.rvf; rw [if_neg (by omega)]
    rw [e]; exact hO⟩
  obtain ⟨P, hP⟩ : ∃ P : Ending → World → Prop, P = fun e w' => e = .returned (.tuple #[]) ∧ Below B w w' ∧ OwnI w' B (.slice (some ⟨g, 0, none⟩) n c) ((List.range n).map fun i => f (n - 1 - i)) := ⟨_, rfl⟩
  rw [← hP]
  have HP := hide hP
  clear hP hO
  go_enter Try.func33, Try.ntmps33
  go_wp2
  go_loopg [2, 3] n (fun g' s2 s3 wr => ∃ i j : Nat, i + j + 1 = n ∧ (j - i ≤ g') ∧ s2 = .int .i64 (i : Int) ∧ s3 = .int .i64 (j : Int) ∧ Hid (Below B w wr ∧ OwnI wr B (.slice (some ⟨g, 0, none⟩) n c) ((List.range n).map (Sp.rvf n i f))))
  case atStart => exact ⟨0, n - 1, by omega, by omega, rfl, by rw [show ((n - 1 : Nat) : Int) = (n : Int) - 1 by omega], HI0⟩
  case round =>
    clear HI0
    obtain ⟨i, j, hij, hjg, rfl, rfl, HI⟩ := hrel
    by_cases hlt : i < j
    · have hltI : (i : Int) < (j : Int) := by omega
      have hi : i < n := by omega
      have hj : j < n := by omega
      have hiI : (i : Int) < (n : Int) := by omega
      have hjI : (j : Int) < (n : Int) := by omega
      have hcell : ∀ (w' : World) k, Below wr.heap.size wr w' → k < n → w'.cell? ⟨g, k, none⟩ = some (.int .i64 (Sp.rvf n i f k)) := fun w' k hb hk => by
        have h := own_below (unhide HI).2 hb
        have h2 := own_cell h k (by simp; exact hk)
        rw [h2]; simp
      obtain ⟨vi, hvi⟩ : ∃ vi, Sp.rvf n i f i = vi := ⟨_, rfl⟩
      obtain ⟨vj, hvj⟩ : ∃ vj, Sp.rvf n i f j = vj := ⟨_, rfl⟩
      have HS : Hid (∀ w', Below wr.heap.size wr w' → w'.cell? ⟨g, i, none⟩ = some (.int .i64 vi) ∧ w'.cell? ⟨g, j, none⟩ = some (.int .i64 vj)) := hide fun w' hb => ⟨by rw [← hvi]; exact hcell w' i hb hi, by rw [← hvj]; exact hcell w' j hb hj⟩
      have HK : Hid (∀ w', Below wr.heap.size wr w' → (∀ k, w'.frozen? ⟨g, k, none⟩ = false) ∧ (∀ v : Value, (w'.setCell ⟨g, i, none⟩ v).cell? ⟨g, j, none⟩ = some (.int .i64 vj)) ∧ Below B w ((w'.setCell ⟨g, i, none⟩ (.int .i64 vj)).setCell ⟨g, j, none⟩ (.int .i64 vi)) ∧ OwnI ((w'.setCell ⟨g, i, none⟩ (.int .i64 vj)).setCell ⟨g, j, none⟩ (.int .i64 vi)) B (.slice (some ⟨g, 0, none⟩) n c) ((List.range n).map (Sp.rvf n (i + 1) f))) := hide fun w' hb => by
        have h := own_below (unhide HI).2 hb
        refine ⟨fun k => own_frozen h k, fun v => by rw [cell_set_ne (by omega), ← hvj]; exact hcell w' j hb hj, ?_, ?_⟩
        · exact (((unhide HI).1.trans (hb.mono (by have := (unhide HI).1.size; omega))).setCell (p := ⟨g, i, none⟩) hgB _).setCell (p := ⟨g, j, none⟩) hgB _
        · have h2 := own_setCell (own_setCell h i vj) j vi
          rw [Sp.map_set, Sp.map_set] at h2
          have e : (List.range n).map (Sp.upd (Sp.upd (Sp.rvf n i f) i vj) j vi) = (List.range n).map (Sp.rvf n (i + 1) f) := List.map_congr_left fun k hk => by
            rw [← hvi, ← hvj]
            exact unhide HRs i j hij hlt k (List.mem_range.1 hk)
          rw [e] at h2
          exact h2
      clear hcell hvi hvj HI
      go_upto_region 3 with fail
      have hbq := (Below.refl wr.heap.size wr).drew
      have q0 := (unhide HS _ hbq).1
      have q1 := (unhide HS _ hbq).2
      have kf := (unhide HK _ hbq).1
      have k1 := (unhide HK _ hbq).2.1
      have HF := hide (unhide HK _ hbq).2.2
      refine wp_region_G (fun w' => w'.cell? ⟨g, j, none⟩ = some (.int .i64 vj)) (fun k => k == 15) (by kernel_rfl) q1 (fun hHeld => ?_)
      generalize wr.drew = wq at *
      refine wpAnyG_take (v := ?_) 0 (by rfl) (by kernel_rfl) (by kernel_rfl) (by kernel_rfl) (by kernel_rfl) (fun _ _ _ h => h) (Or.inl ⟨by rfl, ?_⟩) (by assumption) ?_
      rotate_left
      · (intro w' hSw; (try dsimp only at hSw); (try simp only [List.getElem_toArray, List.getElem_cons_zero]); go_simp; try (with_reducible rfl))
      simp only [Act.put, List.getElem_toArray, List.getElem_cons_zero, List.setIfInBounds_toArray, List.set_cons_zero, List.set_cons_succ]
      refine wpAnyG_take (v := ?_) 1 (by rfl) (by kernel_rfl) (by kernel_rfl) (by kernel_rfl) (by kernel_rfl) (fun _ _ _ h => h) (Or.inl ⟨by rfl, ?_⟩) (by assumption) ?_
      rotate_left
      · (intro w' hSw; (try dsimp only at hSw); (try simp only [List.getElem_toArray, List.getElem_cons_succ, List.getElem_cons_zero]); go_simp; try (with_reducible rfl))
      simp only [Act.put, List.getElem_toArray, List.getElem_cons_succ, List.getElem_cons_zero, List.setIfInBounds_toArray, List.set_cons_zero, List.set_cons_succ]
      refine wpAnyG_take (v := ?_) 2 (by rfl) (by kernel_rfl) (by kernel_rfl) (by kernel_rfl) (by kernel_rfl) (fun _ _ _ h => h) (Or.inl ⟨by rfl, ?_⟩) (by assumption) ?_
      rotate_left
      · (intro w' hSw; (try dsimp only at hSw); (try simp only [List.getElem_toArray, List.getElem_cons_succ, List.getElem_cons_zero]); go_simp; try (with_reducible rfl))
      simp only [Act.put, List.getElem_toArray, List.getElem_cons_succ, List.getElem_cons_zero, List.setIfInBounds_toArray, List.set_cons_zero, List.set_cons_succ]
      refine wpAnyG_take (v := ?_) 3 (by rfl) (by kernel_rfl) (by kernel_rfl) (by kernel_rfl) (by kernel_rfl) (fun _ _ _ h => h) (Or.inl ⟨by rfl, ?_⟩) (by assumption) ?_
      rotate_left
      · (intro w' hSw; (try dsimp only at hSw); (try simp only [List.getElem_toArray, List.getElem_cons_succ, List.getElem_cons_zero]); go_simp; try (with_reducible rfl))
      simp only [Act.put, List.getElem_toArray, List.getElem_cons_succ, List.getElem_cons_zero, List.setIfInBounds_toArray, List.set_cons_zero, List.set_cons_succ]
      refine wpAnyG_take (v := ?_) 4 (by rfl) (by kernel_rfl) (by kernel_rfl) (by kernel_rfl) (by kernel_rfl) (fun _ _ _ h => h) (Or.inl ⟨by rfl, ?_⟩) (by assumption) ?_
      rotate_left
      · (intro w' hSw; (try dsimp only at hSw); (try simp only [List.getElem_toArray, List.getElem_cons_succ, List.getElem_cons_zero]); go_simp; try (with_reducible rfl))
      simp only [Act.put, List.getElem_toArray, List.getElem_cons_succ, List.getElem_cons_zero, List.setIfInBounds_toArray, List.set_cons_zero, List.set_cons_succ]
      refine wpAnyG_take (v := ?_) 5 (by rfl) (by kernel_rfl) (by kernel_rfl) (by kernel_rfl) (by kernel_rfl) (fun _ _ _ h => h) (Or.inl ⟨by rfl, ?_⟩) (by assumption) ?_
      rotate_left
      · (intro w' hSw; (try dsimp only at hSw); (try simp only [List.getElem_toArray, List.getElem_cons_succ, List.getElem_cons_zero]); go_simp; try (with_reducible rfl))
      simp only [Act.put, List.getElem_toArray, List.getElem_cons_succ, List.getElem_cons_zero, List.setIfInBounds_toArray, List.set_cons_zero, List.set_cons_succ]
      refine wpAnyG_take (v := ?_) 6 (by rfl) (by kernel_rfl) (by kernel_rfl) (by kernel_rfl) (by kernel_rfl) (fun _ _ _ h => h) (Or.inl ⟨by rfl, ?_⟩) (by assumption) ?_
      rotate_left
      · (intro w' hSw; (try dsimp only at hSw); (try simp only [List.getElem_toArray, List.getElem_cons_succ, List.getElem_cons_zero]); go_simp; try (with_reducible rfl))
      simp only [Act.put, List.getElem_toArray, List.getElem_cons_succ, List.getElem_cons_zero, List.setIfInBounds_toArray, List.set_cons_zero, List.set_cons_succ]
      refine wpAnyG_take (v := ?_) 7 (by rfl) (by kernel_rfl) (by kernel_rfl) (by kernel_rfl) (by kernel_rfl) (fun _ _ _ h => h) (Or.inl ⟨by rfl, ?_⟩) (by assumption) ?_
      rotate_left
      · (intro w' hSw; (try dsimp only at hSw); (try simp only [List.getElem_toArray, List.getElem_cons_succ, List.getElem_cons_zero]); go_simp; try (with_reducible rfl))
      simp only [Act.put, List.getElem_toArray, List.getElem_cons_succ, List.getElem_cons_zero, List.setIfInBounds_toArray, List.set_cons_zero, List.set_cons_succ]
      refine wpAnyG_take (v := ?_) 8 (by rfl) (by kernel_rfl) (by kernel_rfl) (by kernel_rfl) (by kernel_rfl) (fun _ _ _ h => h) (Or.inl ⟨by rfl, ?_⟩) (by assumption) ?_
      rotate_left
      · (intro w' hSw; (try dsimp only at hSw); (try simp only [List.getElem_toArray, List.getElem_cons_succ, List.getElem_cons_zero]); go_simp; try (with_reducible rfl))
      simp only [Act.put, List.getElem_toArray, List.getElem_cons_succ, List.getElem_cons_zero, List.setIfInBounds_toArray, List.set_cons_zero, List.set_cons_succ]
      refine wpAnyG_take (v := ?_) 9 (by rfl) (by kernel_rfl) (by kernel_rfl) (by kernel_rfl) (by kernel_rfl) (fun _ _ _ h => h) (Or.inl ⟨by rfl, ?_⟩) (by assumption) ?_
      rotate_left
      · (intro w' hSw; (try dsimp only at hSw); (try simp only [List.getElem_toArray, List.getElem_cons_succ, List.getElem_cons_zero]); go_simp; try (with_reducible rfl))
      simp only [Act.put, List.getElem_toArray, List.getElem_cons_succ, List.getElem_cons_zero, List.setIfInBounds_toArray, List.set_cons_zero, List.set_cons_succ]
      refine wpAnyG_take (v := ?_) 10 (by rfl) (by kernel_rfl) (by kernel_rfl) (by kernel_rfl) (by kernel_rfl) (fun _ _ _ h => h) (Or.inl ⟨by rfl, ?_⟩) (by assumption) ?_
      rotate_left
      · (intro w' hSw; (try dsimp only at hSw); (try simp only [List.getElem_toArray, List.getElem_cons_succ, List.getElem_cons_zero]); go_simp; try (with_reducible rfl))
      simp only [Act.put, List.getElem_toArray, List.getElem_cons_succ, List.getElem_cons_zero, List.setIfInBounds_toArray, List.set_cons_zero, List.set_cons_succ]
      refine wpAnyG_ready [11] (by kernel_rfl) (by simp) ?_
      refine AllReadyG.cons 11 (by rfl) (fun K hK => ?_) ?_
      · simp only [List.getElem_toArray, List.getElem_cons_succ, List.getElem_cons_zero]
        go_simp
        refine hK.out _ _ q1 (fun _ => ?_)
        clear hK K
        try simp only [Act.put, List.setIfInBounds_toArray, List.set_cons_zero, List.set_cons_succ]
        refine wpAnyG_ready [12] (by kernel_rfl) (by simp) ?_
        refine AllReadyG.cons 12 (by rfl) (fun K hK => ?_) ?_
        · simp only [List.getElem_toArray, List.getElem_cons_succ, List.getElem_cons_zero]
          go_simp
          refine hK.out _ _ q1 (fun _ => ?_)
          clear hK K
          try simp only [Act.put, List.setIfInBounds_toArray, List.set_cons_zero, List.set_cons_succ]
          refine wpAnyG_ready [13] (by kernel_rfl) (by simp) ?_
          refine AllReadyG.cons 13 (by rfl) (fun K hK => ?_) ?_
          · simp only [List.getElem_toArray, List.getElem_cons_succ, List.getElem_cons_zero]
            go_simp
            refine hK.out _ _ (k1 _) (fun _ => ?_)
            clear hK K
            try simp only [Act.put, List.setIfInBounds_toArray, List.set_cons_zero, List.set_cons_succ]
            refine wpAnyG_ready [14] (by kernel_rfl) (by simp) ?_
            refine AllReadyG.cons 14 (by rfl) (fun K hK => ?_) ?_
            · simp only [List.getElem_toArray, List.getElem_cons_succ, List.getElem_cons_zero]
              go_simp
              refine hK.out _ _ (k1 _) (fun _ => ?_)
              clear hK K
              try simp only [Act.put, List.setIfInBounds_toArray, List.set_cons_zero, List.set_cons_succ]
              refine wpAnyG_ready [15] (by kernel_rfl) (by simp) ?_
              refine AllReadyG.last 15 (by rfl) (by kernel_rfl) (fun K hK => ?_) ?_
              · simp only [List.getElem_toArray, List.getElem_cons_succ, List.getElem_cons_zero]
                go_simp
                refine hK.out _ _ ?_
                clear hK K
                try simp only [Act.put, List.setIfInBounds_toArray, List.set_cons_zero, List.set_cons_succ]
                refine wpAnyG_done (by kernel_rfl) ?_ _
                refine NoPanic.normal ?_
                go_wp2
                go_roundg (j - 1 - (i + 1))
                case rel => exact ⟨i + 1, j - 1, by omega, by omega, by go_num, by rw [show ((j - 1 : Nat) : Int) = (j : Int) - 1 by omega], HF⟩
                case measure => omega
              exact AllReadyG.nil
            exact AllReadyG.nil
          exact AllReadyG.nil
        exact AllReadyG.nil
      exact AllReadyG.nil
    · have hltI : ¬ (i : Int) < (j : Int) := by omega
      have HF : Hid (OwnI wr B (.slice (some ⟨g, 0, none⟩) n c) ((List.range n).map fun i => f (n - 1 - i))) := hide (by
        have e : (List.range n).map (Sp.rvf n i f) = (List.range n).map fun i => f (n - 1 - i) := List.map_congr_left fun k hk => by
          have := List.mem_range.1 hk
          unfold Sp.rvf
          by_cases h : k < i ∨ n ≤ k + i
          · rw [if_pos h]
          · rw [if_neg h]
            rw [show n - 1 - k = k by omega]
        rw [← e]; exact (unhide HI).2)
      go_wp2
      go_end0
      rw [unhide HP]
      exact ⟨rfl, (unhide HI).1, unhide HF⟩
end Go.Proofs.Ytggjpglakocilab


