/- What the proof needs, part 8. -/
import Derived.Test.YtlmlibhkloingabL7
/- Package path: Right. The reference's Ints, from. -/
namespace Go.Proofs.Ytlmlibhkloingab
open Go Go.RowKit

set_option maxRecDepth 100000 in
set_option maxHeartbeats 2000000 in
theorem right_yes (N : Nat) (L : List Sp.Arc) (s : Nat) (l : List Int) (lv dv : Value) (w : World) (hl : ArcsI w lv L) (hd : Ints w dv l) (hd2 : l.length ≤ 1000) (hS : Sp.Snd N L) (hs : s < N) (hN : N ≤ 60) (hex : ∃ D, Sp.Short 1152921504606846976 L s N D ∧ ∀ v, D v ≠ 1152921504606846976 → D v < 1152921504606846976) :
    Calls Try.prog 12 #[.int .i64 (N : Int), lv, .int .i64 (s : Int), dv] w fun e w' => Below w.heap.size w w' ∧ ∃ D b, e = .returned (.bool b) ∧ Sp.Short 1152921504606846976 L s N D ∧ b = decide (l = (List.range N).map D) := by
  have HC1 := hide (any_yes N L s lv w hl hS hs hN hex)
  have HD : Hid (∀ w' G (D : Nat → Int), Below w.heap.size w w' → RowAt w' G N D → Calls Try.prog 20 #[dv, .slice (some ⟨G, 0, none⟩) N N] w' fun e w'' => e = .returned (.bool (decide (l = (List.range N).map D))) ∧ Below w'.heap.size w' w'') := hide fun w' G D hb hr => equal_any6 l _ dv _ w' (hd.below hb) (hr.ints (by omega)) hd2
  obtain ⟨la, lc, rfl, -⟩ := hl.form
  obtain ⟨da, dc, rfl, -⟩ := hd.form
  obtain ⟨P, hP⟩ : ∃ P : Ending → World → Prop, P = fun e w' => Below w.heap.size w w' ∧ ∃ D b, e = .returned (.bool b) ∧ Sp.Short 1152921504606846976 L s N D ∧ b = decide (l = (List.range N).map D) := ⟨_, rfl⟩
  rw [← hP]
  have HP := hide hP
  clear hP hl hd hS hex
  go_enter Try.func12, Try.ntmps12
  go_wp2_with fail
  go_at_call 10
  refine (unhide HC1).mono ?_
  rintro e w2 ⟨G, D, rfl, hG, hr2, hb2, hD⟩
  have HDd := unhide HD w2 G D hb2 hr2
  have hRR : ∃ R, decide (l = (List.range N).map D) = R := ⟨_, rfl⟩
  obtain ⟨R, hR⟩ := hRR
  rw [hR] at HDd
  have HQ := hide (And.intro hb2 (And.intro hD hR))
  have HDe := hide HDd
  clear hr2 hb2 hD hR HD HDd HC1
  go_wp2_with fail
  go_at_call 20
  refine (unhide HDe).mono ?_
  rintro e w3 ⟨rfl, hb3⟩
  have HB3 := hide ((unhide HQ).1.trans (hb3.mono (unhide HQ).1.size))
  clear hb3 HDe
  go_wp2
  rw [unhide HP]
  exact ⟨unhide HB3, D, R, rfl, (unhide HQ).2.1, (unhide HQ).2.2.symm⟩
set_option maxRecDepth 100000 in
set_option maxHeartbeats 2000000 in
theorem ints6_any (l m : List Int) (u v : Value) (w : World) (hu : Ints w u l) (hv : Ints w v m) (hl : l.length ≤ 1000) :
    Calls Try.prog 11 #[u, v] w fun e w' => e = .returned (.bool (decide (l = m))) ∧ Below w.heap.size w w' := by
  obtain ⟨ua, uc, rfl, -, -, HU⟩ := hu.allA
  obtain ⟨va, vc, rfl, -, -, HV⟩ := hv.allA
  clear hu hv
  by_cases hn : l.length = m.length
  · have hneb : ((l.length : Int) != (m.length : Int)) = false := by simp [hn]
    obtain ⟨R, hR⟩ : ∃ R, decide (l = m) = R := ⟨_, rfl⟩
    rw [hR]
    have HR := hide hR
    have HE : Hid ((∀ j, j < l.length → l.getD j 0 = m.getD j 0) → R = true) := hide fun h => by
      rw [← hR, decide_eq_true_eq]
      exact List.ext_getElem hn fun j h1 h2 => by
        have := h j h1
        rwa [List.getD_eq_getElem?_getD, List.getD_eq_getElem?_getD, List.getElem?_eq_getElem h1, List.getElem?_eq_getElem h2] at this
    have HNe : Hid (∀ j, l.getD j 0 ≠ m.getD j 0 → R = false) := hide fun j h => by
      rw [← hR, decide_eq_false_iff_not]; exact fun e => h (by rw [e])
    obtain ⟨P, hP⟩ : ∃ P : Ending → World → Prop, P = fun e w' => e = .returned (.bool R) ∧ Below w.heap.size w w' := ⟨_, rfl⟩
    rw [← hP]
    have HP := hide hP
    rw [← hn]
    clear hP hR HR
    have HNn := hide hn
    clear hn
    go_enter Try.func11, Try.ntmps11
    go_wp2
    go_loopg [5] l.length (fun g s5 wr => ∃ i : Nat, i + g = l.length ∧ s5 = .int .i64 (i : Int) ∧ Hid (∀ j, j < i → l.getD j 0 = m.getD j 0) ∧ Hid (Below w.heap.size w wr))
    case atStart => exact ⟨0, by omega, rfl, hide fun j hj => by omega, hide (Below.refl _ _)⟩
    case round =>
      obtain ⟨i, hig, rfl, HJ, HB⟩ := hrel
      cases gk with
      | zero =>
        obtain rfl : i = l.length := by omega
        have hRt := unhide HE (unhide HJ)
        go_wp2
        rw [unhide HP, hRt]
        exact ⟨rfl, unhide HB⟩
      | succ g' =>
        have hi : i < l.length := by omega
        have hiI : (i : Int) < (l.length : Int) := by omega
        obtain ⟨b, o, rfl, -, hc⟩ := unhide HU i hi
        obtain ⟨b', o', rfl, -, hc'⟩ := unhide HV i (by rw [← unhide HNn]; exact hi)
        have c1 := hc wr (unhide HB)
        have c2 := hc' wr (unhide HB)
        have HB2 : Hid (∀ nq, Below w.heap.size w (wr.drewN nq)) := hide fun nq => below_dn (unhide HB) nq
        by_cases he : l.getD i 0 = m.getD i 0
        · have HJ2 : Hid (∀ j, j < i + 1 → l.getD j 0 = m.getD j 0) := hide fun j hj => by
            by_cases e : j = i
            · rw [e]; exact he
            · exact unhide HJ j (by omega)
          rw [← he] at c2
          have hb : ((l.getD i 0) != (l.getD i 0)) = false := by simp
          generalize l.getD i 0 = z at *
          clear hc hc' he HJ HB
          go_wp2_with fail
          go_quiet (fail)
          go_wp2
          go_roundg g'
          case rel => exact ⟨i + 1, by omega, by go_num, HJ2, hide (unhide HB2 _)⟩
          case measure => omega
        · have hRf := unhide HNe i he
          have hb : ((l.getD i 0) != (m.getD i 0)) = true := bne_iff_ne.2 he
          generalize l.getD i 0 = z at *
          generalize m.getD i 0 = z' at *
          clear hc hc' he HJ HB
          go_wp2_with fail
          go_quiet (fail)
          go_wp2
          rw [unhide HP, hRf]
          exact ⟨rfl, unhide HB2 _⟩
  · have hneb : ((l.length : Int) != (m.length : Int)) = true := bne_iff_ne.2 (by omega)
    have HR := hide (show decide (l = m) = false from decide_eq_false (fun e => hn (by rw [e])))
    generalize decide (l = m) = R at *
    go_enter Try.func11, Try.ntmps11
    go_wp2
    go_ret
    exact ⟨by rw [unhide HR]; rfl, Below.refl _ _⟩
end Go.Proofs.Ytlmlibhkloingab


/- The reference's From, Any; within, Arcs of watershedlaw6. -/
namespace Go.Proofs.Ytlmlibhkloingab
open Go Go.RowKit

set_option maxRecDepth 100000 in
set_option maxHeartbeats 1000000 in
theorem within6_any (a n : Int) (w : World) (hn : 0 < n) (hn1 : n ≤ 4611686018427387904) :
    Calls Try.prog 8 #[.int .i64 a, .int .i64 n] w fun e w' => e = .returned (.int .i64 (a % n)) ∧ w' = w := by
  have h0 : 0 ≤ a % n := Int.emod_nonneg a (by omega)
  have h1 : a % n < n := Int.emod_lt_of_pos a hn
  rcases tmod_casesH a n hn with ⟨ha, hb⟩ | ⟨ha, hb⟩
  · have hc : -n ≤ a.tmod n := by omega
    have Hb := hide hb; clear hb h0 h1
    go_enter Try.func8, Try.ntmps8
    go_wp2
    go_ret
    exact ⟨ret_intH (unhide Hb), rfl⟩
  · have Hb := hide hb; clear hb h0 h1
    go_enter Try.func8, Try.ntmps8
    go_wp2
    go_ret
    exact ⟨ret_intH (unhide Hb), rfl⟩
end Go.Proofs.Ytlmlibhkloingab


/- Known arcs: their ways. -/
namespace Go.Proofs.Ytlmlibhkloingab
open Go Go.RowKit

theorem Sp.ps_ok {far : Int} {L : List Sp.Arc} {s n : Nat} (k : Nat) (hf : 0 < far) (hs : s < n) (hL : ∀ a ∈ L, a.f < n) (hc : ∀ a ∈ L, Sp.ps far L (Sp.d0 far s) k a.f ≠ far → ¬ (Sp.ps far L (Sp.d0 far s) k a.f + a.l < Sp.ps far L (Sp.d0 far s) k a.t) ∧ Sp.ps far L (Sp.d0 far s) k a.f + a.l < far) : Sp.Short far L s n (Sp.ps far L (Sp.d0 far s) k) :=
  Sp.short_still hs (Sp.Att.ps hf hL (Sp.att0 hf) k) (fun a ha hne => (hc a ha hne).1) (fun a ha hne => (hc a ha hne).2)
/-- A step of the way: the first arc that may go on. -/
theorem Sp.WayIs.step {L : List Sp.Arc} {y : Nat → Int} {t v : Nat} {W : List Nat} (h : Sp.WayIs L y t v W) (hv : v ≠ t) {i : Nat} (hi : Sp.tt L y v i = true) (hk : ∀ k, k < i → Sp.tt L y v k = false) : ∃ r, W = i :: r ∧ Sp.WayIs L y t (L.getD i Sp.arc0).t r := by
  cases W with
  | nil => exact absurd h hv
  | cons j r =>
    obtain ⟨-, h2, h3, h4, h5⟩ := h
    have e : j = i := by
      rcases Nat.lt_trichotomy j i with e | e | e
      · rw [hk j e] at h3; cases h3
      · exact e
      · rw [h4 i e] at hi; cases hi
    subst e
    exact ⟨r, rfl, h5⟩
theorem Sp.WayIs.end_ {L : List Sp.Arc} {y : Nat → Int} {t : Nat} {W : List Nat} (h : Sp.WayIs L y t t W) : W = [] := by
  cases W with
  | nil => rfl
  | cons j r => exact absurd rfl h.1
def Sp.L0 : List Sp.Arc := [⟨0, 1, 5⟩, ⟨1, 2, 2⟩, ⟨0, 2, 9⟩]
theorem Sp.L0_short : Sp.Short 1152921504606846976 Sp.L0 0 3 (Sp.ps 1152921504606846976 Sp.L0 (Sp.d0 1152921504606846976 0) 3) := Sp.ps_ok 3 (by decide) (by decide) (by decide) (by decide +kernel)
theorem Sp.L0_row {D : Nat → Int} (h : Sp.Short 1152921504606846976 Sp.L0 0 3 D) : D 0 = 0 ∧ D 1 = 5 ∧ D 2 = 7 := by
  refine ⟨?_, ?_, ?_⟩ <;> (rw [h.uniq Sp.L0_short (by decide) (by decide)]; decide +kernel)
theorem Sp.L0_snd : Sp.Snd 3 Sp.L0 := ⟨by decide, by decide⟩
theorem Sp.L0_tow {y : Nat → Int} (h : Sp.Tow Sp.L0 2 3 y) : (y 0 = 7 ∧ y 1 = 2) ∧ (y 2 = 2 ∧ y 3 = 1) ∧ y 4 = 0 ∧ y 5 = 0 := by
  have hs : Sp.Short 345876451382054092800 (Sp.pairL 300 (Sp.L0.map Sp.sw)) 2 3 (Sp.ps 345876451382054092800 (Sp.pairL 300 (Sp.L0.map Sp.sw)) (Sp.d0 345876451382054092800 2) 3) := Sp.ps_ok 3 (by decide) (by decide) (by decide) (by decide +kernel)
  have e0 : Sp.rk y 0 = 2102 := by rw [h.sh.uniq hs (by decide) (by decide)]; decide +kernel
  have e1 : Sp.rk y 1 = 601 := by rw [h.sh.uniq hs (by decide) (by decide)]; decide +kernel
  have e2 : Sp.rk y 2 = 0 := by rw [h.sh.uniq hs (by decide) (by decide)]; decide +kernel
  have b0 := h.bd 0 (by decide)
  have b1 := h.bd 1 (by decide)
  have b2 := h.bd 2 (by decide)
  unfold Sp.rk at e0 e1 e2
  simp only [Nat.zero_mul, Nat.zero_add, Nat.one_mul, Nat.reduceMul, Nat.reduceAdd] at e0 e1 e2 b0 b1 b2
  exact ⟨by rcases b0 with b | b <;> omega, by rcases b1 with b | b <;> omega, by rcases b2 with b | b <;> omega⟩
theorem Sp.L0_way {y : Nat → Int} {W : List Nat} (h : Sp.Tow Sp.L0 2 3 y) (hw : Sp.WayIs Sp.L0 y 2 0 W) : W = [0, 1] := by
  obtain ⟨⟨a0, a1⟩, ⟨a2, a3⟩, a4, a5⟩ := Sp.L0_tow h
  obtain ⟨r, rfl, hw1⟩ := hw.step (by decide) (i := 0) (by unfold Sp.tt; simp [Sp.L0, a0, a1, a2, a3]) (fun k hk => by omega)
  obtain ⟨r2, rfl, hw2⟩ := Sp.WayIs.step hw1 (by decide) (i := 1) (by unfold Sp.tt; simp [Sp.L0, a2, a3, a4, a5]) (fun k hk => by
    obtain rfl : k = 0 := by omega
    unfold Sp.tt; simp [Sp.L0])
  have := Sp.WayIs.end_ hw2
  subst this
  rfl
theorem Sp.nil_row {D : Nat → Int} (h : Sp.Short 1152921504606846976 [] 0 1 D) : D 0 = 0 := h.src
end Go.Proofs.Ytlmlibhkloingab


/- watershedlaw6: known. -/
namespace Go.Proofs.Ytlmlibhkloingab
open Go Go.RowKit

theorem L0_is (w : World) : ArcsI (w.alloc (.cells #[.int .i64 0, .int .i64 1, .int .i64 5, .int .i64 1, .int .i64 2, .int .i64 2, .int .i64 0, .int .i64 2, .int .i64 9] 28)) (.slice (some ⟨w.heap.size, 0, none⟩) 3 3) Sp.L0 :=
  OwnA.arcs (own_litA w 0 _ 3 Sp.L0 _ rfl rfl rfl (Nat.zero_le _) (by decide))
theorem Ints.cellA {w : World} {b o n c : Nat} {l : List Int} (h : Ints w (.slice (some ⟨b, o, none⟩) n c) l) (k : Nat) (hk : k < l.length) : w.cell? ⟨b, o + k, none⟩ = some (.int .i64 (l.getD k 0)) := by
  obtain ⟨a, c', e, -, -, H⟩ := h.allA
  obtain ⟨b', o', e2, -, h2⟩ := unhide H k hk
  injection e with e1 _ _
  rw [e2] at e1
  injection e1 with e1
  injection e1 with q1 q2
  subst q1 q2
  exact h2 w (Below.refl _ _)
theorem row3 (D : Nat → Int) {a b c : Int} (h0 : D 0 = a) (h1 : D 1 = b) (h2 : D 2 = c) : (List.range 3).map D = [a, b, c] := by
  show [D 0, D 1, D 2] = _
  rw [h0, h1, h2]
theorem known6_From (lv : Value) (w : World) (hl : ArcsI w lv Sp.L0) : Calls Try.prog 14 #[.int .i64 3, lv, .int .i64 0] w fun e w' => ∃ G, e = .returned (.slice (some ⟨G, 0, none⟩) 3 3) ∧ Ints w' (.slice (some ⟨G, 0, none⟩) 3 3) [0, 5, 7] ∧ Below w.heap.size w w' := by
  have h := from_any 3 Sp.L0 0 lv w hl Sp.L0_snd (by decide) (by decide) (by decide)
  refine h.mono ?_
  rintro e w' ⟨G, D, rfl, -, hr, hb, hD, -⟩
  obtain ⟨d0, d1, d2⟩ := Sp.L0_row hD
  have hi := hr.ints (by decide)
  rw [row3 D d0 d1 d2] at hi
  exact ⟨G, rfl, hi, hb⟩
theorem L0_ex : ∃ D, Sp.Short 1152921504606846976 Sp.L0 0 3 D ∧ ∀ v, D v ≠ 1152921504606846976 → D v < 1152921504606846976 :=
  Sp.Short.ex (by decide) (by decide) Sp.L0_short (by
    intro v hv _
    rcases (show v = 0 ∨ v = 1 ∨ v = 2 by omega) with rfl | rfl | rfl <;> decide +kernel)
theorem known6_Any (lv : Value) (w : World) (hl : ArcsI w lv Sp.L0) : Calls Try.prog 10 #[.int .i64 3, lv, .int .i64 0] w fun e w' => ∃ G, e = .returned (.tuple #[.slice (some ⟨G, 0, none⟩) 3 3, .slice none 0 0, .bool true]) ∧ Ints w' (.slice (some ⟨G, 0, none⟩) 3 3) [0, 5, 7] ∧ Below w.heap.size w w' := by
  have h := any_yes 3 Sp.L0 0 lv w hl Sp.L0_snd (by decide) (by decide) L0_ex
  refine h.mono ?_
  rintro e w' ⟨G, D, rfl, -, hr, hb, hD⟩
  obtain ⟨d0, d1, d2⟩ := Sp.L0_row hD
  have hi := hr.ints (by decide)
  rw [row3 D d0 d1 d2] at hi
  exact ⟨G, rfl, hi, hb⟩
theorem known6_Right (lv dv : Value) (w : World) (hl : ArcsI w lv Sp.L0) (hd : Ints w dv [0, 5, 7]) : Calls Try.prog 12 #[.int .i64 3, lv, .int .i64 0, dv] w fun e w' => e = .returned (.bool true) ∧ Below w.heap.size w w' := by
  have h := right_yes 3 Sp.L0 0 [0, 5, 7] lv dv w hl hd (by decide) Sp.L0_snd (by decide) (by decide) L0_ex
  refine h.mono ?_
  rintro e w' ⟨hb, D, b, rfl, hD, rfl⟩
  obtain ⟨d0, d1, d2⟩ := Sp.L0_row hD
  rw [row3 D d0 d1 d2]
  exact ⟨rfl, hb⟩
theorem known6_Way (lv : Value) (w : World) (hl : ArcsI w lv Sp.L0) : Calls Try.prog 13 #[.int .i64 3, lv, .int .i64 0, .int .i64 2] w fun e w' => ∃ rv, e = .returned (.tuple #[rv, .bool true]) ∧ Ints w' rv [0, 1] ∧ Below w.heap.size w w' := by
  have h := way_any6 3 Sp.L0 0 2 lv w hl Sp.L0_snd (by decide) (by decide) (by decide) (by decide)
  refine h.mono ?_
  rintro e w' ⟨hb, y, hT, ⟨hf, rfl⟩ | ⟨-, rv, W, rfl, ho, -, hw⟩⟩
  · have := (Sp.L0_tow hT).1.1
    rw [show (0 * 2 : Nat) = 0 from rfl, this] at hf
    cases hf
  · have := Sp.L0_way hT hw
    subst this
    exact ⟨rv, rfl, OwnI.ints ho, hb⟩
theorem known6_One (w : World) : Calls Try.prog 14 #[.int .i64 1, .slice none 0 0, .int .i64 0] w fun e w' => ∃ G, e = .returned (.slice (some ⟨G, 0, none⟩) 1 1) ∧ Ints w' (.slice (some ⟨G, 0, none⟩) 1 1) [0] ∧ Below w.heap.size w w' := by
  have h := from_any 1 [] 0 (.slice none 0 0) w (OwnA.nil w 0).arcs ⟨by decide, fun a ha => by cases ha⟩ (fun a ha => by cases ha) (by decide) (by decide)
  refine h.mono ?_
  rintro e w' ⟨G, D, rfl, -, hr, hb, hD, -⟩
  have hi := hr.ints (by decide)
  have e1 : (List.range 1).map D = [0] := by show [D 0] = _; rw [Sp.nil_row hD]
  rw [e1] at hi
  exact ⟨G, rfl, hi, hb⟩
set_option maxRecDepth 100000 in
set_option maxHeartbeats 4000000 in
theorem known6_any (w : World) : Calls Try.prog 7 #[] w fun e w' => e = .returned (.bool true) ∧ Below w.heap.size w w' := by
  obtain ⟨W1, hW1⟩ : ∃ W1, W1 = w.alloc (.cells #[.int .i64 0, .int .i64 1, .int .i64 5, .int .i64 1, .int .i64 2, .int .i64 2, .int .i64 0, .int .i64 2, .int .i64 9] 28) := ⟨_, rfl⟩
  have hl := L0_is w
  rw [← hW1] at hl
  have hb1 : Below w.heap.size w W1 := by rw [hW1]; exact (Below.refl _ w).alloc (Nat.le_refl _) _
  have HL := hide (fun w' (hb : Below W1.heap.size W1 w') => hl.below hb)
  have HF := hide (known6_From _ W1 hl)
  have HB1 := hide (fun w' (hb : Below W1.heap.size W1 w') => hb1.trans (hb.mono hb1.size))
  clear hl hb1
  subst hW1
  go_enter Try.func7, Try.ntmps7
  go_wp2_with fail
  go_at_call 14
  generalize w.alloc (.cells #[.int .i64 0, .int .i64 1, .int .i64 5, .int .i64 1, .int .i64 2, .int .i64 2, .int .i64 0, .int .i64 2, .int .i64 9] 28) = W1 at *
  refine (unhide HF).mono ?_
  rintro e w2 ⟨G, rfl, hd2, hb2⟩
  have HW := hide (known6_Way _ w2 (unhide HL _ hb2))
  have H2 := hide (And.intro hb2 hd2)
  clear hd2 hb2 HF
  go_wp2_with fail
  go_at_call 13
  refine (unhide HW).mono ?_
  rintro e w3 ⟨rv, rfl, hr3, hb3⟩
  have H3 := hide (And.intro ((unhide H2).1.trans (hb3.mono (unhide H2).1.size)) (And.intro ((unhide H2).2.below hb3) hr3))
  obtain ⟨ra, rc, rfl, -⟩ := hr3.form
  have HA := hide (known6_Any _ w3 (unhide HL _ (unhide H3).1))
  clear hr3 hb3 H2 HW
  go_wp2_with fail
  go_at_call 10
  refine (unhide HA).mono ?_
  rintro e w4 ⟨G4, rfl, he4, hb4⟩
  have H4 := hide (And.intro ((unhide H3).1.trans (hb4.mono (unhide H3).1.size)) (And.intro ((unhide H3).2.1.below hb4) (And.intro ((unhide H3).2.2.below hb4) he4)))
  have HO := hide (known6_One w4)
  clear he4 hb4 H3 HA
  go_wp2_with fail
  go_at_call 14
  refine (unhide HO).mono ?_
  rintro e w5 ⟨G5, rfl, ho5, hb5⟩
  have H5 := hide (And.intro ((unhide H4).1.trans (hb5.mono (unhide H4).1.size)) (And.intro ((unhide H4).2.1.below hb5) (And.intro ((unhide H4).2.2.1.below hb5) ((unhide H4).2.2.2.below hb5))))
  have hd5 := (unhide H5).2.1
  have hr5 := (unhide H5).2.2.1
  have k1 := ho5.cellA 0 (by decide)
  have k2 := hd5.cellA 2 (by decide)
  have k3 : ∃ b o, ra = some ⟨b, o, none⟩ ∧ w5.cell? ⟨b, o + 1, none⟩ = some (.int .i64 1) := by
    obtain ⟨a, c', e, -, -, H⟩ := hr5.allA
    obtain ⟨b', o', e2, -, h2⟩ := unhide H 1 (by decide)
    injection e with e1 _ _
    exact ⟨b', o', by rw [e1, e2], h2 w5 (Below.refl _ _)⟩
  obtain ⟨b3, o3, rfl, k3⟩ := k3
  have k1' : w5.cell? ⟨G5, 0, none⟩ = some (.int .i64 0) := k1
  have k2' : w5.cell? ⟨G, 2, none⟩ = some (.int .i64 7) := k2
  have hI0 : Calls Try.prog 11 #[.slice (some ⟨G, 0, none⟩) 3 3, .slice (some ⟨G4, 0, none⟩) 3 3] w5 fun e w' => e = .returned (.bool true) ∧ Below w5.heap.size w5 w' := by
    refine (ints6_any [0, 5, 7] [0, 5, 7] _ _ w5 (unhide H5).2.1 (unhide H5).2.2.2 (by decide)).mono ?_
    rintro e w' ⟨rfl, hb⟩
    exact ⟨by simp, hb⟩
  have HI := hide hI0
  clear hI0
  have HRt := hide (fun w' (hb : Below w5.heap.size w5 w') => known6_Right _ _ w' (unhide HL _ ((unhide H5).1.trans (hb.mono (unhide H5).1.size))) ((unhide H5).2.1.below hb))
  have HE := hide (fun w' (hb : Below w5.heap.size w5 w') => unhide HB1 _ ((unhide H5).1.trans (hb.mono (unhide H5).1.size)))
  clear hd5 hr5 k1 k2 ho5 hb5 HO H4 H5 HL HB1
  go_wp2_with fail
  go_at_call 11
  refine (unhide HI).mono ?_
  rintro e w6 ⟨rfl, hb6⟩
  have HR6 := hide (unhide HRt _ hb6)
  have HB6 := hide hb6
  clear hb6 HRt HI
  go_wp2_with fail
  go_at_call 12
  refine (unhide HR6).mono ?_
  rintro e w7 ⟨rfl, hb7⟩
  have HB7 := hide (unhide HE _ ((unhide HB6).trans (hb7.mono (unhide HB6).size)))
  clear hb7 HR6 HE
  go_wp2
  go_ret
  exact ⟨by rfl, unhide HB7⟩
end Go.Proofs.Ytlmlibhkloingab


/- The law PathFew: what its six nets' ways are. -/
namespace Go.Proofs.Ytlmlibhkloingab
open Go Go.RowKit

def Sp.fw0 : List Sp.Arc := [⟨0, 1, 0⟩, ⟨1, 2, 0⟩, ⟨0, 2, 0⟩]
theorem Sp.fw0_snd : Sp.Snd 3 Sp.fw0 := ⟨by decide, by decide⟩
theorem Sp.fw0_pos : ∀ a ∈ Sp.fw0, 0 ≤ a.l := by decide
theorem Sp.fw0_way {y : Nat → Int} (h : Sp.Tow Sp.fw0 2 3 y) : y (0 * 2) ≠ 1152921504606846976 ∧ ∀ W, Sp.WayIs Sp.fw0 y 2 0 W → W = [2] := by
  have hs : Sp.Short 345876451382054092800 (Sp.pairL 300 (Sp.fw0.map Sp.sw)) 2 3 (Sp.ps 345876451382054092800 (Sp.pairL 300 (Sp.fw0.map Sp.sw)) (Sp.d0 345876451382054092800 2) 3) := Sp.ps_ok 3 (by decide) (by decide) (by decide) (by decide +kernel)
  have e0 : Sp.rk y 0 = 1 := by rw [h.sh.uniq hs (by decide) (by decide)]; decide +kernel
  have b0 := h.bd 0 (by decide)
  have e1 : Sp.rk y 1 = 1 := by rw [h.sh.uniq hs (by decide) (by decide)]; decide +kernel
  have b1 := h.bd 1 (by decide)
  have e2 : Sp.rk y 2 = 0 := by rw [h.sh.uniq hs (by decide) (by decide)]; decide +kernel
  have b2 := h.bd 2 (by decide)
  unfold Sp.rk at e0 e1 e2
  simp only [Nat.zero_mul, Nat.zero_add, Nat.one_mul, Nat.reduceMul, Nat.reduceAdd] at e0 e1 e2 b0 b1 b2
  have y0 : y 0 = 0 ∧ y 1 = 1 := by rcases b0 with b | b <;> omega
  have y1 : y 2 = 0 ∧ y 3 = 1 := by rcases b1 with b | b <;> omega
  have y2 : y 4 = 0 ∧ y 5 = 0 := by rcases b2 with b | b <;> omega
  obtain ⟨a0, a1⟩ := y0
  obtain ⟨a2, a3⟩ := y1
  obtain ⟨a4, a5⟩ := y2
  refine ⟨by rw [Nat.zero_mul, a0]; decide, fun W hw => ?_⟩
  obtain ⟨r0, rfl, hw0⟩ := Sp.WayIs.step hw (by decide) (i := 2) (Sp.tt_iff.2 ⟨rfl, (by show y 4 + 0 = y 0; omega), (by show y 5 + 1 = y 1; omega)⟩) (fun k hk => by
    rcases (show k = 0 ∨ k = 1 by omega) with rfl | rfl
    · exact Bool.eq_false_iff.2 (fun h => by
        have h2 : y 2 + 0 = y 0 := (Sp.tt_iff.1 h).2.1
        have h3 : y 3 + 1 = y 1 := (Sp.tt_iff.1 h).2.2
        omega)
    · exact Bool.eq_false_iff.2 (fun h => absurd (Sp.tt_iff.1 h).1 (by decide))
    )
  have := Sp.WayIs.end_ hw0
  subst this
  rfl
theorem Sp.fw0_no {y : Nat → Int} (h : Sp.Tow Sp.fw0 0 3 y) : y (2 * 2) = 1152921504606846976 := by
  have hs : Sp.Short 345876451382054092800 (Sp.pairL 300 (Sp.fw0.map Sp.sw)) 0 3 (Sp.ps 345876451382054092800 (Sp.pairL 300 (Sp.fw0.map Sp.sw)) (Sp.d0 345876451382054092800 0) 3) := Sp.ps_ok 3 (by decide) (by decide) (by decide) (by decide +kernel)
  refine (h.bd.far (by decide) (by decide)).1 ?_
  rw [h.sh.uniq hs (by decide) (by decide)]; decide +kernel
def Sp.fw1 : List Sp.Arc := [⟨0, 2, 2⟩, ⟨0, 1, 1⟩, ⟨1, 2, 1⟩]
theorem Sp.fw1_snd : Sp.Snd 3 Sp.fw1 := ⟨by decide, by decide⟩
theorem Sp.fw1_pos : ∀ a ∈ Sp.fw1, 0 ≤ a.l := by decide
theorem Sp.fw1_way {y : Nat → Int} (h : Sp.Tow Sp.fw1 2 3 y) : y (0 * 2) ≠ 1152921504606846976 ∧ ∀ W, Sp.WayIs Sp.fw1 y 2 0 W → W = [0] := by
  have hs : Sp.Short 345876451382054092800 (Sp.pairL 300 (Sp.fw1.map Sp.sw)) 2 3 (Sp.ps 345876451382054092800 (Sp.pairL 300 (Sp.fw1.map Sp.sw)) (Sp.d0 345876451382054092800 2) 3) := Sp.ps_ok 3 (by decide) (by decide) (by decide) (by decide +kernel)
  have e0 : Sp.rk y 0 = 601 := by rw [h.sh.uniq hs (by decide) (by decide)]; decide +kernel
  have b0 := h.bd 0 (by decide)
  have e1 : Sp.rk y 1 = 301 := by rw [h.sh.uniq hs (by decide) (by decide)]; decide +kernel
  have b1 := h.bd 1 (by decide)
  have e2 : Sp.rk y 2 = 0 := by rw [h.sh.uniq hs (by decide) (by decide)]; decide +kernel
  have b2 := h.bd 2 (by decide)
  unfold Sp.rk at e0 e1 e2
  simp only [Nat.zero_mul, Nat.zero_add, Nat.one_mul, Nat.reduceMul, Nat.reduceAdd] at e0 e1 e2 b0 b1 b2
  have y0 : y 0 = 2 ∧ y 1 = 1 := by rcases b0 with b | b <;> omega
  have y1 : y 2 = 1 ∧ y 3 = 1 := by rcases b1 with b | b <;> omega
  have y2 : y 4 = 0 ∧ y 5 = 0 := by rcases b2 with b | b <;> omega
  obtain ⟨a0, a1⟩ := y0
  obtain ⟨a2, a3⟩ := y1
  obtain ⟨a4, a5⟩ := y2
  refine ⟨by rw [Nat.zero_mul, a0]; decide, fun W hw => ?_⟩
  obtain ⟨r0, rfl, hw0⟩ := Sp.WayIs.step hw (by decide) (i := 0) (Sp.tt_iff.2 ⟨rfl, (by show y 4 + 2 = y 0; omega), (by show y 5 + 1 = y 1; omega)⟩) (fun k hk => by omega)
  have := Sp.WayIs.end_ hw0
  subst this
  rfl
theorem Sp.fw1_no {y : Nat → Int} (h : Sp.Tow Sp.fw1 0 3 y) : y (2 * 2) = 1152921504606846976 := by
  have hs : Sp.Short 345876451382054092800 (Sp.pairL 300 (Sp.fw1.map Sp.sw)) 0 3 (Sp.ps 345876451382054092800 (Sp.pairL 300 (Sp.fw1.map Sp.sw)) (Sp.d0 345876451382054092800 0) 3) := Sp.ps_ok 3 (by decide) (by decide) (by decide) (by decide +kernel)
  refine (h.bd.far (by decide) (by decide)).1 ?_
  rw [h.sh.uniq hs (by decide) (by decide)]; decide +kernel
def Sp.fw2 : List Sp.Arc := [⟨0, 2, 1⟩, ⟨0, 2, 1⟩]
theorem Sp.fw2_snd : Sp.Snd 3 Sp.fw2 := ⟨by decide, by decide⟩
theorem Sp.fw2_pos : ∀ a ∈ Sp.fw2, 0 ≤ a.l := by decide
theorem Sp.fw2_way {y : Nat → Int} (h : Sp.Tow Sp.fw2 2 3 y) : y (0 * 2) ≠ 1152921504606846976 ∧ ∀ W, Sp.WayIs Sp.fw2 y 2 0 W → W = [0] := by
  have hs : Sp.Short 345876451382054092800 (Sp.pairL 300 (Sp.fw2.map Sp.sw)) 2 3 (Sp.ps 345876451382054092800 (Sp.pairL 300 (Sp.fw2.map Sp.sw)) (Sp.d0 345876451382054092800 2) 3) := Sp.ps_ok 3 (by decide) (by decide) (by decide) (by decide +kernel)
  have e0 : Sp.rk y 0 = 301 := by rw [h.sh.uniq hs (by decide) (by decide)]; decide +kernel
  have b0 := h.bd 0 (by decide)
  have e1 : Sp.rk y 1 = 345876451382054092800 := by rw [h.sh.uniq hs (by decide) (by decide)]; decide +kernel
  have b1 := h.bd 1 (by decide)
  have e2 : Sp.rk y 2 = 0 := by rw [h.sh.uniq hs (by decide) (by decide)]; decide +kernel
  have b2 := h.bd 2 (by decide)
  unfold Sp.rk at e0 e1 e2
  simp only [Nat.zero_mul, Nat.zero_add, Nat.one_mul, Nat.reduceMul, Nat.reduceAdd] at e0 e1 e2 b0 b1 b2
  have y0 : y 0 = 1 ∧ y 1 = 1 := by rcases b0 with b | b <;> omega
  have y1 : y 2 = 1152921504606846976 ∧ y 3 = 0 := by rcases b1 with b | b <;> omega
  have y2 : y 4 = 0 ∧ y 5 = 0 := by rcases b2 with b | b <;> omega
  obtain ⟨a0, a1⟩ := y0
  obtain ⟨a2, a3⟩ := y1
  obtain ⟨a4, a5⟩ := y2
  refine ⟨by rw [Nat.zero_mul, a0]; decide, fun W hw => ?_⟩
  obtain ⟨r0, rfl, hw0⟩ := Sp.WayIs.step hw (by decide) (i := 0) (Sp.tt_iff.2 ⟨rfl, (by show y 4 + 1 = y 0; omega), (by show y 5 + 1 = y 1; omega)⟩) (fun k hk => by omega)
  have := Sp.WayIs.end_ hw0
  subst this
  rfl
theorem Sp.fw2_no {y : Nat → Int} (h : Sp.Tow Sp.fw2 0 3 y) : y (2 * 2) = 1152921504606846976 := by
  have hs : Sp.Short 345876451382054092800 (Sp.pairL 300 (Sp.fw2.map Sp.sw)) 0 3 (Sp.ps 345876451382054092800 (Sp.pairL 300 (Sp.fw2.map Sp.sw)) (Sp.d0 345876451382054092800 0) 3) := Sp.ps_ok 3 (by decide) (by decide) (by decide) (by decide +kernel)
  refine (h.bd.far (by decide) (by decide)).1 ?_
  rw [h.sh.uniq hs (by decide) (by decide)]; decide +kernel
def Sp.fw3 : List Sp.Arc := [⟨1, 2, 0⟩, ⟨0, 1, 0⟩, ⟨0, 1, 0⟩]
theorem Sp.fw3_snd : Sp.Snd 3 Sp.fw3 := ⟨by decide, by decide⟩
theorem Sp.fw3_pos : ∀ a ∈ Sp.fw3, 0 ≤ a.l := by decide
theorem Sp.fw3_way {y : Nat → Int} (h : Sp.Tow Sp.fw3 2 3 y) : y (0 * 2) ≠ 1152921504606846976 ∧ ∀ W, Sp.WayIs Sp.fw3 y 2 0 W → W = [1, 0] := by
  have hs : Sp.Short 345876451382054092800 (Sp.pairL 300 (Sp.fw3.map Sp.sw)) 2 3 (Sp.ps 345876451382054092800 (Sp.pairL 300 (Sp.fw3.map Sp.sw)) (Sp.d0 345876451382054092800 2) 3) := Sp.ps_ok 3 (by decide) (by decide) (by decide) (by decide +kernel)
  have e0 : Sp.rk y 0 = 2 := by rw [h.sh.uniq hs (by decide) (by decide)]; decide +kernel
  have b0 := h.bd 0 (by decide)
  have e1 : Sp.rk y 1 = 1 := by rw [h.sh.uniq hs (by decide) (by decide)]; decide +kernel
  have b1 := h.bd 1 (by decide)
  have e2 : Sp.rk y 2 = 0 := by rw [h.sh.uniq hs (by decide) (by decide)]; decide +kernel
  have b2 := h.bd 2 (by decide)
  unfold Sp.rk at e0 e1 e2
  simp only [Nat.zero_mul, Nat.zero_add, Nat.one_mul, Nat.reduceMul, Nat.reduceAdd] at e0 e1 e2 b0 b1 b2
  have y0 : y 0 = 0 ∧ y 1 = 2 := by rcases b0 with b | b <;> omega
  have y1 : y 2 = 0 ∧ y 3 = 1 := by rcases b1 with b | b <;> omega
  have y2 : y 4 = 0 ∧ y 5 = 0 := by rcases b2 with b | b <;> omega
  obtain ⟨a0, a1⟩ := y0
  obtain ⟨a2, a3⟩ := y1
  obtain ⟨a4, a5⟩ := y2
  refine ⟨by rw [Nat.zero_mul, a0]; decide, fun W hw => ?_⟩
  obtain ⟨r0, rfl, hw0⟩ := Sp.WayIs.step hw (by decide) (i := 1) (Sp.tt_iff.2 ⟨rfl, (by show y 2 + 0 = y 0; omega), (by show y 3 + 1 = y 1; omega)⟩) (fun k hk => by
    rcases (show k = 0 by omega) with rfl
    · exact Bool.eq_false_iff.2 (fun h => absurd (Sp.tt_iff.1 h).1 (by decide))
    )
  obtain ⟨r1, rfl, hw1⟩ := Sp.WayIs.step hw0 (by decide) (i := 0) (Sp.tt_iff.2 ⟨rfl, (by show y 4 + 0 = y 2; omega), (by show y 5 + 1 = y 3; omega)⟩) (fun k hk => by omega)
  have := Sp.WayIs.end_ hw1
  subst this
  rfl
theorem Sp.fw3_no {y : Nat → Int} (h : Sp.Tow Sp.fw3 0 3 y) : y (2 * 2) = 1152921504606846976 := by
  have hs : Sp.Short 345876451382054092800 (Sp.pairL 300 (Sp.fw3.map Sp.sw)) 0 3 (Sp.ps 345876451382054092800 (Sp.pairL 300 (Sp.fw3.map Sp.sw)) (Sp.d0 345876451382054092800 0) 3) := Sp.ps_ok 3 (by decide) (by decide) (by decide) (by decide +kernel)
  refine (h.bd.far (by decide) (by decide)).1 ?_
  rw [h.sh.uniq hs (by decide) (by decide)]; decide +kernel
def Sp.fw4 : List Sp.Arc := [⟨0, 0, 0⟩, ⟨0, 1, 0⟩, ⟨1, 0, 0⟩, ⟨1, 2, 4⟩]
theorem Sp.fw4_snd : Sp.Snd 3 Sp.fw4 := ⟨by decide, by decide⟩
theorem Sp.fw4_pos : ∀ a ∈ Sp.fw4, 0 ≤ a.l := by decide
theorem Sp.fw4_way {y : Nat → Int} (h : Sp.Tow Sp.fw4 2 3 y) : y (0 * 2) ≠ 1152921504606846976 ∧ ∀ W, Sp.WayIs Sp.fw4 y 2 0 W → W = [1, 3] := by
  have hs : Sp.Short 345876451382054092800 (Sp.pairL 300 (Sp.fw4.map Sp.sw)) 2 3 (Sp.ps 345876451382054092800 (Sp.pairL 300 (Sp.fw4.map Sp.sw)) (Sp.d0 345876451382054092800 2) 3) := Sp.ps_ok 3 (by decide) (by decide) (by decide) (by decide +kernel)
  have e0 : Sp.rk y 0 = 1202 := by rw [h.sh.uniq hs (by decide) (by decide)]; decide +kernel
  have b0 := h.bd 0 (by decide)
  have e1 : Sp.rk y 1 = 1201 := by rw [h.sh.uniq hs (by decide) (by decide)]; decide +kernel
  have b1 := h.bd 1 (by decide)
  have e2 : Sp.rk y 2 = 0 := by rw [h.sh.uniq hs (by decide) (by decide)]; decide +kernel
  have b2 := h.bd 2 (by decide)
  unfold Sp.rk at e0 e1 e2
  simp only [Nat.zero_mul, Nat.zero_add, Nat.one_mul, Nat.reduceMul, Nat.reduceAdd] at e0 e1 e2 b0 b1 b2
  have y0 : y 0 = 4 ∧ y 1 = 2 := by rcases b0 with b | b <;> omega
  have y1 : y 2 = 4 ∧ y 3 = 1 := by rcases b1 with b | b <;> omega
  have y2 : y 4 = 0 ∧ y 5 = 0 := by rcases b2 with b | b <;> omega
  obtain ⟨a0, a1⟩ := y0
  obtain ⟨a2, a3⟩ := y1
  obtain ⟨a4, a5⟩ := y2
  refine ⟨by rw [Nat.zero_mul, a0]; decide, fun W hw => ?_⟩
  obtain ⟨r0, rfl, hw0⟩ := Sp.WayIs.step hw (by decide) (i := 1) (Sp.tt_iff.2 ⟨rfl, (by show y 2 + 0 = y 0; omega), (by show y 3 + 1 = y 1; omega)⟩) (fun k hk => by
    rcases (show k = 0 by omega) with rfl
    · exact Bool.eq_false_iff.2 (fun h => by
        have h2 : y 0 + 0 = y 0 := (Sp.tt_iff.1 h).2.1
        have h3 : y 1 + 1 = y 1 := (Sp.tt_iff.1 h).2.2
        omega)
    )
  obtain ⟨r1, rfl, hw1⟩ := Sp.WayIs.step hw0 (by decide) (i := 3) (Sp.tt_iff.2 ⟨rfl, (by show y 4 + 4 = y 2; omega), (by show y 5 + 1 = y 3; omega)⟩) (fun k hk => by
    rcases (show k = 0 ∨ k = 1 ∨ k = 2 by omega) with rfl | rfl | rfl
    · exact Bool.eq_false_iff.2 (fun h => absurd (Sp.tt_iff.1 h).1 (by decide))
    · exact Bool.eq_false_iff.2 (fun h => absurd (Sp.tt_iff.1 h).1 (by decide))
    · exact Bool.eq_false_iff.2 (fun h => by
        have h2 : y 0 + 0 = y 2 := (Sp.tt_iff.1 h).2.1
        have h3 : y 1 + 1 = y 3 := (Sp.tt_iff.1 h).2.2
        omega)
    )
  have := Sp.WayIs.end_ hw1
  subst this
  rfl
theorem Sp.fw4_no {y : Nat → Int} (h : Sp.Tow Sp.fw4 0 3 y) : y (2 * 2) = 1152921504606846976 := by
  have hs : Sp.Short 345876451382054092800 (Sp.pairL 300 (Sp.fw4.map Sp.sw)) 0 3 (Sp.ps 345876451382054092800 (Sp.pairL 300 (Sp.fw4.map Sp.sw)) (Sp.d0 345876451382054092800 0) 3) := Sp.ps_ok 3 (by decide) (by decide) (by decide) (by decide +kernel)
  refine (h.bd.far (by decide) (by decide)).1 ?_
  rw [h.sh.uniq hs (by decide) (by decide)]; decide +kernel
def Sp.fw5 : List Sp.Arc := [⟨0, 1, 1⟩, ⟨1, 2, 2⟩, ⟨0, 1, 2⟩, ⟨1, 2, 1⟩]
theorem Sp.fw5_snd : Sp.Snd 3 Sp.fw5 := ⟨by decide, by decide⟩
theorem Sp.fw5_pos : ∀ a ∈ Sp.fw5, 0 ≤ a.l := by decide
theorem Sp.fw5_way {y : Nat → Int} (h : Sp.Tow Sp.fw5 2 3 y) : y (0 * 2) ≠ 1152921504606846976 ∧ ∀ W, Sp.WayIs Sp.fw5 y 2 0 W → W = [0, 3] := by
  have hs : Sp.Short 345876451382054092800 (Sp.pairL 300 (Sp.fw5.map Sp.sw)) 2 3 (Sp.ps 345876451382054092800 (Sp.pairL 300 (Sp.fw5.map Sp.sw)) (Sp.d0 345876451382054092800 2) 3) := Sp.ps_ok 3 (by decide) (by decide) (by decide) (by decide +kernel)
  have e0 : Sp.rk y 0 = 602 := by rw [h.sh.uniq hs (by decide) (by decide)]; decide +kernel
  have b0 := h.bd 0 (by decide)
  have e1 : Sp.rk y 1 = 301 := by rw [h.sh.uniq hs (by decide) (by decide)]; decide +kernel
  have b1 := h.bd 1 (by decide)
  have e2 : Sp.rk y 2 = 0 := by rw [h.sh.uniq hs (by decide) (by decide)]; decide +kernel
  have b2 := h.bd 2 (by decide)
  unfold Sp.rk at e0 e1 e2
  simp only [Nat.zero_mul, Nat.zero_add, Nat.one_mul, Nat.reduceMul, Nat.reduceAdd] at e0 e1 e2 b0 b1 b2
  have y0 : y 0 = 2 ∧ y 1 = 2 := by rcases b0 with b | b <;> omega
  have y1 : y 2 = 1 ∧ y 3 = 1 := by rcases b1 with b | b <;> omega
  have y2 : y 4 = 0 ∧ y 5 = 0 := by rcases b2 with b | b <;> omega
  obtain ⟨a0, a1⟩ := y0
  obtain ⟨a2, a3⟩ := y1
  obtain ⟨a4, a5⟩ := y2
  refine ⟨by rw [Nat.zero_mul, a0]; decide, fun W hw => ?_⟩
  obtain ⟨r0, rfl, hw0⟩ := Sp.WayIs.step hw (by decide) (i := 0) (Sp.tt_iff.2 ⟨rfl, (by show y 2 + 1 = y 0; omega), (by show y 3 + 1 = y 1; omega)⟩) (fun k hk => by omega)
  obtain ⟨r1, rfl, hw1⟩ := Sp.WayIs.step hw0 (by decide) (i := 3) (Sp.tt_iff.2 ⟨rfl, (by show y 4 + 1 = y 2; omega), (by show y 5 + 1 = y 3; omega)⟩) (fun k hk => by
    rcases (show k = 0 ∨ k = 1 ∨ k = 2 by omega) with rfl | rfl | rfl
    · exact Bool.eq_false_iff.2 (fun h => absurd (Sp.tt_iff.1 h).1 (by decide))
    · exact Bool.eq_false_iff.2 (fun h => by
        have h2 : y 4 + 2 = y 2 := (Sp.tt_iff.1 h).2.1
        have h3 : y 5 + 1 = y 3 := (Sp.tt_iff.1 h).2.2
        omega)
    · exact Bool.eq_false_iff.2 (fun h => absurd (Sp.tt_iff.1 h).1 (by decide))
    )
  have := Sp.WayIs.end_ hw1
  subst this
  rfl
theorem Sp.fw5_no {y : Nat → Int} (h : Sp.Tow Sp.fw5 0 3 y) : y (2 * 2) = 1152921504606846976 := by
  have hs : Sp.Short 345876451382054092800 (Sp.pairL 300 (Sp.fw5.map Sp.sw)) 0 3 (Sp.ps 345876451382054092800 (Sp.pairL 300 (Sp.fw5.map Sp.sw)) (Sp.d0 345876451382054092800 0) 3) := Sp.ps_ok 3 (by decide) (by decide) (by decide) (by decide +kernel)
  refine (h.bd.far (by decide) (by decide)).1 ?_
  rw [h.sh.uniq hs (by decide) (by decide)]; decide +kernel
def Sp.fwL : Nat → List Sp.Arc
  | 0 => Sp.fw0
  | 1 => Sp.fw1
  | 2 => Sp.fw2
  | 3 => Sp.fw3
  | 4 => Sp.fw4
  | _ => Sp.fw5
def Sp.fwA : Nat → List Nat
  | 0 => [2]
  | 1 => [0]
  | 2 => [0]
  | 3 => [1, 0]
  | 4 => [1, 3]
  | _ => [0, 3]
theorem Sp.fwL_snd (k : Nat) : Sp.Snd 3 (Sp.fwL k) :=
  match k with
  | 0 => Sp.fw0_snd
  | 1 => Sp.fw1_snd
  | 2 => Sp.fw2_snd
  | 3 => Sp.fw3_snd
  | 4 => Sp.fw4_snd
  | _ + 5 => Sp.fw5_snd
theorem Sp.fwL_pos (k : Nat) : ∀ a ∈ Sp.fwL k, 0 ≤ a.l :=
  match k with
  | 0 => Sp.fw0_pos
  | 1 => Sp.fw1_pos
  | 2 => Sp.fw2_pos
  | 3 => Sp.fw3_pos
  | 4 => Sp.fw4_pos
  | _ + 5 => Sp.fw5_pos
theorem Sp.fwL_way (k : Nat) {y : Nat → Int} (h : Sp.Tow (Sp.fwL k) 2 3 y) : y (0 * 2) ≠ 1152921504606846976 ∧ ∀ W, Sp.WayIs (Sp.fwL k) y 2 0 W → W = Sp.fwA k :=
  match k with
  | 0 => Sp.fw0_way h
  | 1 => Sp.fw1_way h
  | 2 => Sp.fw2_way h
  | 3 => Sp.fw3_way h
  | 4 => Sp.fw4_way h
  | _ + 5 => Sp.fw5_way h
theorem Sp.fwL_no (k : Nat) {y : Nat → Int} (h : Sp.Tow (Sp.fwL k) 0 3 y) : y (2 * 2) = 1152921504606846976 :=
  match k with
  | 0 => Sp.fw0_no h
  | 1 => Sp.fw1_no h
  | 2 => Sp.fw2_no h
  | 3 => Sp.fw3_no h
  | 4 => Sp.fw4_no h
  | _ + 5 => Sp.fw5_no h
end Go.Proofs.Ytlmlibhkloingab


/- The law PathFew, walked. -/
namespace Go.Proofs.Ytlmlibhkloingab
open Go Go.RowKit

def allocs : World → List Obj → World
  | w, [] => w
  | w, o :: os => allocs (w.alloc o) os
theorem allocs_heap : ∀ (os : List Obj) (w : World), (allocs w os).heap.toList = w.heap.toList ++ os
  | [], w => by simp [allocs]
  | o :: os, w => by
    rw [allocs, allocs_heap os]
    show (w.heap.push o).toList ++ os = _
    simp
theorem allocs_at (os : List Obj) (w : World) (i : Nat) : (allocs w os).heap[w.heap.size + i]? = os[i]? := by
  rw [← Array.getElem?_toList, allocs_heap, List.getElem?_append_right (by simp)]
  simp
theorem allocs_size (os : List Obj) (w : World) : (allocs w os).heap.size = w.heap.size + os.length := by
  rw [← Array.length_toList, allocs_heap]; simp
theorem allocs_below : ∀ (os : List Obj) (w : World), Below w.heap.size w (allocs w os)
  | [], w => Below.refl _ _
  | o :: os, w => by
    have h := allocs_below os (w.alloc o)
    exact ((Below.refl _ w).alloc (Nat.le_refl _) o).trans (h.mono (by simp))
theorem arcs_heap {w : World} {g n : Nat} {L : List Sp.Arc} (h : w.heap[g]? = some (.cells (Sp.cells3 L).toArray 28)) (hn : L.length = n) (hl : n ≤ 1000) : ArcsI w (.slice (some ⟨g, 0, none⟩) n n) L := by
  subst hn
  exact OwnA.arcs (B := 0) ⟨by rw [Sp.cells3_len], .inr ⟨g, L.length, _, rfl, Nat.zero_le _, h, Nat.le_refl _, by unfold maxLen; omega, by simp [Sp.cells3_len], by rw [List.take_of_length_le (by simp [Sp.cells3_len])]⟩⟩
theorem ints_heap {w : World} {g n : Nat} {l : List Int} (h : w.heap[g]? = some (.cells (l.map (Value.int .i64)).toArray 3)) (hn : l.length = n) (hl : n ≤ 1000) : Ints w (.slice (some ⟨g, 0, none⟩) n n) l := by
  subst hn
  exact OwnI.ints (B := 0) ⟨by simp, .inr ⟨g, l.length, _, rfl, Nat.zero_le _, h, Nat.le_refl _, by unfold maxLen; omega, by simp, by rw [List.take_of_length_le (by simp)]⟩⟩
def Sp.fwO (w1 : World) : List Obj := [.cells #[.int .i64 0, .int .i64 1, .int .i64 0, .int .i64 1, .int .i64 2, .int .i64 0, .int .i64 0, .int .i64 2, .int .i64 0] 28,
    .cells #[.int .i64 0, .int .i64 2, .int .i64 2, .int .i64 0, .int .i64 1, .int .i64 1, .int .i64 1, .int .i64 2, .int .i64 1] 28,
    .cells #[.int .i64 0, .int .i64 2, .int .i64 1, .int .i64 0, .int .i64 2, .int .i64 1] 28,
    .cells #[.int .i64 1, .int .i64 2, .int .i64 0, .int .i64 0, .int .i64 1, .int .i64 0, .int .i64 0, .int .i64 1, .int .i64 0] 28,
    .cells #[.int .i64 0, .int .i64 0, .int .i64 0, .int .i64 0, .int .i64 1, .int .i64 0, .int .i64 1, .int .i64 0, .int .i64 0, .int .i64 1, .int .i64 2, .int .i64 4] 28,
    .cells #[.int .i64 0, .int .i64 1, .int .i64 1, .int .i64 1, .int .i64 2, .int .i64 2, .int .i64 0, .int .i64 1, .int .i64 2, .int .i64 1, .int .i64 2, .int .i64 1] 28,
    .cells #[.slice (some ⟨w1.heap.size, 0, none⟩) 3 3, .slice (some ⟨w1.heap.size + 1, 0, none⟩) 3 3, .slice (some ⟨w1.heap.size + 2, 0, none⟩) 2 2, .slice (some ⟨w1.heap.size + 3, 0, none⟩) 3 3, .slice (some ⟨w1.heap.size + 4, 0, none⟩) 4 4, .slice (some ⟨w1.heap.size + 5, 0, none⟩) 4 4] 25,
    .cells #[.int .i64 2] 3,
    .cells #[.int .i64 0] 3,
    .cells #[.int .i64 0] 3,
    .cells #[.int .i64 1, .int .i64 0] 3,
    .cells #[.int .i64 1, .int .i64 3] 3,
    .cells #[.int .i64 0, .int .i64 3] 3,
    .cells #[.slice (some ⟨w1.heap.size + 7, 0, none⟩) 1 1, .slice (some ⟨w1.heap.size + 8, 0, none⟩) 1 1, .slice (some ⟨w1.heap.size + 9, 0, none⟩) 1 1, .slice (some ⟨w1.heap.size + 10, 0, none⟩) 2 2, .slice (some ⟨w1.heap.size + 11, 0, none⟩) 2 2, .slice (some ⟨w1.heap.size + 12, 0, none⟩) 2 2] 22]
theorem few_at (w1 : World) (k : Nat) (hk : k < 6) : ∃ a n c b m d, (allocs w1 (Sp.fwO w1)).cell? ⟨w1.heap.size + 6, k, none⟩ = some (.slice a n c) ∧ ArcsI (allocs w1 (Sp.fwO w1)) (.slice a n c) (Sp.fwL k) ∧ (allocs w1 (Sp.fwO w1)).cell? ⟨w1.heap.size + 13, k, none⟩ = some (.slice b m d) ∧ Ints (allocs w1 (Sp.fwO w1)) (.slice b m d) ((Sp.fwA k).map fun i : Nat => (i : Int)) := by
  have h6 := allocs_at (Sp.fwO w1) w1 6
  have h13 := allocs_at (Sp.fwO w1) w1 13
  have n0 := allocs_at (Sp.fwO w1) w1 0
  have a0 := allocs_at (Sp.fwO w1) w1 7
  have n1 := allocs_at (Sp.fwO w1) w1 1
  have a1 := allocs_at (Sp.fwO w1) w1 8
  have n2 := allocs_at (Sp.fwO w1) w1 2
  have a2 := allocs_at (Sp.fwO w1) w1 9
  have n3 := allocs_at (Sp.fwO w1) w1 3
  have a3 := allocs_at (Sp.fwO w1) w1 10
  have n4 := allocs_at (Sp.fwO w1) w1 4
  have a4 := allocs_at (Sp.fwO w1) w1 11
  have n5 := allocs_at (Sp.fwO w1) w1 5
  have a5 := allocs_at (Sp.fwO w1) w1 12
  rcases (show k = 0 ∨ k = 1 ∨ k = 2 ∨ k = 3 ∨ k = 4 ∨ k = 5 by omega) with rfl | rfl | rfl | rfl | rfl | rfl
  · refine ⟨_, _, _, _, _, _, (by simp only [World.cell?, h6]; rfl), arcs_heap (g := w1.heap.size + 0) (L := Sp.fw0) n0 rfl (by decide), (by simp only [World.cell?, h13]; rfl), ints_heap (g := w1.heap.size + 7) (l := [2]) a0 rfl (by decide)⟩
  · refine ⟨_, _, _, _, _, _, (by simp only [World.cell?, h6]; rfl), arcs_heap (g := w1.heap.size + 1) (L := Sp.fw1) n1 rfl (by decide), (by simp only [World.cell?, h13]; rfl), ints_heap (g := w1.heap.size + 8) (l := [0]) a1 rfl (by decide)⟩
  · refine ⟨_, _, _, _, _, _, (by simp only [World.cell?, h6]; rfl), arcs_heap (g := w1.heap.size + 2) (L := Sp.fw2) n2 rfl (by decide), (by simp only [World.cell?, h13]; rfl), ints_heap (g := w1.heap.size + 9) (l := [0]) a2 rfl (by decide)⟩
  · refine ⟨_, _, _, _, _, _, (by simp only [World.cell?, h6]; rfl), arcs_heap (g := w1.heap.size + 3) (L := Sp.fw3) n3 rfl (by decide), (by simp only [World.cell?, h13]; rfl), ints_heap (g := w1.heap.size + 10) (l := [1, 0]) a3 rfl (by decide)⟩
  · refine ⟨_, _, _, _, _, _, (by simp only [World.cell?, h6]; rfl), arcs_heap (g := w1.heap.size + 4) (L := Sp.fw4) n4 rfl (by decide), (by simp only [World.cell?, h13]; rfl), ints_heap (g := w1.heap.size + 11) (l := [1, 3]) a4 rfl (by decide)⟩
  · refine ⟨_, _, _, _, _, _, (by simp only [World.cell?, h6]; rfl), arcs_heap (g := w1.heap.size + 5) (L := Sp.fw5) n5 rfl (by decide), (by simp only [World.cell?, h13]; rfl), ints_heap (g := w1.heap.size + 12) (l := [0, 3]) a5 rfl (by decide)⟩
set_option maxRecDepth 100000 in
set_option maxHeartbeats 8000000 in
theorem pathFew_any (which : Int) (w : World) : Calls Try.prog 5 #[.int .i64 which] w fun e w' => e = .returned (.bool true) ∧ Below w.heap.size w w' := by
  have HK := hide (known6_any w)
  have hk0 : 0 ≤ which % 6 := Int.emod_nonneg _ (by omega)
  have hk1 : which % 6 < 6 := Int.emod_lt_of_pos _ (by omega)
  obtain ⟨k, hk⟩ : ∃ k : Nat, which % 6 = (k : Int) := ⟨(which % 6).toNat, by omega⟩
  have hk6 : k < 6 := by omega
  have hkI : (k : Int) < 6 := by omega
  have HWt : Hid (∀ w', Calls Try.prog 8 #[.int .i64 which, .int .i64 6] w' fun e w'' => e = .returned (.int .i64 (k : Int)) ∧ w'' = w') := hide (fun w' => by rw [← hk]; exact within6_any which 6 w' (by omega) (by omega))
  clear hk0 hk1 hk
  obtain ⟨P, hP⟩ : ∃ P : Ending → World → Prop, P = fun e w' => e = .returned (.bool true) ∧ Below w.heap.size w w' := ⟨_, rfl⟩
  rw [← hP]
  have HP := hide hP
  clear hP
  go_enter Try.func5, Try.ntmps5
  go_wp2_with fail
  go_at_call 7
  refine (unhide HK).mono ?_
  rintro e w1 ⟨rfl, hb1⟩
  have HB1 := hide hb1
  clear hb1 HK
  go_wp2_with fail
  generalize hWW : World.alloc _ _ = W
  have hW : W = allocs w1 (Sp.fwO w1) := by rw [← hWW]; rfl
  clear hWW
  have hF := few_at w1 k hk6
  rw [← hW] at hF
  obtain ⟨na, nn, nc, aa, am, ac, f1, f2, f3, f4⟩ := hF
  have HBW : Hid (Below w.heap.size w W) := hide (by rw [hW]; exact (unhide HB1).trans ((allocs_below _ w1).mono (unhide HB1).size))
  have hsW : W.heap.size = w1.heap.size + 14 := by rw [hW, allocs_size]; rfl
  have HF : Hid (∀ w', Below W.heap.size W w' → w'.cell? ⟨w1.heap.size + 6, k, none⟩ = some (.slice na nn nc) ∧ ArcsI w' (.slice na nn nc) (Sp.fwL k) ∧ w'.cell? ⟨w1.heap.size + 13, k, none⟩ = some (.slice aa am ac) ∧ Ints w' (.slice aa am ac) ((Sp.fwA k).map fun i : Nat => (i : Int)) ∧ Below w.heap.size w w') := hide fun w' hb =>
    ⟨(hb.cell (p := ⟨w1.heap.size + 6, k, none⟩) (by show w1.heap.size + 6 < _; omega)).trans f1, f2.below hb, (hb.cell (p := ⟨w1.heap.size + 13, k, none⟩) (by show w1.heap.size + 13 < _; omega)).trans f3, f4.below hb, (unhide HBW).trans (hb.mono (unhide HBW).size)⟩
  clear hW f1 f2 f3 f4 hsW HBW HB1
  go_at_call 8
  refine (unhide HWt _).mono ?_
  rintro e wz ⟨rfl, hwz⟩
  have hwz' := hwz.symm
  subst hwz'
  clear hwz HWt
  obtain ⟨f1, f2, -, -, -⟩ := unhide HF W (Below.refl _ _)
  have hW1 : Calls Try.prog 13 #[.int .i64 3, .slice na nn nc, .int .i64 0, .int .i64 2] W fun e w' => ∃ rv, e = .returned (.tuple #[rv, .bool true]) ∧ Ints w' rv ((Sp.fwA k).map fun i : Nat => (i : Int)) ∧ Below W.heap.size W w' := by
    refine (way_any6 3 (Sp.fwL k) 0 2 _ W f2 (Sp.fwL_snd k) (Sp.fwL_pos k) (by decide) (by decide) (by decide)).mono ?_
    rintro e w' ⟨hb, y, hT, ⟨hf, rfl⟩ | ⟨-, rv, X, rfl, ho, -, hw⟩⟩
    · exact absurd hf (Sp.fwL_way k hT).1
    · have := (Sp.fwL_way k hT).2 X hw
      subst this
      exact ⟨rv, rfl, OwnI.ints ho, hb⟩
  have HW1 := hide hW1
  clear hW1 f2
  go_wp2_with fail
  go_at_call 13
  refine (unhide HW1).mono ?_
  rintro e w2 ⟨rv, rfl, hr2, hb2⟩
  obtain ⟨ra, rc, hrv, -⟩ := hr2.form
  rw [List.length_map] at hrv
  subst hrv
  have H2 := hide (And.intro hb2 hr2)
  clear hb2 hr2 HW1 f1
  obtain ⟨f1, f2, -, -, -⟩ := unhide HF w2 (unhide H2).1
  have hW2 : Calls Try.prog 13 #[.int .i64 3, .slice na nn nc, .int .i64 2, .int .i64 0] w2 fun e w' => e = .returned (.tuple #[.slice none 0 0, .bool false]) ∧ Below w2.heap.size w2 w' := by
    refine (way_any6 3 (Sp.fwL k) 2 0 _ w2 f2 (Sp.fwL_snd k) (Sp.fwL_pos k) (by decide) (by decide) (by decide)).mono ?_
    rintro e w' ⟨hb, y, hT, ⟨-, rfl⟩ | ⟨hf, -⟩⟩
    · exact ⟨rfl, hb⟩
    · exact absurd (Sp.fwL_no k hT) hf
  have HW2 := hide hW2
  clear hW2 f2
  go_wp2_with fail
  go_at_call 13
  refine (unhide HW2).mono ?_
  rintro e w3 ⟨rfl, hb3⟩
  have H3 := hide (And.intro ((unhide H2).1.trans (hb3.mono (unhide H2).1.size)) ((unhide H2).2.below hb3))
  clear hb3 HW2 f1 H2
  obtain ⟨f1, f2, -, -, -⟩ := unhide HF w3 (unhide H3).1
  have hW3 : Calls Try.prog 13 #[.int .i64 3, .slice na nn nc, .int .i64 1, .int .i64 1] w3 fun e w' => ∃ rv, e = .returned (.tuple #[rv, .bool true]) ∧ Ints w' rv [] ∧ Below w3.heap.size w3 w' := by
    refine (way_any6 3 (Sp.fwL k) 1 1 _ w3 f2 (Sp.fwL_snd k) (Sp.fwL_pos k) (by decide) (by decide) (by decide)).mono ?_
    rintro e w' ⟨hb, y, hT, ⟨hf, rfl⟩ | ⟨-, rv, X, rfl, ho, -, hw⟩⟩
    · have := (hT.root (by decide)).1
      rw [this] at hf
      cases hf
    · have := Sp.WayIs.end_ hw
      subst this
      exact ⟨rv, rfl, OwnI.ints ho, hb⟩
  have HW3 := hide hW3
  clear hW3 f2
  go_wp2_with fail
  go_at_call 13
  refine (unhide HW3).mono ?_
  rintro e w4 ⟨rv4, rfl, hr4, hb4⟩
  obtain ⟨ra4, rc4, hrv, -⟩ := hr4.form
  rw [List.length_nil] at hrv
  subst hrv
  have H4 := hide (And.intro ((unhide H3).1.trans (hb4.mono (unhide H3).1.size)) ((unhide H3).2.below hb4))
  clear hr4 hb4 HW3 f1 H3
  obtain ⟨-, -, f3, f4, f5⟩ := unhide HF w4 (unhide H4).1
  have hI0 : Calls Try.prog 11 #[.slice ra (Sp.fwA k).length rc, .slice aa am ac] w4 fun e w' => e = .returned (.bool true) ∧ Below w4.heap.size w4 w' := by
    have hlen : ((Sp.fwA k).map fun i : Nat => (i : Int)).length ≤ 1000 := by
      rw [List.length_map]
      rcases (show k = 0 ∨ k = 1 ∨ k = 2 ∨ k = 3 ∨ k = 4 ∨ k = 5 by omega) with rfl | rfl | rfl | rfl | rfl | rfl <;> decide
    refine (ints6_any _ _ _ _ w4 (unhide H4).2 f4 hlen).mono ?_
    rintro e w' ⟨rfl, hb⟩
    exact ⟨by simp, hb⟩
  have HI := hide hI0
  have HE := hide f5
  clear hI0 f4 f5 H4 HF
  go_wp2_with fail
  go_at_call 11
  refine (unhide HI).mono ?_
  rintro e w5 ⟨rfl, hb5⟩
  have HE5 := hide ((unhide HE).trans (hb5.mono (unhide HE).size))
  clear hb5 HI f3
  go_wp2
  rw [unhide HP]
  exact ⟨rfl, unhide HE5⟩
end Go.Proofs.Ytlmlibhkloingab


