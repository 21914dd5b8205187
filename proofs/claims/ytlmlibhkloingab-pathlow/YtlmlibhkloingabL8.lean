/- What the proof needs, part 8. -/
import Derived.Test.YtlmlibhkloingabL7
/- Package path: Right. The reference's Ints, from. -/
namespace Go.Proofs.Ytlmlibhkloingab
open Go Go.RowKit

set_option maxRecDepth 100000 in
set_option maxHeartbeats 2000000 in
theorem right_yes (N : Nat) (L : List Sp.Arc) (s : Nat) (l : List Int) (lv dv : Value) (w : World) (hl : ArcsI w lv L) (hd : Ints w dv l) (hd2 : l.length ≤ 1000) (hS : Sp.Snd N L) (hs : s < N) (hN : N ≤ 60) (hex : ∃ D, Sp.Short 1152921504606846976 L s N D ∧ ∀ v, D v ≠ 1152921504606846976 → D v < 1152921504606846976) :
    Calls Try.prog 12 #[.int .i64 (N : Int), lv, .int .i64 (s : Int), dv] w fun e w' => Below w.heap.size w w' ∧ ∃ D b, e = .returned (.bool b) ∧ Sp.Short 1152921504606846976 L s N D ∧ b = decide (l = (List.range N).map D) := by
  have HC1 := hide (any_yes N L s lv w hl hS hs hN hex)
  have HD : Hid (∀ w' G (D : Nat → Int), Below w.heap.size w w' → RowAt w' G N D → Calls Try.prog 20 #[dv, .slice (some ⟨G, 0, none⟩) N N] w' fun e w'' => e = .returned (.bool (decide (l = (List.range N).map D))) ∧ Below w'.heap.size w' w'') := hide fun w' G D hb hr => equal_any6 l _ dv _ w' (hd.below hb) (hr.ints (by omega)) hd2
  obtain ⟨la, lc, rfl, -⟩ := hl.form
  obtain ⟨da, dc, rfl, -⟩ := hd.form
  obtain ⟨P, hP⟩ : ∃ P : Ending → World → Prop, P = fun e w' => Below w.heap.size w w' ∧ ∃ D b, e = .returned (.bool b) ∧ Sp.Short 1152921504606846976 L s N D ∧ b = decide (l = (List.range N).map D) := ⟨_, rfl⟩
  rw [← hP]
  have HP := hide hP
  clear hP hl hd hS hex
  go_enter Try.func12, Try.ntmps12
  go_wp2_with fail
  go_at_call 10
  refine (unhide HC1).mono ?_
  rintro e w2 ⟨G, D, rfl, hG, hr2, hb2, hD⟩
  have HDd := unhide HD w2 G D hb2 hr2
  have hRR : ∃ R, decide (l = (List.range N).map D) = R := ⟨_, rfl⟩
  obtain ⟨R, hR⟩ := hRR
  rw [hR] at HDd
  have HQ := hide (And.intro hb2 (And.intro hD hR))
  have HDe := hide HDd
  clear hr2 hb2 hD hR HD HDd HC1
  go_wp2_with fail
  go_at_call 20
  refine (unhide HDe).mono ?_
  rintro e w3 ⟨rfl, hb3⟩
  have HB3 := hide ((unhide HQ).1.trans (hb3.mono (unhide HQ).1.size))
  clear hb3 HDe
  go_wp2
  rw [unhide HP]
  exact ⟨unhide HB3, D, R, rfl, (unhide HQ).2.1, (unhide HQ).2.2.symm⟩
set_option maxRecDepth 100000 in
set_option maxHeartbeats 2000000 in
theorem ints6_any (l m : List Int) (u v : Value) (w : World) (hu : Ints w u l) (hv : Ints w v m) (hl : l.length ≤ 1000) :
    Calls Try.prog 11 #[u, v] w fun e w' => e = .returned (.bool (decide (l = m))) ∧ Below w.heap.size w w' := by
  obtain ⟨ua, uc, rfl, -, -, HU⟩ := hu.allA
  obtain ⟨va, vc, rfl, -, -, HV⟩ := hv.allA
  clear hu hv
  by_cases hn : l.length = m.length
  · have hneb : ((l.length : Int) != (m.length : Int)) = false := by simp [hn]
    obtain ⟨R, hR⟩ : ∃ R, decide (l = m) = R := ⟨_, rfl⟩
    rw [hR]
    have HR := hide hR
    have HE : Hid ((∀ j, j < l.length → l.getD j 0 = m.getD j 0) → R = true) := hide fun h => by
      rw [← hR, decide_eq_true_eq]
      exact List.ext_getElem hn fun j h1 h2 => by
        have := h j h1
        rwa [List.getD_eq_getElem?_getD, List.getD_eq_getElem?_getD, List.getElem?_eq_getElem h1, List.getElem?_eq_getElem h2] at this
    have HNe : Hid (∀ j, l.getD j 0 ≠ m.getD j 0 → R = false) := hide fun j h => by
      rw [← hR, decide_eq_false_iff_not]; exact fun e => h (by rw [e])
    obtain ⟨P, hP⟩ : ∃ P : Ending → World → Prop, P = fun e w' => e = .returned (.bool R) ∧ Below w.heap.size w w' := ⟨_, rfl⟩
    rw [← hP]
    have HP := hide hP
    rw [← hn]
    clear hP hR HR
    have HNn := hide hn
    clear hn
    go_enter Try.func11, Try.ntmps11
    go_wp2
    go_loopg [5] l.length (fun g s5 wr => ∃ i : Nat, i + g = l.length ∧ s5 = .int .i64 (i : Int) ∧ Hid (∀ j, j < i → l.getD j 0 = m.getD j 0) ∧ Hid (Below w.heap.size w wr))
    case atStart => exact ⟨0, by omega, rfl, hide fun j hj => by omega, hide (Below.refl _ _)⟩
    case round =>
      obtain ⟨i, hig, rfl, HJ, HB⟩ := hrel
      cases gk with
      | zero =>
        obtain rfl : i = l.length := by omega
        have hRt := unhide HE (unhide HJ)
        go_wp2
        rw [unhide HP, hRt]
        exact ⟨rfl, unhide HB⟩
      | succ g' =>
        have hi : i < l.length := by omega
        have hiI : (i : Int) < (l.length : Int) := by omega
        obtain ⟨b, o, rfl, -, hc⟩ := unhide HU i hi
        obtain ⟨b', o', rfl, -, hc'⟩ := unhide HV i (by rw [← unhide HNn]; exact hi)
        have c1 := hc wr (unhide HB)
        have c2 := hc' wr (unhide HB)
        have HB2 : Hid (∀ nq, Below w.heap.size w (wr.drewN nq)) := hide fun nq => below_dn (unhide HB) nq
        by_cases he : l.getD i 0 = m.getD i 0
        · have HJ2 : Hid (∀ j, j < i + 1 → l.getD j 0 = m.getD j 0) := hide fun j hj => by
            by_cases e : j = i
            · rw [e]; exact he
            · exact unhide HJ j (by omega)
          rw [← he] at c2
          have hb : ((l.getD i 0) != (l.getD i 0)) = false := by simp
          generalize l.getD i 0 = z at *
          clear hc hc' he HJ HB
          go_wp2_with fail
          go_quiet (fail)
          go_wp2
          go_roundg g'
          case rel => exact ⟨i + 1, by omega, by go_num, HJ2, hide (unhide HB2 _)⟩
          case measure => omega
        · have hRf := unhide HNe i he
          have hb : ((l.getD i 0) != (m.getD i 0)) = true := bne_iff_ne.2 he
          generalize l.getD i 0 = z at *
          generalize m.getD i 0 = z' at *
          clear hc hc' he HJ HB
          go_wp2_with fail
          go_quiet (fail)
          go_wp2
          rw [unhide HP, hRf]
          exact ⟨rfl, unhide HB2 _⟩
  · have hneb : ((l.length : Int) != (m.length : Int)) = true := bne_iff_ne.2 (by omega)
    have HR := hide (show decide (l = m) = false from decide_eq_false (fun e => hn (by rw [e])))
    generalize decide (l = m) = R at *
    go_enter Try.func11, Try.ntmps11
    go_wp2
    go_ret
    exact ⟨by rw [unhide HR]; rfl, Below.refl _ _⟩
end Go.Proofs.Ytlmlibhkloingab


/- The reference's From, Any; within, Arcs of watershedlaw6. -/
namespace Go.Proofs.Ytlmlibhkloingab
open Go Go.RowKit

set_option maxRecDepth 100000 in
set_option maxHeartbeats 1000000 in
theorem within6_any (a n : Int) (w : World) (hn : 0 < n) (hn1 : n ≤ 4611686018427387904) :
    Calls Try.prog 8 #[.int .i64 a, .int .i64 n] w fun e w' => e = .returned (.int .i64 (a % n)) ∧ w' = w := by
  have h0 : 0 ≤ a % n := Int.emod_nonneg a (by omega)
  have h1 : a % n < n := Int.emod_lt_of_pos a hn
  rcases tmod_casesH a n hn with ⟨ha, hb⟩ | ⟨ha, hb⟩
  · have hc : -n ≤ a.tmod n := by omega
    have Hb := hide hb; clear hb h0 h1
    go_enter Try.func8, Try.ntmps8
    go_wp2
    go_ret
    exact ⟨ret_intH (unhide Hb), rfl⟩
  · have Hb := hide hb; clear hb h0 h1
    go_enter Try.func8, Try.ntmps8
    go_wp2
    go_ret
    exact ⟨ret_intH (unhide Hb), rfl⟩
end Go.Proofs.Ytlmlibhkloingab


/- Known arcs: their ways. -/
namespace Go.Proofs.Ytlmlibhkloingab
open Go Go.RowKit

theorem Sp.ps_ok {far : Int} {L : List Sp.Arc} {s n : Nat} (k : Nat) (hf : 0 < far) (hs : s < n) (hL : ∀ a ∈ L, a.f < n) (hc : ∀ a ∈ L, Sp.ps far L (Sp.d0 far s) k a.f ≠ far → ¬ (Sp.ps far L (Sp.d0 far s) k a.f + a.l < Sp.ps far L (Sp.d0 far s) k a.t) ∧ Sp.ps far L (Sp.d0 far s) k a.f + a.l < far) : Sp.Short far L s n (Sp.ps far L (Sp.d0 far s) k) :=
  Sp.short_still hs (Sp.Att.ps hf hL (Sp.att0 hf) k) (fun a ha hne => (hc a ha hne).1) (fun a ha hne => (hc a ha hne).2)
/-- A step of the way: the first arc that may go on. -/
theorem Sp.WayIs.step {L : List Sp.Arc} {y : Nat → Int} {t v : Nat} {W : List Nat} (h : Sp.WayIs L y t v W) (hv : v ≠ t) {i : Nat} (hi : Sp.tt L y v i = true) (hk : ∀ k, k < i → Sp.tt L y v k = false) : ∃ r, W = i :: r ∧ Sp.WayIs L y t (L.getD i Sp.arc0).t r := by
  cases W with
  | nil => exact absurd h hv
  | cons j r =>
    obtain ⟨-, h2, h3, h4, h5⟩ := h
    have e : j = i := by
      rcases Nat.lt_trichotomy j i with e | e | e
      · rw [hk j e] at h3; cases h3
      · exact e
      · rw [h4 i e] at hi; cases hi
    subst e
    exact ⟨r, rfl, h5⟩
theorem Sp.WayIs.end_ {L : List Sp.Arc} {y : Nat → Int} {t : Nat} {W : List Nat} (h : Sp.WayIs L y t t W) : W = [] := by
  cases W with
  | nil => rfl
  | cons j r => exact absurd rfl h.1
def Sp.L0 : List Sp.Arc := [⟨0, 1, 5⟩, ⟨1, 2, 2⟩, ⟨0, 2, 9⟩]
theorem Sp.L0_short : Sp.Short 1152921504606846976 Sp.L0 0 3 (Sp.ps 1152921504606846976 Sp.L0 (Sp.d0 1152921504606846976 0) 3) := Sp.ps_ok 3 (by decide) (by decide) (by decide) (by decide +kernel)
theorem Sp.L0_row {D : Nat → Int} (h : Sp.Short 1152921504606846976 Sp.L0 0 3 D) : D 0 = 0 ∧ D 1 = 5 ∧ D 2 = 7 := by
  refine ⟨?_, ?_, ?_⟩ <;> (rw [h.uniq Sp.L0_short (by decide) (by decide)]; decide +kernel)
theorem Sp.L0_snd : Sp.Snd 3 Sp.L0 := ⟨by decide, by decide⟩
theorem Sp.L0_tow {y : Nat → Int} (h : Sp.Tow Sp.L0 2 3 y) : (y 0 = 7 ∧ y 1 = 2) ∧ (y 2 = 2 ∧ y 3 = 1) ∧ y 4 = 0 ∧ y 5 = 0 := by
  have hs : Sp.Short 345876451382054092800 (Sp.pairL 300 (Sp.L0.map Sp.sw)) 2 3 (Sp.ps 345876451382054092800 (Sp.pairL 300 (Sp.L0.map Sp.sw)) (Sp.d0 345876451382054092800 2) 3) := Sp.ps_ok 3 (by decide) (by decide) (by decide) (by decide +kernel)
  have e0 : Sp.rk y 0 = 2102 := by rw [h.sh.uniq hs (by decide) (by decide)]; decide +kernel
  have e1 : Sp.rk y 1 = 601 := by rw [h.sh.uniq hs (by decide) (by decide)]; decide +kernel
  have e2 : Sp.rk y 2 = 0 := by rw [h.sh.uniq hs (by decide) (by decide)]; decide +kernel
  have b0 := h.bd 0 (by decide)
  have b1 := h.bd 1 (by decide)
  have b2 := h.bd 2 (by decide)
  unfold Sp.rk at e0 e1 e2
  simp only [Nat.zero_mul, Nat.zero_add, Nat.one_mul, Nat.reduceMul, Nat.reduceAdd] at e0 e1 e2 b0 b1 b2
  exact ⟨by rcases b0 with b | b <;> omega, by rcases b1 with b | b <;> omega, by rcases b2 with b | b <;> omega⟩
theorem Sp.L0_way {y : Nat → Int} {W : List Nat} (h : Sp.Tow Sp.L0 2 3 y) (hw : Sp.WayIs Sp.L0 y 2 0 W) : W = [0, 1] := by
  obtain ⟨⟨a0, a1⟩, ⟨a2, a3⟩, a4, a5⟩ := Sp.L0_tow h
  obtain ⟨r, rfl, hw1⟩ := hw.step (by decide) (i := 0) (by unfold Sp.tt; simp [Sp.L0, a0, a1, a2, a3]) (fun k hk => by omega)
  obtain ⟨r2, rfl, hw2⟩ := Sp.WayIs.step hw1 (by decide) (i := 1) (by unfold Sp.tt; simp [Sp.L0, a2, a3, a4, a5]) (fun k hk => by
    obtain rfl : k = 0 := by omega
    unfold Sp.tt; simp [Sp.L0])
  have := Sp.WayIs.end_ hw2
  subst this
  rfl
theorem Sp.nil_row {D : Nat → Int} (h : Sp.Short 1152921504606846976 [] 0 1 D) : D 0 = 0 := h.src
end Go.Proofs.Ytlmlibhkloingab


/- watershedlaw6: known. -/
namespace Go.Proofs.Ytlmlibhkloingab
open Go Go.RowKit

theorem L0_is (w : World) : ArcsI (w.alloc (.cells #[.int .i64 0, .int .i64 1, .int .i64 5, .int .i64 1, .int .i64 2, .int .i64 2, .int .i64 0, .int .i64 2, .int .i64 9] 28)) (.slice (some ⟨w.heap.size, 0, none⟩) 3 3) Sp.L0 :=
  OwnA.arcs (own_litA w 0 _ 3 Sp.L0 _ rfl rfl rfl (Nat.zero_le _) (by decide))
theorem Ints.cellA {w : World} {b o n c : Nat} {l : List Int} (h : Ints w (.slice (some ⟨b, o, none⟩) n c) l) (k : Nat) (hk : k < l.length) : w.cell? ⟨b, o + k, none⟩ = some (.int .i64 (l.getD k 0)) := by
  obtain ⟨a, c', e, -, -, H⟩ := h.allA
  obtain ⟨b', o', e2, -, h2⟩ := unhide H k hk
  injection e with e1 _ _
  rw [e2] at e1
  injection e1 with e1
  injection e1 with q1 q2
  subst q1 q2
  exact h2 w (Below.refl _ _)
theorem row3 (D : Nat → Int) {a b c : Int} (h0 : D 0 = a) (h1 : D 1 = b) (h2 : D 2 = c) : (List.range 3).map D = [a, b, c] := by
  show [D 0, D 1, D 2] = _
  rw [h0, h1, h2]
theorem known6_From (lv : Value) (w : World) (hl : ArcsI w lv Sp.L0) : Calls Try.prog 14 #[.int .i64 3, lv, .int .i64 0] w fun e w' => ∃ G, e = .returned (.slice (some ⟨G, 0, none⟩) 3 3) ∧ Ints w' (.slice (some ⟨G, 0, none⟩) 3 3) [0, 5, 7] ∧ Below w.heap.size w w' := by
  have h := from_any 3 Sp.L0 0 lv w hl Sp.L0_snd (by decide) (by decide) (by decide)
  refine h.mono ?_
  rintro e w' ⟨G, D, rfl, -, hr, hb, hD, -⟩
  obtain ⟨d0, d1, d2⟩ := Sp.L0_row hD
  have hi := hr.ints (by decide)
  rw [row3 D d0 d1 d2] at hi
  exact ⟨G, rfl, hi, hb⟩
theorem L0_ex : ∃ D, Sp.Short 1152921504606846976 Sp.L0 0 3 D ∧ ∀ v, D v ≠ 1152921504606846976 → D v < 1152921504606846976 :=
  Sp.Short.ex (by decide) (by decide) Sp.L0_short (by
    intro v hv _
    rcases (show v = 0 ∨ v = 1 ∨ v = 2 by omega) with rfl | rfl | rfl <;> decide +kernel)
theorem known6_Any (lv : Value) (w : World) (hl : ArcsI w lv Sp.L0) : Calls Try.prog 10 #[.int .i64 3, lv, .int .i64 0] w fun e w' => ∃ G, e = .returned (.tuple #[.slice (some ⟨G, 0, none⟩) 3 3, .slice none 0 0, .bool true]) ∧ Ints w' (.slice (some ⟨G, 0, none⟩) 3 3) [0, 5, 7] ∧ Below w.heap.size w w' := by
  have h := any_yes 3 Sp.L0 0 lv w hl Sp.L0_snd (by decide) (by decide) L0_ex
  refine h.mono ?_
  rintro e w' ⟨G, D, rfl, -, hr, hb, hD⟩
  obtain ⟨d0, d1, d2⟩ := Sp.L0_row hD
  have hi := hr.ints (by decide)
  rw [row3 D d0 d1 d2] at hi
  exact ⟨G, rfl, hi, hb⟩
theorem known6_Right (lv dv : Value) (w : World) (hl : ArcsI w lv Sp.L0) (hd : Ints w dv [0, 5, 7]) : Calls Try.prog 12 #[.int .i64 3, lv, .int .i64 0, dv] w fun e w' => e = .returned (.bool true) ∧ Below w.heap.size w w' := by
  have h := right_yes 3 Sp.L0 0 [0, 5, 7] lv dv w hl hd (by decide) Sp.L0_snd (by decide) (by decide) L0_ex
  refine h.mono ?_
  rintro e w' ⟨hb, D, b, rfl, hD, rfl⟩
  obtain ⟨d0, d1, d2⟩ := Sp.L0_row hD
  rw [row3 D d0 d1 d2]
  exact ⟨rfl, hb⟩
theorem known6_Way (lv : Value) (w : World) (hl : ArcsI w lv Sp.L0) : Calls Try.prog 13 #[.int .i64 3, lv, .int .i64 0, .int .i64 2] w fun e w' => ∃ rv, e = .returned (.tuple #[rv, .bool true]) ∧ Ints w' rv [0, 1] ∧ Below w.heap.size w w' := by
  have h := way_any6 3 Sp.L0 0 2 lv w hl Sp.L0_snd (by decide) (by decide) (by decide) (by decide)
  refine h.mono ?_
  rintro e w' ⟨hb, y, hT, ⟨hf, rfl⟩ | ⟨-, rv, W, rfl, ho, -, hw⟩⟩
  · have := (Sp.L0_tow hT).1.1
    rw [show (0 * 2 : Nat) = 0 from rfl, this] at hf
    cases hf
  · have := Sp.L0_way hT hw
    subst this
    exact ⟨rv, rfl, OwnI.ints ho, hb⟩
theorem known6_One (w : World) : Calls Try.prog 14 #[.int .i64 1, .slice none 0 0, .int .i64 0] w fun e w' => ∃ G, e = .returned (.slice (some ⟨G, 0, none⟩) 1 1) ∧ Ints w' (.slice (some ⟨G, 0, none⟩) 1 1) [0] ∧ Below w.heap.size w w' := by
  have h := from_any 1 [] 0 (.slice none 0 0) w (OwnA.nil w 0).arcs ⟨by decide, fun a ha => by cases ha⟩ (fun a ha => by cases ha) (by decide) (by decide)
  refine h.mono ?_
  rintro e w' ⟨G, D, rfl, -, hr, hb, hD, -⟩
  have hi := hr.ints (by decide)
  have e1 : (List.range 1).map D = [0] := by show [D 0] = _; rw [Sp.nil_row hD]
  rw [e1] at hi
  exact ⟨G, rfl, hi, hb⟩
set_option maxRecDepth 100000 in
set_option maxHeartbeats 4000000 in
theorem known6_any (w : World) : Calls Try.prog 7 #[] w fun e w' => e = .returned (.bool true) ∧ Below w.heap.size w w' := by
  obtain ⟨W1, hW1⟩ : ∃ W1, W1 = w.alloc (.cells #[.int .i64 0, .int .i64 1, .int .i64 5, .int .i64 1, .int .i64 2, .int .i64 2, .int .i64 0, .int .i64 2, .int .i64 9] 28) := ⟨_, rfl⟩
  have hl := L0_is w
  rw [← hW1] at hl
  have hb1 : Below w.heap.size w W1 := by rw [hW1]; exact (Below.refl _ w).alloc (Nat.le_refl _) _
  have HL := hide (fun w' (hb : Below W1.heap.size W1 w') => hl.below hb)
  have HF := hide (known6_From _ W1 hl)
  have HB1 := hide (fun w' (hb : Below W1.heap.size W1 w') => hb1.trans (hb.mono hb1.size))
  clear hl hb1
  subst hW1
  go_enter Try.func7, Try.ntmps7
  go_wp2_with fail
  go_at_call 14
  generalize w.alloc (.cells #[.int .i64 0, .int .i64 1, .int .i64 5, .int .i64 1, .int .i64 2, .int .i64 2, .int .i64 0, .int .i64 2, .int .i64 9] 28) = W1 at *
  refine (unhide HF).mono ?_
  rintro e w2 ⟨G, rfl, hd2, hb2⟩
  have HW := hide (known6_Way _ w2 (unhide HL _ hb2))
  have H2 := hide (And.intro hb2 hd2)
  clear hd2 hb2 HF
  go_wp2_with fail
  go_at_call 13
  refine (unhide HW).mono ?_
  rintro e w3 ⟨rv, rfl, hr3, hb3⟩
  have H3 := hide (And.intro ((unhide H2).1.trans (hb3.mono (unhide H2).1.size)) (And.intro ((unhide H2).2.below hb3) hr3))
  obtain ⟨ra, rc, rfl, -⟩ := hr3.form
  have HA := hide (known6_Any _ w3 (unhide HL _ (unhide H3).1))
  clear hr3 hb3 H2 HW
  go_wp2_with fail
  go_at_call 10
  refine (unhide HA).mono ?_
  rintro e w4 ⟨G4, rfl, he4, hb4⟩
  have H4 := hide (And.intro ((unhide H3).1.trans (hb4.mono (unhide H3).1.size)) (And.intro ((unhide H3).2.1.below hb4) (And.intro ((unhide H3).2.2.below hb4) he4)))
  have HO := hide (known6_One w4)
  clear he4 hb4 H3 HA
  go_wp2_with fail
  go_at_call 14
  refine (unhide HO).mono ?_
  rintro e w5 ⟨G5, rfl, ho5, hb5⟩
  have H5 := hide (And.intro ((unhide H4).1.trans (hb5.mono (unhide H4).1.size)) (And.intro ((unhide H4).2.1.below hb5) (And.intro ((unhide H4).2.2.1.below hb5) ((unhide H4).2.2.2.below hb5))))
  have hd5 := (unhide H5).2.1
  have hr5 := (unhide H5).2.2.1
  have k1 := ho5.cellA 0 (by decide)
  have k2 := hd5.cellA 2 (by decide)
  have k3 : ∃ b o, ra = some ⟨b, o, none⟩ ∧ w5.cell? ⟨b, o + 1, none⟩ = some (.int .i64 1) := by
    obtain ⟨a, c', e, -, -, H⟩ := hr5.allA
    obtain ⟨b', o', e2, -, h2⟩ := unhide H 1 (by decide)
    injection e with e1 _ _
    exact ⟨b', o', by rw [e1, e2], h2 w5 (Below.refl _ _)⟩
  obtain ⟨b3, o3, rfl, k3⟩ := k3
  have k1' : w5.cell? ⟨G5, 0, none⟩ = some (.int .i64 0) := k1
  have k2' : w5.cell? ⟨G, 2, none⟩ = some (.int .i64 7) := k2
  have hI0 : Calls Try.prog 11 #[.slice (some ⟨G, 0, none⟩) 3 3, .slice (some ⟨G4, 0, none⟩) 3 3] w5 fun e w' => e = .returned (.bool true) ∧ Below w5.heap.size w5 w' := by
    refine (ints6_any [0, 5, 7] [0, 5, 7] _ _ w5 (unhide H5).2.1 (unhide H5).2.2.2 (by decide)).mono ?_
    rintro e w' ⟨rfl, hb⟩
    exact ⟨by simp, hb⟩
  have HI := hide hI0
  clear hI0
  have HRt := hide (fun w' (hb : Below w5.heap.size w5 w') => known6_Right _ _ w' (unhide HL _ ((unhide H5).1.trans (hb.mono (unhide H5).1.size))) ((unhide H5).2.1.below hb))
  have HE := hide (fun w' (hb : Below w5.heap.size w5 w') => unhide HB1 _ ((unhide H5).1.trans (hb.mono (unhide H5).1.size)))
  clear hd5 hr5 k1 k2 ho5 hb5 HO H4 H5 HL HB1
  go_wp2_with fail
  go_at_call 11
  refine (unhide HI).mono ?_
  rintro e w6 ⟨rfl, hb6⟩
  have HR6 := hide (unhide HRt _ hb6)
  have HB6 := hide hb6
  clear hb6 HRt HI
  go_wp2_with fail
  go_at_call 12
  refine (unhide HR6).mono ?_
  rintro e w7 ⟨rfl, hb7⟩
  have HB7 := hide (unhide HE _ ((unhide HB6).trans (hb7.mono (unhide HB6).size)))
  clear hb7 HR6 HE
  go_wp2
  go_ret
  exact ⟨by rfl, unhide HB7⟩
end Go.Proofs.Ytlmlibhkloingab


/- Arcs that rise, tried in the order of their tails (P601: PathLow). -/
namespace Go.Proofs.Ytlmlibhkloingab
open Go Go.RowKit

/-- What stays while the arcs of the places below i, and of i the first j arcs of the row, have been tried. -/
structure Sp.Up6 (L : List Sp.Arc) (n i j : Nat) (D : Nat → Int) : Prop where
  att : Sp.Att 1152921504606846976 L 0 n D
  low : ∀ v, v < n → D v = 1152921504606846976 ∨ (-10 * ((v : Int)) ≤ D v ∧ D v ≤ 10 * (v : Int))
  done : ∀ k, k < L.length → ((L.getD k Sp.arc0).f < i ∨ ((L.getD k Sp.arc0).f = i ∧ k < j)) → D (L.getD k Sp.arc0).f ≠ 1152921504606846976 → D (L.getD k Sp.arc0).t ≠ 1152921504606846976 ∧ D (L.getD k Sp.arc0).t ≤ D (L.getD k Sp.arc0).f + (L.getD k Sp.arc0).l
/-- Arcs that rise, none long. -/
structure Sp.Rise (L : List Sp.Arc) (n : Nat) : Prop where
  few : L.length ≤ 1000
  at_ : ∀ a ∈ L, a.f < a.t ∧ a.t < n ∧ -10 ≤ a.l ∧ a.l ≤ 10
theorem Sp.Up6.start {L : List Sp.Arc} {n : Nat} (_hn : 0 < n) : Sp.Up6 L n 0 0 (Sp.d0 1152921504606846976 0) := by
  refine ⟨Sp.att0 (by decide), fun v _ => ?_, fun k _ h => ?_⟩
  · unfold Sp.d0
    by_cases e : v = 0
    · rw [if_pos e]; exact .inr ⟨by omega, by omega⟩
    · rw [if_neg e]; exact .inl rfl
  · rcases h with h | h
    · omega
    · exact absurd h.2 (by omega)
theorem Sp.Up6.skip {L : List Sp.Arc} {n i j : Nat} {D : Nat → Int} (h : Sp.Up6 L n i j D) (hs : (L.getD j Sp.arc0).f = i → D i = 1152921504606846976) : Sp.Up6 L n i (j + 1) D :=
  ⟨h.att, h.low, fun k hk hd hne => by
    by_cases e : k = j
    · subst e
      rcases hd with hd | hd
      · exact h.done k hk (.inl hd) hne
      · exact absurd (by rw [hd.1]; exact hs hd.1) hne
    · exact h.done k hk (hd.imp id (fun x => ⟨x.1, by omega⟩)) hne⟩
theorem Sp.Up6.take_ {L : List Sp.Arc} {n i j : Nat} {D : Nat → Int} (hn : n ≤ 1000) (hR : Sp.Rise L n) (h : Sp.Up6 L n i j D) (hj : j < L.length) (hi : (L.getD j Sp.arc0).f = i) (hne : D i ≠ 1152921504606846976) : Sp.Up6 L n i (j + 1) (Sp.upd D (L.getD j Sp.arc0).t (min (D (L.getD j Sp.arc0).t) (D i + (L.getD j Sp.arc0).l))) := by
  have hm := Sp.arc_mem hj
  obtain ⟨h1, h2, h3, h4⟩ := hR.at_ _ hm
  have hin : i < n := by omega
  have hl := (h.low i hin).resolve_left hne
  have hlt := h.low _ h2
  have e : Sp.rx 1152921504606846976 D (L.getD j Sp.arc0) = Sp.upd D (L.getD j Sp.arc0).t (min (D (L.getD j Sp.arc0).t) (D i + (L.getD j Sp.arc0).l)) := funext fun v => by
    unfold Sp.rx Sp.upd
    rw [hi]
    by_cases ev : v = (L.getD j Sp.arc0).t
    · rw [if_pos ev]
      by_cases hc : D i + (L.getD j Sp.arc0).l < D (L.getD j Sp.arc0).t
      · rw [if_pos ⟨ev, hne, hc⟩]; omega
      · rw [if_neg (fun hh => hc hh.2.2), ev]; omega
    · rw [if_neg ev, if_neg (fun hh => ev hh.1)]
  have hatt := h.att.rx (by decide) hm (by omega)
  rw [e] at hatt
  generalize hD' : Sp.upd D (L.getD j Sp.arc0).t (min (D (L.getD j Sp.arc0).t) (D i + (L.getD j Sp.arc0).l)) = D' at *
  have at_t : D' (L.getD j Sp.arc0).t = min (D (L.getD j Sp.arc0).t) (D i + (L.getD j Sp.arc0).l) := by rw [← hD', Sp.upd_same]
  have at_o : ∀ v, v ≠ (L.getD j Sp.arc0).t → D' v = D v := fun v hv => by rw [← hD', Sp.upd_other _ _ hv]
  refine ⟨hatt, fun v hv => ?_, fun k hk hd hk2 => ?_⟩
  · by_cases ev : v = (L.getD j Sp.arc0).t
    · subst ev
      rw [at_t]
      right
      rcases hlt with q | q <;> omega
    · rw [at_o v ev]; exact h.low v hv
  · have hmk := Sp.arc_mem hk
    obtain ⟨g1, g2, g3, g4⟩ := hR.at_ _ hmk
    have hf : (L.getD k Sp.arc0).f ≠ (L.getD j Sp.arc0).t := by rcases hd with hd | hd <;> omega
    rw [at_o _ hf] at hk2 ⊢
    by_cases ek : k = j
    · subst ek
      rw [at_t, hi]
      have := hlt
      refine ⟨by omega, by omega⟩
    · have h0 := h.done k hk (hd.imp id (fun x => ⟨x.1, by omega⟩)) hk2
      by_cases et : (L.getD k Sp.arc0).t = (L.getD j Sp.arc0).t
      · rw [et] at h0 ⊢
        rw [at_t]
        exact ⟨by rcases hlt with q | q <;> omega, by omega⟩
      · rw [at_o _ et]; exact h0
theorem Sp.Up6.next {L : List Sp.Arc} {n i : Nat} {D : Nat → Int} (h : Sp.Up6 L n i L.length D) : Sp.Up6 L n (i + 1) 0 D :=
  ⟨h.att, h.low, fun k hk hd hne => h.done k hk (by
    rcases hd with hd | hd
    · by_cases e : (L.getD k Sp.arc0).f = i
      · exact .inr ⟨e, hk⟩
      · exact .inl (by omega)
    · exact absurd hd.2 (by omega)) hne⟩
theorem Sp.Up6.end_ {L : List Sp.Arc} {n : Nat} {D : Nat → Int} (hR : Sp.Rise L n) (hn : 0 < n) (hn2 : n ≤ 1000) (h : Sp.Up6 L n n 0 D) : Sp.Short 1152921504606846976 L 0 n D ∧ ∀ v, v < n → D v ≠ 1152921504606846976 → D v < 1152921504606846976 := by
  have hd : ∀ a ∈ L, D a.f ≠ 1152921504606846976 → D a.t ≠ 1152921504606846976 ∧ D a.t ≤ D a.f + a.l := fun a ha hne => by
    obtain ⟨k, hk, e⟩ := List.mem_iff_getElem.1 ha
    have e2 : L.getD k Sp.arc0 = a := by rw [List.getD_eq_getElem?_getD, List.getElem?_eq_getElem hk]; exact e
    have h1 := hR.at_ a ha
    have := h.done k hk (by rw [e2]; exact .inl (by omega))
    rw [e2] at this
    exact this hne
  refine ⟨Sp.short_still hn h.att (fun a ha hne hlt => ?_) (fun a ha hne => ?_), fun v hv hne => ?_⟩
  · have := (hd a ha hne).2; omega
  · have h1 := hR.at_ a ha
    have := (h.low a.f (by omega)).resolve_left hne
    omega
  · have := (h.low v hv).resolve_left hne
    omega
theorem Sp.Rise.snd {L : List Sp.Arc} {n : Nat} (h : Sp.Rise L n) : Sp.Snd n L := ⟨h.few, fun a ha => by have := h.at_ a ha; omega⟩
end Go.Proofs.Ytlmlibhkloingab


