/- What the proof needs, part 6. -/
import Derived.Deep.RegionHeld3
import Derived.WalkMore
import Derived.Test.YtenffkplneimlabL5
/- Package tree: isVertex, sound. -/
namespace Go.Proofs.Ytenffkplneimlab
open Go Go.RowKit

set_option maxRecDepth 100000 in
set_option maxHeartbeats 1000000 in
theorem isVertex_any (q : Sp.Net) (v tv nv cv : Value) (x : Int) (w : World) (hv : NetI w v q tv nv cv) :
    Calls Try.prog 23 #[v, .int .i64 x] w fun e w' => e = .returned (.bool (decide (0 ≤ x ∧ x < q.n))) ∧ Below w.heap.size w w' := by
  obtain ⟨rfl, h1, h2, h3⟩ := hv
  obtain ⟨ta, tc, rfl, -, -⟩ := h1.form
  obtain ⟨na, nc, rfl, -, -⟩ := h2.form
  obtain ⟨ca, cc, rfl, -, -⟩ := h3.form
  have HB := hide ((Below.refl _ w).alloc (Nat.le_refl _) (.cells #[.int .i64 q.n, .slice ta q.tail.length tc, .slice na q.next.length nc, .slice ca q.cap.length cc] 25))
  clear h1 h2 h3
  by_cases h0 : 0 ≤ x
  · by_cases hn : x < q.n
    · have HR : Hid (decide (0 ≤ x ∧ x < q.n) = true) := hide (decide_eq_true ⟨h0, hn⟩)
      generalize decide (0 ≤ x ∧ x < q.n) = R at *
      go_enter Try.func23, Try.ntmps23
      go_wp2
      go_ret
      exact ⟨by rw [unhide HR]; rfl, unhide HB⟩
    · have HR : Hid (decide (0 ≤ x ∧ x < q.n) = false) := hide (decide_eq_false fun h => hn h.2)
      generalize decide (0 ≤ x ∧ x < q.n) = R at *
      go_enter Try.func23, Try.ntmps23
      go_wp2
      go_ret
      exact ⟨by rw [unhide HR]; rfl, unhide HB⟩
  · have HR : Hid (decide (0 ≤ x ∧ x < q.n) = false) := hide (decide_eq_false fun h => h0 h.1)
    generalize decide (0 ≤ x ∧ x < q.n) = R at *
    go_enter Try.func23, Try.ntmps23
    go_wp2
    go_ret
    exact ⟨by rw [unhide HR]; rfl, unhide HB⟩
set_option maxRecDepth 100000 in
set_option maxHeartbeats 1000000 in
theorem sound1_any (q : Sp.Net) (v tv nv cv : Value) (x : Int) (b : Nat) (w : World) (hv : NetI w v q tv nv cv) (hc : w.cell? ⟨b, 0, none⟩ = some (.int .i64 q.n) ∧ w.cell? ⟨b, 1, none⟩ = some tv ∧ w.cell? ⟨b, 2, none⟩ = some nv ∧ w.cell? ⟨b, 3, none⟩ = some cv) (hx : 0 ≤ x ∧ x < q.n) :
    Calls Try.prog 34 #[.int .i64 x, .pointer (some ⟨b, 0, none⟩)] w fun e w' => e = .returned (.bool false) ∧ Below w.heap.size w w' := by
  have HC := hide (isVertex_any q v tv nv cv x w hv)
  rw [decide_eq_true hx] at HC
  obtain ⟨rfl, -, -, -⟩ := hv
  obtain ⟨x0, x1, x2, x3⟩ := hc
  clear hx
  go_enter Try.func34, Try.ntmps34
  go_wp2_with fail
  go_at_call 23
  refine (unhide HC).mono ?_
  rintro e w2 ⟨rfl, hb2⟩
  have HB := hide hb2
  clear hb2 x0 x1 x2 x3
  go_wp2
  go_ret
  exact ⟨by rfl, unhide HB⟩
set_option maxRecDepth 100000 in
set_option maxHeartbeats 2000000 in
theorem indexSound_any (q : Sp.Net) (l : List Int) (v tv nv cv lv : Value) (b n : Nat) (w : World) (hv : NetI w v q tv nv cv) (hl : Ints w lv l) (hn : l.length = n) (h240 : n ≤ 1000) (hld : ∀ x ∈ l, 0 ≤ x ∧ x < q.n) (hb : b < w.heap.size)
    (hc : w.cell? ⟨b, 0, none⟩ = some (.int .i64 q.n) ∧ w.cell? ⟨b, 1, none⟩ = some tv ∧ w.cell? ⟨b, 2, none⟩ = some nv ∧ w.cell? ⟨b, 3, none⟩ = some cv) :
    Calls Try.prog 38 #[lv, .func (.func 34) #[] #[.pointer (some ⟨b, 0, none⟩)]] w fun e w' => e = .returned (.int .i64 (-1)) ∧ Below w.heap.size w w' := by
  obtain ⟨la, lc, rfl, -, -, HL⟩ := hl.allD
  rw [hn] at HL ⊢
  have HC : Hid (∀ w' j, Below w.heap.size w w' → j < n → Calls Try.prog 34 #[.int .i64 (l.getD j 0), .pointer (some ⟨b, 0, none⟩)] w' fun e w'' => e = .returned (.bool false) ∧ Below w'.heap.size w' w'') := hide fun w' j hw hj =>
    sound1_any q v tv nv cv (l.getD j 0) b w' (hv.below hw) ⟨(hw.cell hb).trans hc.1, (hw.cell hb).trans hc.2.1, (hw.cell hb).trans hc.2.2.1, (hw.cell hb).trans hc.2.2.2⟩ (hld _ (Sp.getD_mem (by rw [hn]; exact hj)))
  obtain ⟨P, hP⟩ : ∃ P : Ending → World → Prop, P = fun e w' => e = .returned (.int .i64 (-1)) ∧ Below w.heap.size w w' := ⟨_, rfl⟩
  rw [← hP]
  have HP := hide hP
  clear hP hl hv hld hc hn
  go_enter Try.func38, Try.ntmps38
  go_wp2
  go_loopg [8] n (fun g s8 wr => ∃ k : Nat, k + g = n ∧ s8 = .int .i64 (k : Int) ∧ Hid (Below w.heap.size w wr))
  case atStart => exact ⟨0, by omega, rfl, hide (Below.refl _ _)⟩
  case round =>
    obtain ⟨k, hk, rfl, HB⟩ := hrel
    cases gk with
    | zero =>
      obtain rfl : k = n := by omega
      go_wp2
      rw [unhide HP]
      exact ⟨by rfl, unhide HB⟩
    | succ g' =>
      have hlt : k < n := by omega
      have hltI : (k : Int) < (n : Int) := by omega
      obtain ⟨b', o, rfl, -, hcx⟩ := unhide HL k hlt
      have c1 := hcx wr (unhide HB)
      have HCl := hide (unhide HC wr k (unhide HB) hlt)
      generalize l.getD k 0 = z at *
      clear hcx
      go_wp2_with fail
      go_at_call 34
      refine (unhide HCl).mono ?_
      rintro e w2 ⟨rfl, hb2⟩
      have HB2 := hide ((unhide HB).trans (hb2.mono (unhide HB).size))
      clear hb2 HCl HB c1
      go_wp2
      go_roundg g'
      case rel => exact ⟨k + 1, by omega, by go_num, HB2⟩
      case measure => omega
set_option maxRecDepth 100000 in
set_option maxHeartbeats 1000000 in
theorem containsSound_any (q : Sp.Net) (l : List Int) (v tv nv cv lv : Value) (b n : Nat) (w : World) (hv : NetI w v q tv nv cv) (hl : Ints w lv l) (hn : l.length = n) (h240 : n ≤ 1000) (hld : ∀ x ∈ l, 0 ≤ x ∧ x < q.n) (hb : b < w.heap.size)
    (hc : w.cell? ⟨b, 0, none⟩ = some (.int .i64 q.n) ∧ w.cell? ⟨b, 1, none⟩ = some tv ∧ w.cell? ⟨b, 2, none⟩ = some nv ∧ w.cell? ⟨b, 3, none⟩ = some cv) :
    Calls Try.prog 33 #[lv, .func (.func 34) #[] #[.pointer (some ⟨b, 0, none⟩)]] w fun e w' => e = .returned (.bool false) ∧ Below w.heap.size w w' := by
  have HL := hide (indexSound_any q l v tv nv cv lv b n w hv hl hn h240 hld hb hc)
  clear hv hl hn hld hc
  go_enter Try.func33, Try.ntmps33
  go_wp2_with fail
  go_at_call 38
  refine (unhide HL).mono ?_
  rintro e w2 ⟨rfl, hb2⟩
  have HB := hide hb2
  clear hb2
  go_wp2
  go_ret
  exact ⟨by rfl, unhide HB⟩
set_option maxRecDepth 100000 in
set_option maxHeartbeats 2000000 in
theorem sound_any (q : Sp.Net) (v tv nv cv : Value) (w : World) (hv : NetI w v q tv nv cv) (hev : q.tail.length % 2 = 0) (h240 : q.tail.length ≤ 240) (hn : q.n ≤ ((q.tail.length / 2 : Nat) : Int) + 1) (hT : ∀ x ∈ q.tail, 0 ≤ x ∧ x < q.n) :
    Calls Try.prog 22 #[v] w fun e w' => e = .returned (.bool true) ∧ Below w.heap.size w w' := by
  have hv' := hv
  obtain ⟨rfl, h1, h2, h3⟩ := hv
  obtain ⟨ta, tc, rfl, -, -⟩ := h1.form
  obtain ⟨na, nc, rfl, -, -⟩ := h2.form
  obtain ⟨ca, cc, rfl, -, -⟩ := h3.form
  obtain ⟨W1, hW1⟩ : ∃ W1, W1 = w.alloc (.cells #[.int .i64 q.n, .slice ta q.tail.length tc, .slice na q.next.length nc, .slice ca q.cap.length cc] 25) := ⟨_, rfl⟩
  have HBX := hide (box_new w q.n (.slice ta q.tail.length tc) (.slice na q.next.length nc) (.slice ca q.cap.length cc))
  rw [← hW1] at HBX
  have hb1 : Below w.heap.size w W1 := by rw [hW1]; exact (Below.refl _ w).alloc (Nat.le_refl _) _
  have hs1 : W1.heap.size = w.heap.size + 1 := by rw [hW1]; simp
  obtain ⟨x0, x1, x2, x3, -⟩ := unhide HBX W1 (Below.refl _ _)
  have HC := hide (containsSound_any q q.tail _ _ _ _ (.slice ta q.tail.length tc) w.heap.size q.tail.length W1 (hv'.below hb1) (h1.below hb1) rfl (by omega) hT (by omega) ⟨x0, x1, x2, x3⟩)
  have HB : Hid (∀ w', Below W1.heap.size W1 w' → Below w.heap.size w w') := hide fun w' hb => hb1.trans (hb.mono (by omega))
  obtain ⟨m, hm⟩ : ∃ m, q.tail.length = 2 * m := ⟨q.tail.length / 2, by omega⟩
  have hdv : ((q.tail.length : Nat) : Int).tdiv 2 = (m : Int) := by
    rw [hm]
    have := Int.ofNat_tdiv (2 * m) 2
    rw [Nat.mul_div_cancel_left m (by decide)] at this
    exact this.symm
  have hml : IntKind.i64.wrap (2 * (m : Int)) = ((q.tail.length : Nat) : Int) := by rw [IntKind.wrap_i64]; omega
  have hmw : IntKind.i64.wrap (m : Int) = (m : Int) := by rw [IntKind.wrap_i64]; omega
  have hne : (((q.tail.length : Nat) : Int) != ((q.tail.length : Nat) : Int)) = false := by simp
  have had : IntKind.i64.wrap ((m : Int) + 1) = (m : Int) + 1 := by rw [IntKind.wrap_i64]; omega
  have hgt : ¬ (m : Int) + 1 < q.n := by omega
  have hgd : decide ((m : Int) + 1 < q.n) = false := decide_eq_false hgt
  clear hv' h1 h2 h3 hT hm hb1 hs1 hev
  subst hW1
  go_enter Try.func22, Try.ntmps22
  go_wp2_with fail
  go_at_call 33
  refine (unhide HC).mono ?_
  rintro e w2 ⟨rfl, hb2⟩
  have HB2 := hide (unhide HB _ hb2)
  clear hb2 x0 x1 x2 x3 HC
  go_wp2
  go_ret
  exact ⟨by rfl, unhide HB2⟩
end Go.Proofs.Ytenffkplneimlab


/- The reference's Left (P401). -/
namespace Go.Proofs.Ytenffkplneimlab
open Go Go.RowKit

/-- Is an edge's dart among the first j of the row? -/
def Sp.usedB (up : List Int) (d : Nat) : Nat → Bool
  | 0 => false
  | j + 1 => Sp.usedB up d j || up.getD j 0 == (d : Int) || up.getD j 0 == (d : Int) + 1
def Sp.leftGo (up : List Int) : Nat → Nat → List Int → List Int
  | 0, _, out => out
  | g + 1, e, out => if Sp.usedB up (2 * e) up.length = true then Sp.leftGo up g (e + 1) out else Sp.leftGo up g (e + 1) (out ++ [((2 * e : Nat) : Int)])
/-- The edges that are left. -/
def Sp.leftL (q : Sp.Net) (up : List Int) : List Int := Sp.leftGo up (q.tail.length / 2) 0 []
set_option maxRecDepth 100000 in
set_option maxHeartbeats 4000000 in
theorem left2_any (q : Sp.Net) (U : List Int) (v tv nv cv uv : Value) (w : World) (hv : NetI w v q tv nv cv) (hu : Ints w uv U) (hev : q.tail.length % 2 = 0) (h240 : q.tail.length ≤ 240) (hU : U.length ≤ 240) :
    Calls Try.prog 17 #[v, uv] w fun e w' => ∃ lv, e = .returned lv ∧ OwnI w' w.heap.size lv (Sp.leftL q U) ∧ Below w.heap.size w w' := by
  obtain ⟨rfl, h1, h2, h3⟩ := hv
  obtain ⟨ta, tc, rfl, -, -⟩ := h1.form
  obtain ⟨na, nc, rfl, -, -⟩ := h2.form
  obtain ⟨ca, cc, rfl, -, -⟩ := h3.form
  obtain ⟨ua, uc, rfl, -, -, HU⟩ := hu.allD
  clear h1 h2 h3 hu
  have HBX := hide (box_new w q.n (.slice ta q.tail.length tc) (.slice na q.next.length nc) (.slice ca q.cap.length cc))
  obtain ⟨W1, hW1⟩ : ∃ W1, W1 = w.alloc (.cells #[.int .i64 q.n, .slice ta q.tail.length tc, .slice na q.next.length nc, .slice ca q.cap.length cc] 25) := ⟨_, rfl⟩
  rw [← hW1] at HBX
  have hb1 : Below w.heap.size w W1 := by rw [hW1]; exact (Below.refl _ w).alloc (Nat.le_refl _) _
  have hs1 : W1.heap.size = w.heap.size + 1 := by rw [hW1]; simp
  have HW : Hid (∀ w', Below (w.heap.size + 1) W1 w' → Below w.heap.size w w') := hide fun w' hb => hb1.trans (hb.mono (by omega))
  obtain ⟨m, hm⟩ : ∃ m, q.tail.length = 2 * m := ⟨q.tail.length / 2, by omega⟩
  have HL : Hid (Sp.leftL q U = Sp.leftGo U m 0 []) := hide (by unfold Sp.leftL; rw [hm, Nat.mul_div_cancel_left m (by decide)])
  generalize Sp.leftL q U = R at *
  obtain ⟨P, hP⟩ : ∃ P : Ending → World → Prop, P = fun e w' => ∃ lv, e = .returned lv ∧ OwnI w' w.heap.size lv R ∧ Below w.heap.size w w' := ⟨_, rfl⟩
  rw [← hP]
  have HP := hide hP
  rw [hm] at HBX h240 hW1 ⊢
  have HB0 : Hid (Below (w.heap.size + 1) W1 W1 ∧ OwnI W1 (w.heap.size + 1) (.slice none 0 0) [] ∧ R = Sp.leftGo U m 0 []) := hide ⟨Below.refl _ _, ⟨by simp, .inl ⟨rfl, rfl⟩⟩, unhide HL⟩
  clear hP hm hev hb1 hs1 HL
  subst hW1
  go_enter Try.func17, Try.ntmps17
  go_wp2
  generalize w.alloc (.cells #[.int .i64 q.n, .slice ta (2 * m) tc, .slice na q.next.length nc, .slice ca q.cap.length cc] 25) = W1 at *
  go_loopg [5, 6] m (fun g s5 s6 wr => ∃ (e : Nat) (out : List Int) (oa : Option Addr) (oc : Nat), e + g = m ∧ out.length ≤ e ∧ s5 = .slice oa out.length oc ∧ s6 = .int .i64 ((2 * e : Nat) : Int) ∧ Hid (Below (w.heap.size + 1) W1 wr ∧ OwnI wr (w.heap.size + 1) (.slice oa out.length oc) out ∧ R = Sp.leftGo U g e out))
  case atStart => exact ⟨0, [], none, 0, by omega, by simp, rfl, rfl, HB0⟩
  case round =>
    clear HB0
    obtain ⟨e, out, oa, oc, heg, hol, rfl, rfl, HI⟩ := hrel
    obtain ⟨x0, x1, x2, x3, hszr⟩ := unhide HBX wr (unhide HI).1
    cases gk with
    | zero =>
      obtain rfl : e = m := by omega
      have hge : ¬ ((2 * e : Nat) : Int) < ((2 * e : Nat) : Int) := by omega
      have HF := hide (And.intro (own_base (unhide HI).2.1 (show w.heap.size ≤ w.heap.size + 1 by omega)) (unhide HW _ (unhide HI).1))
      have HR : Hid (R = out) := hide (unhide HI).2.2
      clear HI
      go_wp2
      rw [unhide HP]
      exact ⟨_, rfl, by rw [unhide HR]; exact (unhide HF).1, (unhide HF).2⟩
    | succ g' =>
      have hlt : 2 * e < 2 * m := by omega
      have hltI : ((2 * e : Nat) : Int) < ((2 * m : Nat) : Int) := by omega
      have HR : Hid (R = if Sp.usedB U (2 * e) U.length = true then Sp.leftGo U g' (e + 1) out else Sp.leftGo U g' (e + 1) (out ++ [((2 * e : Nat) : Int)])) := hide (unhide HI).2.2
      have HB := hide (And.intro (unhide HI).1 (unhide HI).2.1)
      have hw2 : IntKind.i64.wrap (((2 * e : Nat) : Int) + 2) = ((2 * (e + 1) : Nat) : Int) := by rw [IntKind.wrap_i64]; omega
      have hw1 : IntKind.i64.wrap (((2 * e : Nat) : Int) + 1) = ((2 * e : Nat) : Int) + 1 := by rw [IntKind.wrap_i64]; omega
      clear HI
      generalize hd2 : 2 * e = d2 at *
      have Hd2 := hide hd2
      clear hd2
      go_wp2
      clear x0 x1 x2 x3
      go_loopg [7, 8] U.length (fun g2 s7 s8 wr' => ∃ j : Nat, j + g2 = U.length ∧ s8 = .int .i64 (j : Int) ∧ s7 = .bool (Sp.usedB U d2 j) ∧ wr' = wr)
      case atStart => exact ⟨0, by omega, rfl, rfl, rfl⟩
      case round =>
        obtain ⟨j, hjg, rfl, rfl, hwr⟩ := hrel
        subst hwr
        cases gk with
        | succ g2 =>
          have hjl : j < U.length := by omega
          have hjI : (j : Int) < (U.length : Int) := by omega
          obtain ⟨b, o, rfl, -, hcx⟩ := unhide HU j hjl
          have c1 := hcx _ (unhide HW _ (unhide HB).1)
          have hs : Sp.usedB U d2 (j + 1) = (Sp.usedB U d2 j || U.getD j 0 == (d2 : Int) || U.getD j 0 == (d2 : Int) + 1) := rfl
          have HS := hide hs
          clear hcx hs
          generalize U.getD j 0 = z at *
          generalize Sp.usedB U d2 j = bj at *
          cases bj with
          | true =>
            go_wp2
            go_roundg g2
            case rel => exact ⟨j + 1, by omega, by go_num, by rw [unhide HS]; simp, rfl⟩
            case measure => omega
          | false =>
            by_cases hz1 : z = (d2 : Int)
            · have e1 : (z == (d2 : Int)) = true := by rw [hz1]; exact beq_self_eq_true _
              have HS2 : Hid (Sp.usedB U d2 (j + 1) = true) := hide (by rw [unhide HS, e1]; rfl)
              clear hz1
              go_wp2
              go_roundg g2
              case rel => exact ⟨j + 1, by omega, by go_num, by rw [unhide HS2], rfl⟩
              case measure => omega
            · have e1 : (z == (d2 : Int)) = false := beq_eq_false_iff_ne.2 hz1
              by_cases hz2 : z = (d2 : Int) + 1
              · have e2 : (z == (d2 : Int) + 1) = true := by rw [hz2]; exact beq_self_eq_true _
                have HS2 : Hid (Sp.usedB U d2 (j + 1) = true) := hide (by rw [unhide HS, e1, e2]; rfl)
                clear hz1 hz2
                go_wp2
                go_roundg g2
                case rel => exact ⟨j + 1, by omega, by go_num, by rw [unhide HS2], rfl⟩
                case measure => omega
              · have e2 : (z == (d2 : Int) + 1) = false := beq_eq_false_iff_ne.2 hz2
                have HS2 : Hid (Sp.usedB U d2 (j + 1) = false) := hide (by rw [unhide HS, e1, e2]; rfl)
                clear hz1 hz2
                go_wp2
                go_roundg g2
                case rel => exact ⟨j + 1, by omega, by go_num, by rw [unhide HS2], rfl⟩
                case measure => omega
        | zero =>
          obtain rfl : j = U.length := by omega
          generalize Sp.usedB U d2 U.length = bj at *
          cases bj with
          | true =>
            have HR2 : Hid (R = Sp.leftGo U g' (e + 1) out) := hide (by rw [unhide HR, if_pos (by simp)])
            go_wp2
            go_roundg g'
            case rel => exact ⟨e + 1, out, oa, oc, by omega, by omega, rfl, by congr 1 <;> omega, hide ⟨(unhide HB).1, (unhide HB).2, unhide HR2⟩⟩
            case measure => omega
          | false =>
            have HR2 : Hid (R = Sp.leftGo U g' (e + 1) (out ++ [(d2 : Int)])) := hide (by rw [unhide HR, if_neg (by simp)])
            go_wp2_with (at_builtin; refine wpList_app (w := wr.alloc (.cells #[.int .i64 (d2 : Int)] 3)) rfl _ _ rfl (w.heap.size + 1) _ _ out [(d2 : Int)] rfl rfl (World.ownsRow.alloc (unhide HB).2 _) (OwnI.ints (own_lit wr 0 _ 1 [(d2 : Int)] rfl rfl (by omega) (by simp))) (out.length + 1) (by simp) (by omega) (by simp; omega) ?_)
            intro a6 c6 w6 hown6 hb6 hgr6
            have hb6' : Below (w.heap.size + 1) W1 w6 := ((unhide HB).1.alloc hszr _).trans hb6
            have hl6 : (out ++ [(d2 : Int)]).length = out.length + 1 := by simp
            have HO6 := hide hown6
            clear hgr6 hb6 hown6 HB
            go_wp2
            go_roundg g'
            case rel => exact ⟨e + 1, out ++ [(d2 : Int)], a6, c6, by omega, by omega, by rw [hl6], by congr 1 <;> omega, hide ⟨hb6', by rw [hl6]; exact unhide HO6, unhide HR2⟩⟩
            case measure => omega
end Go.Proofs.Ytenffkplneimlab


/- The reference's Way (P401). -/
namespace Go.Proofs.Ytenffkplneimlab
open Go Go.RowKit

/-- The way from v on, g steps at most. -/
def Sp.wayGo (T up : List Int) : Nat → Nat → List Int → Option (List Int)
  | 0, v, out => if 0 ≤ up.getD v 0 then none else some out
  | g + 1, v, out => if 0 ≤ up.getD v 0 then Sp.wayGo T up g (T.getD (Sp.oth (up.getD v 0).toNat) 0).toNat (out ++ [up.getD v 0]) else some out
theorem Sp.wayGo_neg (T up : List Int) (g v : Nat) (out : List Int) (h : ¬ 0 ≤ up.getD v 0) : Sp.wayGo T up g v out = some out := by
  cases g <;> rw [Sp.wayGo, if_neg h]
end Go.Proofs.Ytenffkplneimlab


/- The reference's Right (P401). -/
namespace Go.Proofs.Ytenffkplneimlab
open Go Go.RowKit

/-- Each vertex but the root has a dart of its own. -/
def Sp.edgesGo (T up : List Int) (root : Int) : Nat → Nat → Bool
  | 0, _ => true
  | g + 1, v => if (v : Int) = root ∨ (0 ≤ up.getD v 0 ∧ up.getD v 0 < (T.length : Int) ∧ T.getD (up.getD v 0).toNat 0 = (v : Int)) then Sp.edgesGo T up root g (v + 1) else false
/-- Is the root come to from w, in g steps at most? -/
def Sp.reachGo (T up : List Int) (root : Int) : Nat → Nat → Bool
  | 0, w => decide ((w : Int) = root)
  | g + 1, w => if (w : Int) = root then true else Sp.reachGo T up root g (T.getD (Sp.oth (up.getD w 0).toNat) 0).toNat
def Sp.chainsGo (T up : List Int) (root : Int) (N : Nat) : Nat → Nat → Bool
  | 0, _ => true
  | g + 1, v => if Sp.reachGo T up root (N + 1) v = true then Sp.chainsGo T up root N g (v + 1) else false
/-- Right (P401). -/
def Sp.rightB (q : Sp.Net) (up : List Int) (root : Int) : Bool :=
  decide ((up.length : Int) = q.n ∧ 0 ≤ root ∧ root < q.n ∧ up.getD root.toNat 0 = -1) && (Sp.edgesGo q.tail up root q.n.toNat 0 && Sp.chainsGo q.tail up root q.n.toNat q.n.toNat 0)
end Go.Proofs.Ytenffkplneimlab


/- Package tree: leaves. -/
namespace Go.Proofs.Ytenffkplneimlab
open Go Go.RowKit

set_option maxRecDepth 100000 in
set_option maxHeartbeats 4000000 in
theorem leaves_any (q : Sp.Net) (U : List Int) (r N : Nat) (v tv nv cv uv : Value) (w : World) (hv : NetI w v q tv nv cv) (hu : Ints w uv U) (hN : q.n = (N : Int)) (hN2 : N ≤ 1000) (hr : r < N) (_h240 : q.tail.length ≤ 240) :
    Calls Try.prog 30 #[v, uv, .int .i64 (r : Int)] w fun e w' => e = .returned (.bool (decide (U.length = N) && (decide (U.getD r 0 = -1) && Sp.edgesGo q.tail U (r : Int) N 0))) ∧ Below w.heap.size w w' := by
  obtain ⟨rfl, h1, h2, h3⟩ := hv
  obtain ⟨ta, tc, rfl, -, -, HT⟩ := h1.allD
  obtain ⟨na, nc, rfl, -, -⟩ := h2.form
  obtain ⟨ca, cc, rfl, -, -⟩ := h3.form
  obtain ⟨ua, uc, rfl, -, -, HU⟩ := hu.allD
  clear h1 h2 h3 hu
  rw [hN]
  obtain ⟨x0, x1, x2, x3, -⟩ := box_new w (N : Int) (.slice ta q.tail.length tc) (.slice na q.next.length nc) (.slice ca q.cap.length cc) _ (Below.refl _ _)
  have hb1 : Below w.heap.size w (w.alloc (.cells #[.int .i64 (N : Int), .slice ta q.tail.length tc, .slice na q.next.length nc, .slice ca q.cap.length cc] 25)) := (Below.refl _ w).alloc (Nat.le_refl _) _
  have HF := hide hb1
  obtain ⟨P, hP⟩ : ∃ P : Ending → World → Prop, P = fun e w' => e = .returned (.bool (decide (U.length = N) && (decide (U.getD r 0 = -1) && Sp.edgesGo q.tail U (r : Int) N 0))) ∧ Below w.heap.size w w' := ⟨_, rfl⟩
  rw [← hP]
  have HP := hide hP
  clear hP hb1
  by_cases hl : U.length = N
  · have hrl : r < U.length := by omega
    obtain ⟨b, o, rfl, -, hcx⟩ := unhide HU r hrl
    have c1 := hcx _ (unhide HF)
    clear hcx
    have hrI : (r : Int) < (N : Int) := by omega
    have eL : ((N : Int) == (N : Int)) = true := beq_self_eq_true _
    have HU2 : Hid (∀ k, k < N → (w.alloc (.cells #[.int .i64 (N : Int), .slice ta q.tail.length tc, .slice na q.next.length nc, .slice ca q.cap.length cc] 25)).cell? ⟨b, o + k, none⟩ = some (.int .i64 (U.getD k 0))) := hide fun k hk => by
      obtain ⟨b', o', e1, -, h'⟩ := unhide HU k (by omega)
      injection e1 with e1
      injection e1 with e1 e2
      subst e1 e2
      exact h' _ (unhide HF)
    have HT2 : Hid (∀ k, k < q.tail.length → ∃ tb tt, ta = some ⟨tb, tt, none⟩ ∧ (w.alloc (.cells #[.int .i64 (N : Int), .slice ta q.tail.length tc, .slice na q.next.length nc, .slice ca q.cap.length cc] 25)).cell? ⟨tb, tt + k, none⟩ = some (.int .i64 (q.tail.getD k 0))) := hide fun k hk => by
      obtain ⟨b', o', e1, -, h'⟩ := unhide HT k hk
      exact ⟨b', o', e1, h' _ (unhide HF)⟩
    have HPL : Hid (decide (U.length = N) = true) := hide (decide_eq_true hl)
    clear HU HT hrl
    rw [hl]
    by_cases hz : U.getD r 0 = -1
    · have HPZ := hide (decide_eq_true hz)
      rw [hz] at c1
      clear hz
      obtain ⟨E, hE⟩ : ∃ E, E = Sp.edgesGo q.tail U (r : Int) N 0 := ⟨_, rfl⟩
      rw [← hE] at HP
      have HE := hide hE
      clear hE
      go_enter Try.func30, Try.ntmps30
      go_wp2
      generalize w.alloc (.cells #[.int .i64 (N : Int), .slice ta q.tail.length tc, .slice na q.next.length nc, .slice ca q.cap.length cc] 25) = W1 at *
      go_loopg [23] N (fun g s23 wr => ∃ v : Nat, v + g = N ∧ s23 = .int .i64 (v : Int) ∧ wr = W1 ∧ Hid (E = Sp.edgesGo q.tail U (r : Int) g v))
      case atStart => exact ⟨0, by omega, rfl, rfl, HE⟩
      case round =>
        clear HE c1
        obtain ⟨v, hvg, rfl, rfl, HI⟩ := hrel
        cases gk with
        | zero =>
          obtain rfl : v = N := by omega
          have HE : Hid (E = true) := hide (unhide HI)
          have hge : ¬ (v : Int) < (v : Int) := by omega
          clear HI
          go_wp2
          rw [unhide HP, unhide HPL, unhide HPZ, unhide HE]
          exact ⟨rfl, unhide HF⟩
        | succ g' =>
          have hlt : v < N := by omega
          have hltI : (v : Int) < (N : Int) := by omega
          have c1 := unhide HU2 v hlt
          have HR : Hid (E = if (v : Int) = (r : Int) ∨ (0 ≤ U.getD v 0 ∧ U.getD v 0 < (q.tail.length : Int) ∧ q.tail.getD (U.getD v 0).toNat 0 = (v : Int)) then Sp.edgesGo q.tail U (r : Int) g' (v + 1) else false) := hide (unhide HI)
          clear HI
          by_cases h1 : v = r
          · have HR2 : Hid (E = Sp.edgesGo q.tail U (r : Int) g' (v + 1)) := hide (by rw [unhide HR, if_pos (.inl (by rw [h1]))])
            clear HR
            subst h1
            generalize U.getD v 0 = z at *
            go_wp2
            go_roundg g'
            case rel => exact ⟨v + 1, by omega, by go_num, rfl, HR2⟩
            case measure => omega
          · have h1I : (v : Int) ≠ (r : Int) := by omega
            have e1 : ((v : Int) == (r : Int)) = false := beq_eq_false_iff_ne.2 h1I
            have eb : ((v : Int) != (r : Int)) = true := by simp only [bne, e1]; rfl
            have e2 : (v == r) = false := beq_eq_false_iff_ne.2 h1
            generalize U.getD v 0 = z at *
            by_cases h2 : z < 0
            · have HR2 : Hid (E = false) := hide (by rw [unhide HR, if_neg (by rintro (h | h) <;> omega)])
              clear HR
              go_wp2
              rw [unhide HP, unhide HPL, unhide HPZ, unhide HR2]
              exact ⟨rfl, unhide HF⟩
            · by_cases h3 : (q.tail.length : Int) ≤ z
              · have HR2 : Hid (E = false) := hide (by rw [unhide HR, if_neg (by rintro (h | h) <;> omega)])
                clear HR
                go_wp2
                rw [unhide HP, unhide HPL, unhide HPZ, unhide HR2]
                exact ⟨rfl, unhide HF⟩
              · obtain ⟨d, rfl⟩ : ∃ d : Nat, z = (d : Int) := ⟨z.toNat, by omega⟩
                rw [Int.toNat_natCast] at HR
                have hdl : d < q.tail.length := by omega
                have hdI : (d : Int) < (q.tail.length : Int) := by omega
                obtain ⟨tb, tt, rfl, ct⟩ := unhide HT2 d hdl
                generalize q.tail.getD d 0 = t at *
                by_cases h4 : t = (v : Int)
                · have HR2 : Hid (E = Sp.edgesGo q.tail U (r : Int) g' (v + 1)) := hide (by rw [unhide HR, if_pos (.inr ⟨by omega, hdI, h4⟩)])
                  clear HR
                  subst h4
                  go_wp2
                  go_roundg g'
                  case rel => exact ⟨v + 1, by omega, by go_num, rfl, HR2⟩
                  case measure => omega
                · have HR2 : Hid (E = false) := hide (by rw [unhide HR, if_neg (fun h => h.elim h1I (fun h => h4 h.2.2))])
                  have e4 : (t == (v : Int)) = false := beq_eq_false_iff_ne.2 h4
                  have eb4 : (t != (v : Int)) = true := by simp only [bne, e4]; rfl
                  clear HR
                  go_wp2
                  rw [unhide HP, unhide HPL, unhide HPZ, unhide HR2]
                  exact ⟨rfl, unhide HF⟩
    · have HPZ := hide (decide_eq_false hz)
      have ez : (U.getD r 0 == -1) = false := beq_eq_false_iff_ne.2 hz
      clear HU2 HT2 hz
      generalize U.getD r 0 = z at *
      go_enter Try.func30, Try.ntmps30
      go_wp2
      rw [unhide HP, unhide HPL, unhide HPZ]
      exact ⟨rfl, unhide HF⟩
  · have HPL : Hid (decide (U.length = N) = false) := hide (decide_eq_false hl)
    have eL : ((U.length : Int) == (N : Int)) = false := beq_eq_false_iff_ne.2 (by omega)
    have eL2 : (U.length == N) = false := beq_eq_false_iff_ne.2 hl
    clear HU HT
    go_enter Try.func30, Try.ntmps30
    go_wp2
    rw [unhide HP, unhide HPL]
    exact ⟨rfl, unhide HF⟩
end Go.Proofs.Ytenffkplneimlab


/- Ways up: who comes to the root; a way that meets a vertex twice goes round (P401). -/
namespace Go.Proofs.Ytenffkplneimlab
open Go Go.RowKit

/-- Where a vertex's dart leads. -/
def Sp.nx (T up : List Int) (x : Nat) : Nat := (T.getD (Sp.oth (up.getD x 0).toNat) 0).toNat
/-- In m steps from x to y, none of them from the root. -/
def Sp.Stp (T up : List Int) (root : Int) : Nat → Nat → Nat → Prop
  | 0, x, y => x = y
  | m + 1, x, y => (x : Int) ≠ root ∧ Sp.Stp T up root m (Sp.nx T up x) y
/-- The root is come to. -/
def Sp.Rc (T up : List Int) (root : Int) (x : Nat) : Prop := ∃ g, Sp.reachGo T up root g x = true
theorem Sp.reach_succ (T up : List Int) (root : Int) (g x : Nat) : Sp.reachGo T up root (g + 1) x = if (x : Int) = root then true else Sp.reachGo T up root g (Sp.nx T up x) := rfl
theorem Sp.reach_mono (T up : List Int) (root : Int) : ∀ g x, Sp.reachGo T up root g x = true → Sp.reachGo T up root (g + 1) x = true
  | 0, x, h => by
    rw [Sp.reach_succ, if_pos (of_decide_eq_true h)]
  | g + 1, x, h => by
    rw [Sp.reach_succ] at h ⊢
    split
    · rfl
    · rename_i hx
      rw [if_neg hx] at h
      exact Sp.reach_mono T up root g _ h
theorem Sp.reach_le (T up : List Int) (root : Int) {g g' x : Nat} (h : Sp.reachGo T up root g x = true) (hg : g ≤ g') : Sp.reachGo T up root g' x = true := by
  induction hg with
  | refl => exact h
  | step _ ih => exact Sp.reach_mono _ _ _ _ _ ih
theorem Sp.Stp.reach {T up : List Int} {root : Int} : ∀ {m x y : Nat}, Sp.Stp T up root m x y → ∀ g, Sp.reachGo T up root (g + m) x = Sp.reachGo T up root g y
  | 0, x, y, h, g => by rw [show x = y from h]; rfl
  | m + 1, x, y, h, g => by
    rw [show g + (m + 1) = (g + m) + 1 by omega, Sp.reach_succ, if_neg h.1]
    exact Sp.Stp.reach h.2 g
theorem Sp.Stp.snoc {T up : List Int} {root : Int} : ∀ {m x y : Nat}, Sp.Stp T up root m x y → (y : Int) ≠ root → Sp.Stp T up root (m + 1) x (Sp.nx T up y)
  | 0, x, y, h, hy => by
    obtain rfl : x = y := h
    exact ⟨hy, rfl⟩
  | m + 1, x, y, h, hy => ⟨h.1, Sp.Stp.snoc h.2 hy⟩
theorem Sp.Stp.rc {T up : List Int} {root : Int} {m x y : Nat} (h : Sp.Stp T up root m x y) : Sp.Rc T up root x ↔ Sp.Rc T up root y := by
  constructor
  · rintro ⟨g, hg⟩
    exact ⟨g, by rw [← h.reach]; exact Sp.reach_le _ _ _ hg (by omega)⟩
  · rintro ⟨g, hg⟩
    exact ⟨g + m, by rw [h.reach]; exact hg⟩
/-- What comes round does not come to the root. -/
theorem Sp.Stp.round {T up : List Int} {root : Int} {m x : Nat} (h : Sp.Stp T up root (m + 1) x x) : ¬ Sp.Rc T up root x := by
  rintro ⟨g, hg⟩
  induction g using Nat.strongRecOn with
  | ind g ih =>
    rcases Nat.lt_or_ge g (m + 1) with h1 | h1
    · have := Sp.reach_le _ _ _ hg (show g ≤ 0 + (m + 1) by omega)
      rw [h.reach] at this
      exact h.1 (of_decide_eq_true this)
    · have e := h.reach (g - (m + 1))
      rw [Nat.sub_add_cancel h1] at e
      exact ih (g - (m + 1)) (by omega) (by rw [← e]; exact hg)
theorem Sp.rc_root (T up : List Int) {root : Int} {x : Nat} (h : (x : Int) = root) : Sp.Rc T up root x := ⟨0, decide_eq_true h⟩
theorem Sp.rc_next {T up : List Int} {root : Int} {x : Nat} (h : (x : Int) ≠ root) : Sp.Rc T up root x ↔ Sp.Rc T up root (Sp.nx T up x) := Sp.Stp.rc (m := 1) ⟨h, rfl⟩
/-- The vertices of a way. -/
def Sp.pl (T up : List Int) : Nat → Nat → List Int
  | 0, x => [(x : Int)]
  | g + 1, x => (x : Int) :: Sp.pl T up g (Sp.nx T up x)
theorem Sp.pl_len (T up : List Int) : ∀ g x, (Sp.pl T up g x).length = g + 1
  | 0, _ => rfl
  | g + 1, x => by simp only [Sp.pl, List.length_cons, Sp.pl_len T up g]
/-- The first number of steps by which the root is come to. -/
def Sp.Mn (T up : List Int) (root : Int) (g x : Nat) : Prop := Sp.reachGo T up root g x = true ∧ ∀ g', g' < g → Sp.reachGo T up root g' x = false
theorem Sp.Mn.next {T up : List Int} {root : Int} {g x : Nat} (h : Sp.Mn T up root (g + 1) x) : (x : Int) ≠ root ∧ Sp.Mn T up root g (Sp.nx T up x) := by
  have hx : (x : Int) ≠ root := fun e => by
    have := h.2 0 (by omega)
    rw [show Sp.reachGo T up root 0 x = true from decide_eq_true e] at this
    cases this
  refine ⟨hx, ?_, fun g' hg' => ?_⟩
  · have := h.1
    rw [Sp.reach_succ, if_neg hx] at this
    exact this
  · have := h.2 (g' + 1) (by omega)
    rw [Sp.reach_succ, if_neg hx] at this
    exact this
theorem Sp.pl_mem {T up : List Int} {root : Int} : ∀ {g x : Nat}, Sp.Mn T up root g x → ∀ z ∈ Sp.pl T up g x, ∃ (g' y : Nat), z = (y : Int) ∧ g' ≤ g ∧ Sp.reachGo T up root g' y = true
  | 0, x, h, z, hz => by
    simp [Sp.pl] at hz
    exact ⟨0, x, hz, Nat.le_refl _, h.1⟩
  | g + 1, x, h, z, hz => by
    rcases List.mem_cons.1 hz with hz | hz
    · exact ⟨g + 1, x, hz, Nat.le_refl _, h.1⟩
    · obtain ⟨g', y, a, b, c⟩ := Sp.pl_mem h.next.2 z hz
      exact ⟨g', y, a, by omega, c⟩
theorem Sp.pl_nodup {T up : List Int} {root : Int} : ∀ {g x : Nat}, Sp.Mn T up root g x → (Sp.pl T up g x).Nodup
  | 0, x, _ => by simp [Sp.pl]
  | g + 1, x, h => by
    refine List.nodup_cons.2 ⟨fun hm => ?_, Sp.pl_nodup h.next.2⟩
    obtain ⟨g', y, a, b, c⟩ := Sp.pl_mem h.next.2 _ hm
    have : y = x := by omega
    subst this
    have := h.2 g' (by omega)
    rw [c] at this
    cases this
theorem Sp.pl_bd {T up : List Int} {N : Nat} (hT : ∀ y, y < N → (Sp.nx T up y) < N) : ∀ g x, x < N → ∀ z ∈ Sp.pl T up g x, 0 ≤ z ∧ z < (N : Int)
  | 0, x, hx, z, hz => by simp [Sp.pl] at hz; omega
  | g + 1, x, hx, z, hz => by
    rcases List.mem_cons.1 hz with hz | hz
    · omega
    · exact Sp.pl_bd hT g _ (hT x hx) z hz
theorem Sp.Rc.least {T up : List Int} {root : Int} {x : Nat} (h : Sp.Rc T up root x) : ∃ g, Sp.Mn T up root g x := by
  obtain ⟨g, hg⟩ := h
  induction g using Nat.strongRecOn with
  | ind g ih =>
    by_cases hm : ∃ g', g' < g ∧ Sp.reachGo T up root g' x = true
    · obtain ⟨g', h1, h2⟩ := hm
      exact ih g' h1 h2
    · exact ⟨g, hg, fun g' h1 => by
        cases h2 : Sp.reachGo T up root g' x with
        | false => rfl
        | true => exact absurd ⟨g', h1, h2⟩ hm⟩
/-- Who comes to the root at all comes there in as many steps as there are vertices. -/
theorem Sp.Rc.soon {T up : List Int} {root : Int} {N x : Nat} (hT : ∀ y, y < N → (Sp.nx T up y) < N) (hx : x < N) (h : Sp.Rc T up root x) : Sp.reachGo T up root (N + 1) x = true := by
  obtain ⟨g, hg⟩ := h.least
  have := nodup_le N _ (Sp.pl_nodup hg) (Sp.pl_bd hT g x hx)
  rw [Sp.pl_len] at this
  exact Sp.reach_le _ _ _ hg.1 (by omega)
theorem Sp.chains_iff {T up : List Int} {root : Int} {N : Nat} (hT : ∀ y, y < N → (Sp.nx T up y) < N) : ∀ g v, v + g = N → (Sp.chainsGo T up root N g v = true ↔ ∀ x, v ≤ x → x < N → Sp.Rc T up root x)
  | 0, v, h => by
    simp only [Sp.chainsGo, true_iff]
    intro x h1 h2
    omega
  | g + 1, v, h => by
    rw [Sp.chainsGo]
    by_cases hr : Sp.reachGo T up root (N + 1) v = true
    · rw [if_pos hr, Sp.chains_iff hT g (v + 1) (by omega)]
      constructor
      · intro hh x h1 h2
        by_cases hxv : x = v
        · rw [hxv]; exact ⟨_, hr⟩
        · exact hh x (by omega) h2
      · intro hh x h1 h2
        exact hh x (by omega) h2
    · rw [if_neg hr]
      constructor
      · intro hh; cases hh
      · intro hh
        exact absurd ((hh v (Nat.le_refl _) (by omega)).soon hT (by omega)) hr
end Go.Proofs.Ytenffkplneimlab


/- Package tree: Right. -/
namespace Go.Proofs.Ytenffkplneimlab
open Go Go.RowKit

theorem count_mark : ∀ (l : List Int) (i : Nat) (v : Int), i < l.length → l.getD i 0 = -1 → v ≠ -1 → (l.set i v).count (-1) + 1 = l.count (-1)
  | [], i, v, h, _, _ => by simp at h
  | a :: l, 0, v, _, h, hv => by
    have : a = -1 := h
    subst this
    rw [List.set_cons_zero, List.count_cons_of_ne (by omega), List.count_cons_self]
  | a :: l, i + 1, v, hi, h, hv => by
    have ih := count_mark l i v (by simpa using hi) h hv
    rw [List.set_cons_succ, List.count_cons, List.count_cons]
    omega
/-- What the ways gone so far have left; v: the vertex that is gone up from, at: where it stands. -/
structure Sp.ByI (T up : List Int) (root : Int) (N v : Nat) (L : List Int) (C : Nat → Prop) : Prop where
  len : L.length = N
  mark : ∀ x, x < N → L.getD x 0 ≠ -1 → (0 ≤ L.getD x 0 ∧ L.getD x 0 < (v : Int) ∧ Sp.Rc T up root x) ∨ (L.getD x 0 = (v : Int) ∧ C x)
  all : ∀ y, y < v → Sp.Rc T up root y
/-- The way from v is done: it comes to where one comes to the root. -/
theorem Sp.ByI.done {T up : List Int} {root : Int} {N v t : Nat} {L : List Int} (h : Sp.ByI T up root N v L (fun x => ∃ m, Sp.Stp T up root (m + 1) x t)) (ht : Sp.Rc T up root t) (hv : ∃ m, Sp.Stp T up root m v t) : Sp.ByI T up root N (v + 1) L (fun _ => False) := by
  refine ⟨h.len, fun x hx hne => .inl ?_, fun y hy => ?_⟩
  · rcases h.mark x hx hne with ⟨a, b, c⟩ | ⟨a, m, b⟩
    · exact ⟨a, by omega, c⟩
    · exact ⟨by omega, by omega, b.rc.2 ht⟩
  · by_cases hyv : y = v
    · obtain ⟨m, b⟩ := hv
      rw [hyv]; exact b.rc.2 ht
    · exact h.all y (by omega)
/-- A vertex is marked, and gone on from. -/
theorem Sp.ByI.on {T up : List Int} {root : Int} {N v t : Nat} {L : List Int} (h : Sp.ByI T up root N v L (fun x => ∃ m, Sp.Stp T up root (m + 1) x t)) (ht : t < N) (hr : (t : Int) ≠ root) : Sp.ByI T up root N v (L.set t (v : Int)) (fun x => ∃ m, Sp.Stp T up root (m + 1) x (Sp.nx T up t)) := by
  refine ⟨by rw [List.length_set]; exact h.len, fun x hx hne => ?_, h.all⟩
  have hl := h.len
  rw [getD_set1 _ _ _ _ (by omega)] at hne ⊢
  by_cases hxt : t = x
  · rw [if_pos hxt]
    subst hxt
    exact .inr ⟨rfl, 0, hr, rfl⟩
  · rw [if_neg hxt] at hne ⊢
    rcases h.mark x hx hne with a | ⟨a, m, b⟩
    · exact .inl a
    · exact .inr ⟨a, m + 1, b.snoc hr⟩
theorem Sp.edges_all (T up : List Int) (root : Int) : ∀ g v, Sp.edgesGo T up root g v = true → ∀ x, v ≤ x → x < v + g → (x : Int) ≠ root → 0 ≤ up.getD x 0 ∧ up.getD x 0 < (T.length : Int)
  | 0, v, _, x, h1, h2, _ => by omega
  | g + 1, v, h, x, h1, h2, h3 => by
    rw [Sp.edgesGo] at h
    split at h
    · rename_i hc
      by_cases hxv : x = v
      · subst hxv
        rcases hc with hc | hc
        · exact absurd hc h3
        · exact ⟨hc.1, hc.2.1⟩
      · exact Sp.edges_all T up root g (v + 1) h x (by omega) (by omega) h3
    · cases h
set_option maxRecDepth 100000 in
set_option maxHeartbeats 8000000 in
theorem right_any (q : Sp.Net) (U : List Int) (root : Int) (N : Nat) (v tv nv cv uv : Value) (w : World) (hv : NetI w v q tv nv cv) (hu : Ints w uv U) (hev : q.tail.length % 2 = 0) (h240 : q.tail.length ≤ 240) (hN : q.n = (N : Int)) (hN2 : N ≤ 60) (hn : q.n ≤ ((q.tail.length / 2 : Nat) : Int) + 1) (hT : ∀ x ∈ q.tail, 0 ≤ x ∧ x < q.n) :
    Calls Try.prog 15 #[v, uv, .int .i64 root] w fun e w' => e = .returned (.bool (Sp.rightB q U root)) ∧ Below w.heap.size w w' := by
  have hv' := hv
  have hu' := hu
  obtain ⟨rfl, h1, h2, h3⟩ := hv
  obtain ⟨ta, tc, rfl, -, -⟩ := h1.form
  obtain ⟨na, nc, rfl, -, -⟩ := h2.form
  obtain ⟨ca, cc, rfl, -, -⟩ := h3.form
  obtain ⟨ua, uc, rfl, -, -, HU⟩ := hu.allD
  clear h1 h2 h3 hu
  have HBX := hide (box_new w q.n (.slice ta q.tail.length tc) (.slice na q.next.length nc) (.slice ca q.cap.length cc))
  obtain ⟨W1, hW1⟩ : ∃ W1, W1 = w.alloc (.cells #[.int .i64 q.n, .slice ta q.tail.length tc, .slice na q.next.length nc, .slice ca q.cap.length cc] 25) := ⟨_, rfl⟩
  rw [← hW1] at HBX
  have hb1 : Below w.heap.size w W1 := by rw [hW1]; exact (Below.refl _ w).alloc (Nat.le_refl _) _
  have hs1 : W1.heap.size = w.heap.size + 1 := by rw [hW1]; simp
  have HW : Hid (∀ w', Below (w.heap.size + 1) W1 w' → Below w.heap.size w w') := hide fun w' hb => hb1.trans (hb.mono (by omega))
  have HV : Hid (∀ w', Below (w.heap.size + 1) W1 w' → NetI w' (.agg #[.int .i64 q.n, .slice ta q.tail.length tc, .slice na q.next.length nc, .slice ca q.cap.length cc]) q (.slice ta q.tail.length tc) (.slice na q.next.length nc) (.slice ca q.cap.length cc)) := hide fun w' hb => by
    have hb0 := unhide HW w' hb
    exact ⟨rfl, hv'.tail.below hb0, hv'.next.below hb0, hv'.cap.below hb0⟩
  have HSo := hide (fun w' hb => sound_any q _ _ _ _ w' (unhide HV w' hb) hev h240 hn hT)
  have HIs := hide (fun w' hb => isVertex_any q _ _ _ _ root w' (unhide HV w' hb))
  have hT2 : ∀ x ∈ q.tail, 0 ≤ x ∧ x < (N : Int) := fun x hx => by have := hT x hx; omega
  have HNx : Hid (0 < N → ∀ y, y < N → Sp.nx q.tail U y < N) := hide fun h0 y _ => by
    unfold Sp.nx
    rcases Nat.lt_or_ge (Sp.oth (U.getD y 0).toNat) q.tail.length with h | h
    · have := hT2 _ (Sp.getD_mem h); omega
    · rw [List.getD_eq_getElem?_getD, List.getElem?_eq_none h]; exact h0
  have HTb := hide hT2
  have HO := hide (fun (y : Nat) (hy : y < q.tail.length) => oth_lt hy hev)
  have HHd := hide (fun (y : Nat) w' (hy : y < q.tail.length) (hb : Below (w.heap.size + 1) W1 w') => head_any' q _ _ _ _ y w' (unhide HV w' hb) hy hev h240)
  obtain ⟨R, hR⟩ : ∃ R, R = Sp.rightB q U root := ⟨_, rfl⟩
  rw [← hR]
  obtain ⟨P, hP⟩ : ∃ P : Ending → World → Prop, P = fun e w' => e = .returned (.bool R) ∧ Below w.heap.size w w' := ⟨_, rfl⟩
  rw [← hP]
  have HP := hide hP
  have hb0 : Below (w.heap.size + 1) W1 W1 := Below.refl _ _
  obtain ⟨x0, x1, x2, x3, -⟩ := unhide HBX W1 hb0
  by_cases hr : 0 ≤ root ∧ root < q.n
  · rw [decide_eq_true hr] at HIs
    obtain ⟨r, rfl⟩ : ∃ r : Nat, root = (r : Int) := ⟨root.toNat, by omega⟩
    have hrN : r < N := by omega
    have HLe := hide (fun w' (hb : Below (w.heap.size + 1) W1 w') => leaves_any q U r N _ _ _ _ (.slice ua U.length uc) w' (unhide HV w' hb) (hu'.below (unhide HW w' hb)) hN (by omega) hrN h240)
    have HRe : Hid (R = ((decide (U.length = N) && (decide (U.getD r 0 = -1) && Sp.edgesGo q.tail U (r : Int) N 0)) && Sp.chainsGo q.tail U (r : Int) N N 0)) := hide (by
      rw [hR]
      unfold Sp.rightB
      rw [hN, Int.toNat_natCast, Int.toNat_natCast]
      by_cases hl : U.length = N
      · by_cases hz : U.getD r 0 = -1
        · rw [decide_eq_true (show (U.length : Int) = (N : Int) ∧ 0 ≤ (r : Int) ∧ (r : Int) < (N : Int) ∧ U.getD r 0 = -1 from ⟨by omega, by omega, by omega, hz⟩), decide_eq_true hl, decide_eq_true hz]
          simp
        · rw [decide_eq_false (fun h => hz h.2.2.2), decide_eq_false hz]
          simp
      · rw [decide_eq_false (fun h => hl (by omega)), decide_eq_false hl]
        simp)
    obtain ⟨LB, hLB⟩ : ∃ LB, (decide (U.length = N) && (decide (U.getD r 0 = -1) && Sp.edgesGo q.tail U (r : Int) N 0)) = LB := ⟨_, rfl⟩
    rw [hLB] at HRe HLe
    have HLB := hide hLB
    rw [hN] at HBX HIs HSo HHd HLe x0 hW1 ⊢
    clear hP hR hT hev hn hr hv' hu' HV hb1 hLB
    have HS1 := hide hs1
    clear hs1
    subst hW1
    go_enter Try.func15, Try.ntmps15
    go_wp2
    go_step3
    go_wp2_with fail
    go_at_call 22
    generalize w.alloc (.cells #[.int .i64 (N : Int), .slice ta q.tail.length tc, .slice na q.next.length nc, .slice ca q.cap.length cc] 25) = W1 at *
    refine (unhide HSo W1 hb0).mono ?_
    rintro e w2 ⟨rfl, hl2⟩
    have hs1' := unhide HS1
    have hb2 : Below (w.heap.size + 1) W1 w2 := hb0.trans (hl2.mono (by omega))
    clear hl2 x0 x1 x2 x3
    obtain ⟨x0, x1, x2, x3, hz2⟩ := unhide HBX w2 hb2
    go_wp2_with fail
    go_at_call 23
    refine (unhide HIs w2 hb2).mono ?_
    rintro e w3 ⟨rfl, hl3⟩
    have hb3 : Below (w.heap.size + 1) W1 w3 := hb2.trans (hl3.mono (by omega))
    clear hl3 x0 x1 x2 x3 hz2 hb2
    obtain ⟨x0, x1, x2, x3, hz3⟩ := unhide HBX w3 hb3
    go_wp2_with fail
    go_at_call 30
    refine (unhide HLe w3 hb3).mono ?_
    rintro e w4 ⟨rfl, hl4⟩
    have hb4 : Below (w.heap.size + 1) W1 w4 := hb3.trans (hl4.mono (by omega))
    clear hl4 x0 x1 x2 x3 hz3 hb3
    obtain ⟨x0, x1, x2, x3, hz4⟩ := unhide HBX w4 hb4
    have HB4 := hide hb4
    clear hb4
    cases LB
    · have HR0 : Hid (R = false) := hide (by rw [unhide HRe]; rfl)
      go_wp2
      try rw [Exit.noGoto_ret]
      rw [unhide HP, unhide HR0]
      exact ⟨rfl, unhide HW _ (unhide HB4)⟩
    · have HR0 : Hid (R = Sp.chainsGo q.tail U (r : Int) N N 0) := hide (by rw [unhide HRe]; rfl)
      clear HRe
      have y0 := fun o => (unhide HBX (w4.alloc o) ((unhide HB4).alloc hz4 o)).1
      have hcr : (w4.alloc (.cells #[.int .i64 (-1)] 3)).cell? ⟨w4.heap.size, 0, none⟩ = some (.int .i64 (-1)) := by
        have e : (w4.alloc (.cells #[.int .i64 (-1)] 3)).heap[w4.heap.size]? = some (.cells #[.int .i64 (-1)] 3) := by
          show (w4.heap.push _)[w4.heap.size]? = _
          rw [Array.getElem?_push, if_pos rfl]
        simp only [World.cell?, e]
        rfl
      have hsz5 : (w4.alloc (.cells #[.int .i64 (-1)] 3)).heap.size = w4.heap.size + 1 := by show (w4.heap.push _).size = _; exact Array.size_push _
      have HRp := hide (repeat_any (-1) w4.heap.size N _ hN2 hcr (by omega))
      rw [hsz5] at HRp
      have HB5 : Hid (Below (w.heap.size + 1) W1 (w4.alloc (.cells #[.int .i64 (-1)] 3))) := hide ((unhide HB4).alloc hz4 _)
      clear hcr hsz5 x0 x1 x2 x3
      go_wp2_with fail
      go_at_call 24
      refine (unhide HRp).mono ?_
      rintro e w6 ⟨rfl, hown6, hb6⟩
      obtain ⟨G, hG⟩ : ∃ G, w4.heap.size + 1 = G := ⟨_, rfl⟩
      rw [hG] at hown6 hb6 ⊢
      have hBG : w.heap.size + 1 < G := by omega
      have HLB2 := unhide HLB
      simp only [Bool.and_eq_true, decide_eq_true_eq] at HLB2
      obtain ⟨hUl, -, hEd⟩ := HLB2
      have HEd := hide (fun (x : Nat) (hx : x < N) (hne : (x : Int) ≠ (r : Int)) => Sp.edges_all q.tail U (r : Int) N 0 hEd x (Nat.zero_le _) (by omega) hne)
      have H6 : Hid (Below (w.heap.size + 1) W1 w6 ∧ OwnI w6 G (.slice (some ⟨G, 0, none⟩) N N) (List.replicate N (-1))) := hide ⟨(unhide HB5).trans (hb6.mono (by omega)), hown6⟩
      have H7 : Hid (Sp.ByI q.tail U (r : Int) N 0 (List.replicate N (-1)) (fun _ => False)) := hide ⟨List.length_replicate, fun x hx hne => absurd (getD_rep1 _ _ _ hx) hne, fun y hy => by omega⟩
      have HU2 : Hid (∀ k, k < N → ∀ w', Below (w.heap.size + 1) W1 w' → ∃ b o, ua = some ⟨b, o, none⟩ ∧ w'.cell? ⟨b, o + k, none⟩ = some (.int .i64 (U.getD k 0))) := hide fun k hk w' hb => by
        obtain ⟨b', o', e1, -, h'⟩ := unhide HU k (by omega)
        exact ⟨b', o', e1, h' w' (unhide HW w' hb)⟩
      clear hown6 hb6 hG HRp HB5 HB4 y0 hz4 hEd HLB HU HSo HIs HLe hb0
      rw [hUl]
      go_wp2
      go_step3
      go_wp2
      go_loopg [32] N (fun g s32 wr => ∃ (v : Nat) (L : List Int), v + g = N ∧ s32 = .int .i64 (v : Int) ∧ Hid (Below (w.heap.size + 1) W1 wr ∧ OwnI wr G (.slice (some ⟨G, 0, none⟩) N N) L) ∧ Hid (Sp.ByI q.tail U (r : Int) N v L (fun _ => False)))
      case atStart => exact ⟨0, _, by omega, rfl, H6, H7⟩
      case round =>
        clear H6 H7
        obtain ⟨v, L, hvg, rfl, HI, HY⟩ := hrel
        by_cases hvN : v < N
        · have hvI : (v : Int) < (N : Int) := by omega
          obtain ⟨g', rfl⟩ : ∃ g', gk = g' + 1 := ⟨gk - 1, by omega⟩
          have HY2 : Hid (Sp.ByI q.tail U (r : Int) N v L (fun x => ∃ m, Sp.Stp q.tail U (r : Int) (m + 1) x v)) := hide ⟨(unhide HY).len, fun x hx hne => ((unhide HY).mark x hx hne).imp id (fun h => h.2.elim), (unhide HY).all⟩
          have HZ : Hid (∃ m, Sp.Stp q.tail U (r : Int) m v v) := hide ⟨0, rfl⟩
          clear HY
          go_wp2
          go_loopg [9] (L.count (-1)) (fun g2 s9 wr => ∃ (t : Nat) (L : List Int), t < N ∧ s9 = .int .i64 (t : Int) ∧ L.count (-1) = g2 ∧ Hid (Below (w.heap.size + 1) W1 wr ∧ OwnI wr G (.slice (some ⟨G, 0, none⟩) N N) L) ∧ Hid (Sp.ByI q.tail U (r : Int) N v L (fun x => ∃ m, Sp.Stp q.tail U (r : Int) (m + 1) x t)) ∧ Hid (∃ m, Sp.Stp q.tail U (r : Int) m v t))
          case atStart => exact ⟨v, L, hvN, rfl, rfl, HI, HY2, HZ⟩
          case round =>
            clear HI HY2 HZ
            obtain ⟨t, L2, htN, rfl, hcnt, HI, HY, HZ⟩ := hrel
            have HCn := hide hcnt
            clear hcnt
            have htI : (t : Int) < (N : Int) := by omega
            by_cases htr : t = r
            · subst htr
              have HF : Hid (Sp.ByI q.tail U (t : Int) N (v + 1) L2 (fun _ => False)) := hide (Sp.ByI.done (unhide HY) (Sp.rc_root _ _ rfl) (unhide HZ))
              clear HY HZ
              go_wp2
              go_roundg g'
              case rel => exact ⟨v + 1, L2, by omega, by go_num, HI, HF⟩
              case measure => omega
            · have htrI : (t : Int) ≠ (r : Int) := by omega
              have e1 : ((t : Int) == (r : Int)) = false := beq_eq_false_iff_ne.2 htrI
              have eb : ((t : Int) != (r : Int)) = true := by simp only [bne, e1]; rfl
              have hL2 := (unhide HY).len
              have c0 : ∀ wx : World, OwnI wx G (.slice (some ⟨G, 0, none⟩) N N) L2 → wx.cell? ⟨G, t, none⟩ = some (.int .i64 (L2.getD t 0)) ∧ wx.frozen? ⟨G, t, none⟩ = false := fun wx h => by
                unfold OwnI at h
                rw [hL2] at h
                refine ⟨?_, World.ownsRow.frozenAt h t⟩
                rw [World.ownsRow.cellAt h t (by omega), List.getElem?_map, List.getD_eq_getElem?_getD, List.getElem?_eq_getElem (by omega)]
                rfl
              obtain ⟨c1, f1⟩ := c0 _ (unhide HI).2
              clear c0
              by_cases hm1 : L2.getD t 0 = -1
              · have hd0 := unhide HEd t htN htrI
                obtain ⟨d, hd⟩ : ∃ d : Nat, U.getD t 0 = (d : Int) := ⟨(U.getD t 0).toNat, by omega⟩
                rw [hd] at hd0
                have hdl : d < q.tail.length := by omega
                have hyb := unhide HTb _ (Sp.getD_mem (unhide HO d hdl))
                obtain ⟨y, hy⟩ : ∃ y : Nat, q.tail.getD (Sp.oth d) 0 = (y : Int) := ⟨(q.tail.getD (Sp.oth d) 0).toNat, by omega⟩
                have hnx : Sp.nx q.tail U t = y := by unfold Sp.nx; rw [hd, Int.toNat_natCast, hy, Int.toNat_natCast]
                have hY2 := (unhide HY).on htN htrI
                rw [hnx] at hY2
                have HY2 := hide hY2
                have HZ2 : Hid (∃ m, Sp.Stp q.tail U (r : Int) m v y) := hide (by
                  obtain ⟨m, h⟩ := unhide HZ
                  exact ⟨m + 1, by rw [← hnx]; exact h.snoc htrI⟩)
                have hcm := count_mark L2 t (v : Int) (by omega) hm1 (by omega)
                have hc2 := unhide HCn
                obtain ⟨g3, hg3⟩ : ∃ g3, gk = g3 + 1 := ⟨gk - 1, by omega⟩
                subst hg3
                have HCn2 : Hid ((L2.set t (v : Int)).count (-1) = g3) := hide (by omega)
                have hyN : y < N := by omega
                have HH := hide (fun w' (hb : Below (w.heap.size + 1) W1 w') => unhide HHd d w' hdl hb)
                rw [hy] at HH
                have HUt := hide (fun w' hb => unhide HU2 t htN w' hb)
                rw [hd] at HUt
                rw [hm1] at c1
                have HA : Hid (Below (w.heap.size + 1) W1 (wr.setCell ⟨G, t, none⟩ (.int .i64 (v : Int))) ∧ OwnI (wr.setCell ⟨G, t, none⟩ (.int .i64 (v : Int))) G (.slice (some ⟨G, 0, none⟩) N N) (L2.set t (v : Int))) := hide ⟨(unhide HI).1.setCell (p := ⟨G, t, none⟩) (by show w.heap.size + 1 ≤ G; omega) _, own_setCell (unhide HI).2 t (v : Int)⟩
                clear HI HY HZ hY2 hcm hc2 HCn hd hy hnx hyb hd0 hm1
                go_upto_region 9 with fail
                generalize wr.setCell ⟨G, t, none⟩ (.int .i64 (v : Int)) = WA at *
                obtain ⟨bu, ou, hua, -⟩ := unhide HUt WA (unhide HA).1
                subst hua
                have HUt2 : Hid (∀ w', Below (w.heap.size + 1) W1 w' → w'.cell? ⟨bu, ou + t, none⟩ = some (.int .i64 (d : Int))) := hide fun w' hb => by
                  obtain ⟨b', o', e, h⟩ := unhide HUt w' hb
                  injection e with e
                  injection e with e1 e2
                  subst e1 e2
                  exact h
                have hsA := (unhide HBX WA (unhide HA).1).2.2.2.2
                have HLow : Hid (∀ w', Below WA.heap.size WA w' → Below (w.heap.size + 1) W1 w') := hide fun w' hb => (unhide HA).1.trans (hb.mono hsA)
                have hbr : Below WA.heap.size WA WA.drew := (Below.refl _ _).drew
                clear c1 f1 hsA HUt
                go_region_held3 (fun w' => w'.cell? ⟨w.heap.size, 0, none⟩ = some (.int .i64 (N : Int)) ∧ w'.cell? ⟨w.heap.size, 1, none⟩ = some (.slice ta q.tail.length tc) ∧ w'.cell? ⟨w.heap.size, 2, none⟩ = some (.slice na q.next.length nc) ∧ w'.cell? ⟨w.heap.size, 3, none⟩ = some (.slice ca q.cap.length cc) ∧ w'.cell? ⟨bu, ou + t, none⟩ = some (.int .i64 (d : Int)))
                  (first
                    | exact ⟨(unhide HBX _ (unhide HLow _ hb8)).1, (unhide HBX _ (unhide HLow _ hb8)).2.1, (unhide HBX _ (unhide HLow _ hb8)).2.2.1, (unhide HBX _ (unhide HLow _ hb8)).2.2.2.1, unhide HUt2 _ (unhide HLow _ hb8)⟩
                    | exact ⟨(unhide HBX _ (unhide HLow _ hbr)).1, (unhide HBX _ (unhide HLow _ hbr)).2.1, (unhide HBX _ (unhide HLow _ hbr)).2.2.1, (unhide HBX _ (unhide HLow _ hbr)).2.2.2.1, unhide HUt2 _ (unhide HLow _ hbr)⟩)
                  (first
                    | (go_at_call 26
                       refine (unhide HH _ (unhide HLow _ hbr)).mono ?_
                       rintro e w8 ⟨rfl, hl8⟩
                       have hb8 : Below WA.heap.size WA w8 := hbr.trans hl8))
                all_goals
                  go_wp2
                  go_roundg g3
                  case rel => exact ⟨y, L2.set t (v : Int), hyN, rfl, unhide HCn2, hide ⟨unhide HLow _ hb8, own_below (unhide HA).2 hb8⟩, HY2, HZ2⟩
                  case measure => omega
              · have hmk := (unhide HY).mark t htN hm1
                have em : (L2.getD t 0 == -1) = false := beq_eq_false_iff_ne.2 hm1
                by_cases hmv : L2.getD t 0 = (v : Int)
                · have HR1 : Hid (R = false) := hide (by
                    rw [unhide HR0]
                    rcases hmk with ⟨-, h1, -⟩ | ⟨-, m, h1⟩
                    · omega
                    · obtain ⟨m2, h2⟩ := unhide HZ
                      cases hc : Sp.chainsGo q.tail U (r : Int) N N 0 with
                      | false => rfl
                      | true => exact absurd (h2.rc.1 ((Sp.chains_iff (unhide HNx (by omega)) N 0 (by omega)).1 hc v (Nat.zero_le _) hvN)) h1.round)
                  rw [hmv] at c1
                  have ev : ((v : Int) == -1) = false := beq_eq_false_iff_ne.2 (by omega)
                  have HF := hide (unhide HI).1
                  clear HY HZ HI hmk em
                  go_wp2
                  try rw [Exit.noGoto_ret]
                  rw [unhide HP, unhide HR1]
                  exact ⟨rfl, unhide HW _ (unhide HF)⟩
                · have ev : (L2.getD t 0 == (v : Int)) = false := beq_eq_false_iff_ne.2 hmv
                  have HF : Hid (Sp.ByI q.tail U (r : Int) N (v + 1) L2 (fun _ => False)) := hide (Sp.ByI.done (unhide HY) (by
                    rcases hmk with ⟨-, -, h⟩ | ⟨h, -⟩
                    · exact h
                    · exact absurd h hmv) (unhide HZ))
                  clear HY HZ hmk
                  generalize L2.getD t 0 = z at *
                  go_wp2
                  go_roundg g'
                  case rel => exact ⟨v + 1, L2, by omega, by go_num, HI, HF⟩
                  case measure => omega
        · have hvI : ¬ (v : Int) < (N : Int) := by omega
          have HR1 : Hid (R = true) := hide (by rw [unhide HR0, Sp.chains_iff (unhide HNx (by omega)) N 0 (by omega)]; exact fun x _ hx => (unhide HY).all x (by omega))
          have HF := hide (unhide HI).1
          clear HI HY
          go_wp2
          try rw [Exit.noGoto_ret]
          rw [unhide HP, unhide HR1]
          exact ⟨rfl, unhide HW _ (unhide HF)⟩
  · rw [decide_eq_false hr] at HIs
    have HR0 : Hid (R = false) := hide (by
      rw [hR]; unfold Sp.rightB
      rw [decide_eq_false (fun h => hr ⟨h.2.1, h.2.2.1⟩)]; rfl)
    rw [hN] at HBX HIs HSo x0 hW1 ⊢
    clear hP hR hT hev hn hv' hu' HV hb1 HHd HU
    have HS1 := hide hs1
    clear hs1
    subst hW1
    go_enter Try.func15, Try.ntmps15
    go_wp2
    go_step3
    go_wp2_with fail
    go_at_call 22
    generalize w.alloc (.cells #[.int .i64 (N : Int), .slice ta q.tail.length tc, .slice na q.next.length nc, .slice ca q.cap.length cc] 25) = W1 at *
    refine (unhide HSo W1 hb0).mono ?_
    rintro e w2 ⟨rfl, hl2⟩
    have hs1' := unhide HS1
    have hb2 : Below (w.heap.size + 1) W1 w2 := hb0.trans (hl2.mono (by omega))
    clear hl2 x0 x1 x2 x3
    obtain ⟨x0, x1, x2, x3, hz2⟩ := unhide HBX w2 hb2
    go_wp2_with fail
    go_at_call 23
    refine (unhide HIs w2 hb2).mono ?_
    rintro e w3 ⟨rfl, hl3⟩
    have hb3 : Below (w.heap.size + 1) W1 w3 := hb2.trans (hl3.mono (by omega))
    have HB3 := hide hb3
    clear hl3 x0 x1 x2 x3 hz2 hb2 hb3
    go_wp2
    try rw [Exit.noGoto_ret]
    rw [unhide HP, unhide HR0]
    exact ⟨rfl, unhide HW _ (unhide HB3)⟩
end Go.Proofs.Ytenffkplneimlab


/- Package tree: isTree, Way of a tree. -/
namespace Go.Proofs.Ytenffkplneimlab
open Go Go.RowKit

/-- What Right says of a row. -/
theorem Sp.right_parts {q : Sp.Net} {U : List Int} {r N : Nat} (hN : q.n = (N : Int)) (h : Sp.rightB q U (r : Int) = true) : U.length = N ∧ r < N ∧ U.getD r 0 = -1 ∧ (∀ x, x < N → x ≠ r → 0 ≤ U.getD x 0 ∧ U.getD x 0 < (q.tail.length : Int)) ∧ Sp.chainsGo q.tail U (r : Int) N N 0 = true := by
  unfold Sp.rightB at h
  rw [hN, Int.toNat_natCast, Int.toNat_natCast] at h
  simp only [Bool.and_eq_true, decide_eq_true_eq] at h
  obtain ⟨⟨h1, h2, h3, h4⟩, h5, h6⟩ := h
  exact ⟨by omega, by omega, h4, fun x hx hne => Sp.edges_all q.tail U (r : Int) N 0 h5 x (Nat.zero_le _) (by omega) (by omega), h6⟩
theorem idx_root (q : Sp.Net) (U : List Int) (r N : Nat) (uv : Value) (w : World) (hu : Ints w uv U) (hN : q.n = (N : Int)) (hN2 : N ≤ 60) (hR : Sp.rightB q U (r : Int) = true) :
    Calls Try.prog 37 #[uv, .int .i64 (-1)] w fun e w' => e = .returned (.int .i64 (r : Int)) ∧ w' = w := by
  obtain ⟨hl, hr, hz, hE, -⟩ := Sp.right_parts hN hR
  obtain ⟨a, c, rfl, -, -, HU⟩ := hu.allD
  obtain ⟨b, o, rfl, -, -⟩ := unhide HU r (by omega)
  refine (index_any U b o U.length c (-1) w rfl (by omega) (fun j hj => ?_)).mono ?_
  · obtain ⟨b', o', e, -, h⟩ := unhide HU j hj
    injection e with e
    injection e with e1 e2
    subst e1 e2
    have := h w (Below.refl _ _)
    rw [Sp.getD_eq _ _ hj] at this
    exact this
  · rintro e w' ⟨h, hw⟩
    refine ⟨?_, hw⟩
    rcases h with ⟨i, hi, rfl, h1, -⟩ | ⟨-, h1⟩
    · have : i = r := by
        by_cases hir : i = r
        · exact hir
        · have := hE i (by omega) hir
          rw [Sp.getD_eq _ _ hi, h1] at this
          omega
      rw [this]
    · exact absurd (by rw [← hz]; exact Sp.getD_mem (by omega)) h1
set_option maxRecDepth 100000 in
set_option maxHeartbeats 4000000 in
theorem isTree_yes (q : Sp.Net) (U : List Int) (r N : Nat) (v tv nv cv uv : Value) (w : World) (hv : NetI w v q tv nv cv) (hu : Ints w uv U) (hev : q.tail.length % 2 = 0) (h240 : q.tail.length ≤ 240) (hN : q.n = (N : Int)) (hN2 : N ≤ 60) (hn : q.n ≤ ((q.tail.length / 2 : Nat) : Int) + 1) (hT : ∀ x ∈ q.tail, 0 ≤ x ∧ x < q.n) (hR : Sp.rightB q U (r : Int) = true) :
    Calls Try.prog 27 #[v, uv] w fun e w' => e = .returned (.bool true) ∧ Below w.heap.size w w' := by
  have hv' := hv
  obtain ⟨rfl, h1, h2, h3⟩ := hv
  obtain ⟨ta, tc, rfl, -, -⟩ := h1.form
  obtain ⟨na, nc, rfl, -, -⟩ := h2.form
  obtain ⟨ca, cc, rfl, -, -⟩ := h3.form
  clear h1 h2 h3
  have HBX := hide (box_new w q.n (.slice ta q.tail.length tc) (.slice na q.next.length nc) (.slice ca q.cap.length cc))
  obtain ⟨W1, hW1⟩ : ∃ W1, W1 = w.alloc (.cells #[.int .i64 q.n, .slice ta q.tail.length tc, .slice na q.next.length nc, .slice ca q.cap.length cc] 25) := ⟨_, rfl⟩
  rw [← hW1] at HBX
  have hb1 : Below w.heap.size w W1 := by rw [hW1]; exact (Below.refl _ w).alloc (Nat.le_refl _) _
  have hs1 : W1.heap.size = w.heap.size + 1 := by rw [hW1]; simp
  have HW : Hid (∀ w', Below (w.heap.size + 1) W1 w' → Below w.heap.size w w') := hide fun w' hb => hb1.trans (hb.mono (by omega))
  have HIx := hide (fun w' (hb : Below (w.heap.size + 1) W1 w') => idx_root q U r N uv w' (hu.below (unhide HW w' hb)) hN hN2 hR)
  have HRt := hide (fun w' (hb : Below (w.heap.size + 1) W1 w') => right_any q U (r : Int) N (.agg #[.int .i64 q.n, .slice ta q.tail.length tc, .slice na q.next.length nc, .slice ca q.cap.length cc]) _ _ _ uv w' ⟨rfl, hv'.tail.below (unhide HW w' hb), hv'.next.below (unhide HW w' hb), hv'.cap.below (unhide HW w' hb)⟩ (hu.below (unhide HW w' hb)) hev h240 hN hN2 hn hT)
  rw [hR] at HRt
  have HS1 := hide hs1
  have hbr : Below (w.heap.size + 1) W1 W1.drew := (Below.refl _ _).drew
  obtain ⟨P, hP⟩ : ∃ P : Ending → World → Prop, P = fun e w' => e = .returned (.bool true) ∧ Below w.heap.size w w' := ⟨_, rfl⟩
  rw [← hP]
  have HP := hide hP
  clear hP hb1 hs1 hv' hu hR hn hT hev hN
  subst hW1
  go_enter Try.func27, Try.ntmps27
  go_upto_region 1 with fail
  generalize w.alloc (.cells #[.int .i64 q.n, .slice ta q.tail.length tc, .slice na q.next.length nc, .slice ca q.cap.length cc] 25) = W1 at *
  have hs1 := unhide HS1
  go_region_held3 (fun w' => w'.cell? ⟨w.heap.size, 0, none⟩ = some (.int .i64 q.n) ∧ w'.cell? ⟨w.heap.size, 1, none⟩ = some (.slice ta q.tail.length tc) ∧ w'.cell? ⟨w.heap.size, 2, none⟩ = some (.slice na q.next.length nc) ∧ w'.cell? ⟨w.heap.size, 3, none⟩ = some (.slice ca q.cap.length cc))
    (first
      | exact ⟨(unhide HBX _ hb8).1, (unhide HBX _ hb8).2.1, (unhide HBX _ hb8).2.2.1, (unhide HBX _ hb8).2.2.2.1⟩
      | exact ⟨(unhide HBX _ hbr).1, (unhide HBX _ hbr).2.1, (unhide HBX _ hbr).2.2.1, (unhide HBX _ hbr).2.2.2.1⟩)
    (first
      | (go_at_call 15
         refine (unhide HRt _ hbr).mono ?_
         rintro e w8 ⟨rfl, hl8⟩
         have hb8 : Below (w.heap.size + 1) W1 w8 := hbr.trans (hl8.mono (by show _ ≤ W1.heap.size; omega)))
      | (go_at_call 37
         refine (unhide HIx _ hbr).mono ?_
         rintro e w' ⟨rfl, hw'⟩
         have := hw'.symm
         subst this))
  all_goals
    go_wp2
    rw [unhide HP]
    exact ⟨rfl, unhide HW _ hb8⟩
end Go.Proofs.Ytenffkplneimlab


/- All vertices are found. -/
namespace Go.Proofs.Ytenffkplneimlab
open Go Go.RowKit

theorem Sp.rowGo_done {T : List Int} {root : Int} {N : Nat} (hT : ∀ x ∈ T, 0 ≤ x ∧ x < (N : Int)) (hev : T.length % 2 = 0) {u : Int} : ∀ c d fl up, d + c = T.length → u ∈ fl → Sp.SpSt T root N fl up → ∀ e, d ≤ e → e < T.length → T.getD e 0 = u → T.getD (Sp.oth e) 0 ∈ (Sp.rowGo T root u c d fl up).1
  | 0, d, fl, up, hd, _, _, e, h1, h2, _ => by omega
  | c + 1, d, fl, up, hd, hu, h, e, h1, h2, h3 => by
    rw [Sp.rowGo]
    by_cases hed : e = d
    · subst hed
      rw [if_pos h3]
      have ho := oth_lt h2 hev
      have hb := hT _ (Sp.getD_mem (l := T) ho)
      split
      · rename_i hf
        obtain ⟨-, r, hr⟩ := Sp.SpSt.row hT hev c (e + 1) fl up (by omega) hu h
        rw [hr]
        refine List.mem_append.2 (.inl ?_)
        have := (h.mem (T.getD (Sp.oth e) 0).toNat (by omega)).2 (hf.elim (fun h4 => .inl (by omega)) (fun h4 => .inr h4))
        rw [show (((T.getD (Sp.oth e) 0).toNat : Nat) : Int) = T.getD (Sp.oth e) 0 by omega] at this
        exact this
      · rename_i hn
        obtain ⟨-, r, hr⟩ := Sp.SpSt.row hT hev c (e + 1) _ _ (by omega) (List.mem_append.2 (.inl hu)) (h.find hT hev h2 (by rw [h3]; exact hu) hn)
        rw [hr]
        exact List.mem_append.2 (.inl (List.mem_append.2 (.inr (List.mem_singleton.2 rfl))))
    · split
      · rename_i hd'
        split
        · exact Sp.rowGo_done hT hev c (d + 1) fl up (by omega) hu h e (by omega) h2 h3
        · rename_i hn
          exact Sp.rowGo_done hT hev c (d + 1) _ _ (by omega) (List.mem_append.2 (.inl hu)) (h.find hT hev (by omega) (by rw [hd']; exact hu) hn) e (by omega) h2 h3
      · exact Sp.rowGo_done hT hev c (d + 1) fl up (by omega) hu h e (by omega) h2 h3
theorem Sp.spanGo_done {T : List Int} {root : Int} {N : Nat} (hT : ∀ x ∈ T, 0 ≤ x ∧ x < (N : Int)) (hev : T.length % 2 = 0) : ∀ g i fl up, i + g = N → i ≤ fl.length → Sp.SpSt T root N fl up → (∀ k, k < i → ∀ e, e < T.length → T.getD e 0 = fl.getD k 0 → T.getD (Sp.oth e) 0 ∈ fl) →
    Sp.SpSt T root N (Sp.spanGo T root g i fl up).1 (Sp.spanGo T root g i fl up).2 ∧ ∀ e, e < T.length → T.getD e 0 ∈ (Sp.spanGo T root g i fl up).1 → T.getD (Sp.oth e) 0 ∈ (Sp.spanGo T root g i fl up).1
  | 0, i, fl, up, hi, hl, h, hc => by
    refine ⟨h, fun e he hm => ?_⟩
    obtain ⟨k, hk, e2⟩ := List.getElem_of_mem (show T.getD e 0 ∈ fl from hm)
    have := h.le
    exact hc k (by omega) e he (by rw [Sp.getD_eq _ _ hk, e2])
  | g + 1, i, fl, up, hi, hl, h, hc => by
    rw [Sp.spanGo]
    by_cases hlt : i < fl.length
    · rw [if_pos hlt]
      have hu : fl.getD i 0 ∈ fl := Sp.getD_mem hlt
      obtain ⟨h1, r, hr⟩ := Sp.SpSt.row hT hev T.length 0 fl up (by omega) hu h
      have hd := Sp.rowGo_done hT hev T.length 0 fl up (by omega) hu h
      refine Sp.spanGo_done hT hev g (i + 1) _ _ (by omega) (by rw [hr, List.length_append]; omega) h1 fun k hk e he e2 => ?_
      have hg : (Sp.rowGo T root (fl.getD i 0) T.length 0 fl up).1.getD k 0 = fl.getD k 0 := by
        rw [hr, List.getD_eq_getElem?_getD, List.getElem?_append_left (by omega), ← List.getD_eq_getElem?_getD]
      rw [hg] at e2
      rcases Nat.lt_or_ge k i with h2 | h2
      · have := hc k h2 e he e2
        rw [hr]
        exact List.mem_append.2 (.inl this)
      · obtain rfl : k = i := by omega
        exact hd e (by omega) he e2
    · rw [if_neg hlt]
      refine ⟨h, fun e he hm => ?_⟩
      obtain ⟨k, hk, e2⟩ := List.getElem_of_mem (show T.getD e 0 ∈ fl from hm)
      exact hc k (by omega) e he (by rw [Sp.getD_eq _ _ hk, e2])
/-- Of a net of one piece every vertex but the root has a dart that leads up. -/
theorem Sp.span_all {q : Sp.Net} {root : Int} (hT : ∀ x ∈ q.tail, 0 ≤ x ∧ x < q.n) (hev : q.tail.length % 2 = 0) (h0 : 0 ≤ root) (h1 : root < q.n) (hc : ∀ v, 0 ≤ v → v < q.n → Sp.Reach q.tail root v) :
    (Sp.span q root).length = q.n.toNat ∧ (Sp.span q root).getD root.toNat 0 = -1 ∧ ∀ v : Nat, (v : Int) < q.n → (v : Int) ≠ root → ∃ d : Nat, d < q.tail.length ∧ (Sp.span q root).getD v 0 = (d : Int) ∧ q.tail.getD d 0 = (v : Int) := by
  have hT' : ∀ x ∈ q.tail, 0 ≤ x ∧ x < ((q.n.toNat : Nat) : Int) := fun x hx => by have := hT x hx; omega
  obtain ⟨hs, hcl⟩ := Sp.spanGo_done hT' hev q.n.toNat 0 [root] (List.replicate q.n.toNat (-1)) (by omega) (by simp) (Sp.SpSt.first q.tail h0 (by omega)) (fun k hk => by omega)
  refine ⟨hs.len, hs.rt, fun v hv hne => ?_⟩
  obtain ⟨r, hr⟩ := hs.hd
  have hm : (v : Int) ∈ (Sp.spanGo q.tail root q.n.toNat 0 [root] (List.replicate q.n.toNat (-1))).1 :=
    (hc v (by omega) hv).ind (p := fun z => z ∈ (Sp.spanGo q.tail root q.n.toNat 0 [root] (List.replicate q.n.toNat (-1))).1) (by rw [hr]; simp) (fun d hd _ ih => hcl d hd ih)
  rcases (hs.mem v (by omega)).1 hm with e | e
  · exact absurd e hne
  · obtain ⟨d, d1, d2, d3, -⟩ := hs.dart v (by omega) e
    exact ⟨d, d1, d2, d3⟩
end Go.Proofs.Ytenffkplneimlab


/- The reference's Span (P401). -/
namespace Go.Proofs.Ytenffkplneimlab
open Go Go.RowKit

/-- A row of the call's own stays where its block does. -/
theorem own_same {w w' : World} {B e size n g N c : Nat} {xs : List Value} (h : w.ownsRow B e size (.slice (some ⟨g, 0, none⟩) N c) n xs) (e1 : w'.heap[g]? = w.heap[g]?) : w'.ownsRow B e size (.slice (some ⟨g, 0, none⟩) N c) n xs := by
  obtain ⟨h1, h2 | ⟨g', cap, cur, e2, hg, hh, r⟩⟩ := h
  · exact ⟨h1, .inl h2⟩
  · injection e2 with e3 e4 e5
    injection e3 with e3
    injection e3 with e3
    subst e3
    exact ⟨h1, .inr ⟨g, cap, cur, by rw [e4, e5], hg, e1.trans hh, r⟩⟩
/-- What Span goes over. -/
structure SpW (W1 wr : World) (B N G2 : Nat) (fl up : List Int) (qa : Option Addr) (qc : Nat) : Prop where
  bel : Below (B + 1) W1 wr
  up : OwnI wr (B + 1) (.slice (some ⟨B + 1, 0, none⟩) N N) up
  fd : OwnB wr (B + 2) (.slice (some ⟨G2, 0, none⟩) N N) (Sp.metL N fl)
  q : OwnI wr (G2 + 1) (.slice qa fl.length qc) fl
  sz : G2 < wr.heap.size
theorem SpW.below {W1 wr w' : World} {B N G2 : Nat} {fl up : List Int} {qa : Option Addr} {qc : Nat} (h : SpW W1 wr B N G2 fl up qa qc) (hB : B + 1 < G2) (hb : Below wr.heap.size wr w') : SpW W1 w' B N G2 fl up qa qc :=
  ⟨h.bel.trans (hb.mono (by have := h.sz; omega)), own_below h.up hb, own_below h.fd hb, own_below h.q hb, Nat.lt_of_lt_of_le h.sz hb.size⟩
end Go.Proofs.Ytenffkplneimlab


