/- What the proof needs, part 10. -/
import Derived.Test.YtenffkplneimlaaL9
/- Package tree: Way of a tree. -/
namespace Go.Proofs.Ytenffkplneimlaa
open Go Go.RowKit

set_option maxRecDepth 100000 in
set_option maxHeartbeats 4000000 in
theorem way_any (q : Sp.Net) (U : List Int) (r N x G : Nat) (R : List Int) (v tv nv cv uv : Value) (w : World) (hv : NetI w v q tv nv cv) (hu : Ints w uv U) (hev : q.tail.length % 2 = 0) (h240 : q.tail.length ≤ 240) (hN : q.n = (N : Int)) (hN2 : N ≤ 60) (hn : q.n ≤ ((q.tail.length / 2 : Nat) : Int) + 1) (hT : ∀ x ∈ q.tail, 0 ≤ x ∧ x < q.n) (hR : Sp.rightB q U (r : Int) = true) (hx : x < N) (hG : G ≤ 240) (hW : Sp.wayGo q.tail U G x [] = some R) :
    Calls Try.prog 18 #[v, uv, .int .i64 (x : Int)] w fun e w' => ∃ lv, e = .returned lv ∧ OwnI w' w.heap.size lv R ∧ Below w.heap.size w w' := by
  obtain ⟨hUl, hrN, hUr, hE, -⟩ := Sp.right_parts hN hR
  have hv' := hv
  have hu' := hu
  obtain ⟨rfl, h1, h2, h3⟩ := hv
  obtain ⟨ta, tc, rfl, -, -⟩ := h1.form
  obtain ⟨na, nc, rfl, -, -⟩ := h2.form
  obtain ⟨ca, cc, rfl, -, -⟩ := h3.form
  obtain ⟨ua, uc, rfl, -, -, HU⟩ := hu.allD
  clear h1 h2 h3 hu
  obtain ⟨bu, ou, rfl, -, -⟩ := unhide HU x (by omega)
  have HBX := hide (box_new w q.n (.slice ta q.tail.length tc) (.slice na q.next.length nc) (.slice ca q.cap.length cc))
  obtain ⟨W1, hW1⟩ : ∃ W1, W1 = w.alloc (.cells #[.int .i64 q.n, .slice ta q.tail.length tc, .slice na q.next.length nc, .slice ca q.cap.length cc] 25) := ⟨_, rfl⟩
  rw [← hW1] at HBX
  have hb1 : Below w.heap.size w W1 := by rw [hW1]; exact (Below.refl _ w).alloc (Nat.le_refl _) _
  have hs1 : W1.heap.size = w.heap.size + 1 := by rw [hW1]; simp
  have HW : Hid (∀ w', Below (w.heap.size + 1) W1 w' → Below w.heap.size w w') := hide fun w' hb => hb1.trans (hb.mono (by omega))
  have HV : Hid (∀ w', Below (w.heap.size + 1) W1 w' → NetI w' (.agg #[.int .i64 q.n, .slice ta q.tail.length tc, .slice na q.next.length nc, .slice ca q.cap.length cc]) q (.slice ta q.tail.length tc) (.slice na q.next.length nc) (.slice ca q.cap.length cc)) := hide fun w' hb => by
    have hb0 := unhide HW w' hb
    exact ⟨rfl, hv'.tail.below hb0, hv'.next.below hb0, hv'.cap.below hb0⟩
  have HTr := hide (fun w' (hb : Below (w.heap.size + 1) W1 w') => isTree_yes q U r N _ _ _ _ (.slice (some ⟨bu, ou, none⟩) U.length uc) w' (unhide HV w' hb) (hu'.below (unhide HW w' hb)) hev h240 hN hN2 hn hT hR)
  have HIs := hide (fun w' (hb : Below (w.heap.size + 1) W1 w') => isVertex_any q _ _ _ _ (x : Int) w' (unhide HV w' hb))
  rw [decide_eq_true (show 0 ≤ (x : Int) ∧ (x : Int) < q.n by omega)] at HIs
  have HHd := hide (fun (y : Nat) w' (hy : y < q.tail.length) (hb : Below (w.heap.size + 1) W1 w') => head_any' q _ _ _ _ y w' (unhide HV w' hb) hy hev h240)
  have HTb := hide (show ∀ y ∈ q.tail, 0 ≤ y ∧ y < (N : Int) from fun y hy => by have := hT y hy; omega)
  have HO := hide (fun (y : Nat) (hy : y < q.tail.length) => oth_lt hy hev)
  have HU2 : Hid (∀ k, k < N → ∀ w', Below (w.heap.size + 1) W1 w' → w'.cell? ⟨bu, ou + k, none⟩ = some (.int .i64 (U.getD k 0))) := hide fun k hk w' hb => by
    obtain ⟨b', o', e1, -, h'⟩ := unhide HU k (by omega)
    injection e1 with e1
    injection e1 with e1 e2
    subst e1 e2
    exact h' w' (unhide HW w' hb)
  have HE : Hid (∀ y, y < N → U.getD y 0 = -1 ∨ (0 ≤ U.getD y 0 ∧ U.getD y 0 < (q.tail.length : Int))) := hide fun y hy => by
    by_cases hyr : y = r
    · rw [hyr]; exact .inl hUr
    · exact .inr (hE y hy hyr)
  obtain ⟨P, hP⟩ : ∃ P : Ending → World → Prop, P = fun e w' => ∃ lv, e = .returned lv ∧ OwnI w' w.heap.size lv R ∧ Below w.heap.size w w' := ⟨_, rfl⟩
  rw [← hP]
  have HP := hide hP
  have HWy := hide hW
  have HS1 := hide hs1
  have hb0 : Below (w.heap.size + 1) W1 W1 := Below.refl _ _
  obtain ⟨x0, x1, x2, x3, -⟩ := unhide HBX W1 hb0
  rw [hUl] at HTr ⊢
  clear hP hb1 hs1 hv' hu' hR hn hT hev hN HV HU hW hE hUr hrN
  subst hW1
  go_enter Try.func18, Try.ntmps18
  go_wp2_with fail
  go_at_call 34
  generalize w.alloc (.cells #[.int .i64 q.n, .slice ta q.tail.length tc, .slice na q.next.length nc, .slice ca q.cap.length cc] 25) = W1 at *
  refine (unhide HTr W1 hb0).mono ?_
  rintro e w2 ⟨rfl, hl2⟩
  have hs1' := unhide HS1
  have hb2 : Below (w.heap.size + 1) W1 w2 := hb0.trans (hl2.mono (by omega))
  clear hl2 x0 x1 x2 x3
  obtain ⟨x0, x1, x2, x3, hz2⟩ := unhide HBX w2 hb2
  go_wp2_with fail
  go_at_call 29
  refine (unhide HIs w2 hb2).mono ?_
  rintro e w3 ⟨rfl, hl3⟩
  have hb3 : Below (w.heap.size + 1) W1 w3 := hb2.trans (hl3.mono (by omega))
  clear hl3 x0 x1 x2 x3 hz2 hb2
  have hxI : (x : Int) < (N : Int) := by omega
  have c1 := unhide HU2 x hx w3 hb3
  have HB0 : Hid (Below (w.heap.size + 1) W1 w3 ∧ OwnI w3 (w.heap.size + 1) (.slice none 0 0) [] ∧ Sp.wayGo q.tail U G x [] = some R) := hide ⟨hb3, ⟨by simp, .inl ⟨rfl, rfl⟩⟩, unhide HWy⟩
  obtain ⟨z0, hz0⟩ : ∃ z0, U.getD x 0 = z0 := ⟨_, rfl⟩
  rw [hz0] at c1
  have HZ0 := hide hz0
  clear hb3 HWy hb0 HTr HIs hz0
  go_wp2
  go_loopg [7, 8] G (fun g s7 s8 wr => ∃ (x : Nat) (out : List Int) (oa : Option Addr) (oc : Nat) (z : Int), x < N ∧ out.length + g = G ∧ s8 = .int .i64 z ∧ s7 = .slice oa out.length oc ∧ Hid (U.getD x 0 = z) ∧ Hid (Below (w.heap.size + 1) W1 wr ∧ OwnI wr (w.heap.size + 1) (.slice oa out.length oc) out ∧ Sp.wayGo q.tail U g x out = some R))
  case atStart => exact ⟨x, [], none, 0, z0, hx, by simp, rfl, rfl, HZ0, HB0⟩
  case round =>
    clear HB0 HZ0 c1 hx hxI
    obtain ⟨y, out, oa, oc, z, hy, hog, rfl, rfl, HZ, HI⟩ := hrel
    have hE := unhide HE y hy
    rw [unhide HZ] at hE
    by_cases hz : z = -1
    · subst hz
      have HF : Hid (out = R ∧ OwnI wr w.heap.size (.slice oa out.length oc) out ∧ Below w.heap.size w wr) := hide ⟨by
        have := (unhide HI).2.2
        rw [Sp.wayGo_neg _ _ _ _ _ (by rw [unhide HZ]; omega)] at this
        exact Option.some.inj this, own_base (unhide HI).2.1 (Nat.le_succ _), unhide HW _ (unhide HI).1⟩
      clear HI HZ hE
      go_wp2
      rw [unhide HP]
      exact ⟨_, rfl, by rw [← (unhide HF).1]; exact (unhide HF).2.1, (unhide HF).2.2⟩
    · have hE2 := hE.resolve_left hz
      obtain ⟨d, rfl⟩ : ∃ d : Nat, z = (d : Int) := ⟨z.toNat, by omega⟩
      have hdl : d < q.tail.length := by omega
      have ez : ((d : Int) == -1) = false := beq_eq_false_iff_ne.2 (by omega)
      have eb : ((d : Int) != -1) = true := by simp only [bne, ez]; rfl
      cases gk with
      | zero =>
        exfalso
        have := (unhide HI).2.2
        rw [Sp.wayGo, if_pos (by rw [unhide HZ]; omega)] at this
        cases this
      | succ g' =>
        have hyb := unhide HTb _ (Sp.getD_mem (unhide HO d hdl))
        obtain ⟨t, ht⟩ : ∃ t : Nat, q.tail.getD (Sp.oth d) 0 = (t : Int) := ⟨(q.tail.getD (Sp.oth d) 0).toNat, by omega⟩
        have HR0 : Hid (Sp.wayGo q.tail U g' t (out ++ [(d : Int)]) = some R) := hide (by
          have := (unhide HI).2.2
          rw [Sp.wayGo, if_pos (by rw [unhide HZ]; omega), unhide HZ, Int.toNat_natCast, ht, Int.toNat_natCast] at this
          exact this)
        have HH := hide (fun w' (hb : Below (w.heap.size + 1) W1 w') => unhide HHd d w' hdl hb)
        rw [ht] at HH
        have htN : t < N := by omega
        have htI : (t : Int) < (N : Int) := by omega
        have hszr := (unhide HBX wr (unhide HI).1).2.2.2.2
        have HB := hide (And.intro (unhide HI).1 (unhide HI).2.1)
        clear HI HZ hE hE2 hz hyb ht
        go_wp2_with (at_builtin; refine wpList_app (w := wr.alloc (.cells #[.int .i64 (d : Int)] 3)) rfl _ _ rfl (w.heap.size + 1) _ _ out [(d : Int)] rfl rfl (World.ownsRow.alloc (unhide HB).2 _) (OwnI.ints (own_lit wr 0 _ 1 [(d : Int)] rfl rfl (by omega) (by simp))) (out.length + 1) (by simp) (by omega) (by simp; omega) ?_)
        intro a6 c6 w6 hown6 hb6 hgr6
        have hb6' : Below (w.heap.size + 1) W1 w6 := ((unhide HB).1.alloc hszr _).trans hb6
        have hl6 : (out ++ [(d : Int)]).length = out.length + 1 := by simp
        have HO6 := hide hown6
        obtain ⟨x0, x1, x2, x3, hs6⟩ := unhide HBX w6 hb6'
        clear hgr6 hb6 hown6 HB
        go_wp2_with fail
        go_at_call 32
        refine (unhide HH w6 hb6').mono ?_
        rintro e w7 ⟨rfl, hl7⟩
        have hb7 : Below (w.heap.size + 1) W1 w7 := hb6'.trans (hl7.mono hs6)
        have c1 := unhide HU2 t htN w7 hb7
        obtain ⟨z2, hz2⟩ : ∃ z2, U.getD t 0 = z2 := ⟨_, rfl⟩
        rw [hz2] at c1
        have HZ2 := hide hz2
        have HF : Hid (Below (w.heap.size + 1) W1 w7 ∧ OwnI w7 (w.heap.size + 1) (.slice a6 (out.length + 1) c6) (out ++ [(d : Int)])) := hide ⟨hb7, own_below (unhide HO6) hl7⟩
        clear hz2 x0 x1 x2 x3 hl7 hb7 HO6 hb6'
        go_wp2
        go_roundg g'
        case rel => exact ⟨t, out ++ [(d : Int)], a6, c6, z2, htN, by omega, rfl, by rw [hl6], HZ2, hide ⟨(unhide HF).1, by rw [hl6]; exact (unhide HF).2, unhide HR0⟩⟩
        case measure => omega
end Go.Proofs.Ytenffkplneimlaa


namespace Go.Proofs.Ytenffkplneimlaa
open Go Go.RowKit
set_option maxRecDepth 100000 in
set_option maxHeartbeats 4000000 in
theorem right2_go (q : Sp.Net) (U : List Int) (r N : Nat) (v tv nv cv uv : Value) (w : World) (hv : NetI w v q tv nv cv) (hu : Ints w uv U) (hev : q.tail.length % 2 = 0) (h240 : q.tail.length ≤ 240) (hN : q.n = (N : Int)) (hUN : U.length = N) (hT : ∀ y ∈ q.tail, 0 ≤ y ∧ y < (N : Int)) (hr : r < N) (hN2 : N ≤ 240) (hz : U.getD r 0 = -1) :
    Calls Try.prog 20 #[v, uv, .int .i64 (r : Int)] w fun e w' => e = .returned (.bool (Sp.edgesGo q.tail U (r : Int) N 0 && Sp.chainsGo q.tail U (r : Int) N N 0)) ∧ Below w.heap.size w w' := by
  have hv' := hv
  obtain ⟨rfl, h1, h2, h3⟩ := hv
  obtain ⟨ta, tc, rfl, -, -, HT⟩ := h1.allD
  obtain ⟨na, nc, rfl, -, -⟩ := h2.form
  obtain ⟨ca, cc, rfl, -, -⟩ := h3.form
  obtain ⟨ua, uc, rfl, -, -, HU⟩ := hu.allD
  clear h1 h2 h3 hu
  have HBX := hide (box_new w q.n (.slice ta q.tail.length tc) (.slice na q.next.length nc) (.slice ca q.cap.length cc))
  obtain ⟨W1, hW1⟩ : ∃ W1, W1 = w.alloc (.cells #[.int .i64 q.n, .slice ta q.tail.length tc, .slice na q.next.length nc, .slice ca q.cap.length cc] 25) := ⟨_, rfl⟩
  rw [← hW1] at HBX
  have hb1 : Below w.heap.size w W1 := by rw [hW1]; exact (Below.refl _ w).alloc (Nat.le_refl _) _
  have HW : Hid (∀ w', Below (w.heap.size + 1) W1 w' → Below w.heap.size w w') := hide fun w' hb => hb1.trans (hb.mono (by omega))
  have HV : Hid (∀ w', Below (w.heap.size + 1) W1 w' → NetI w' (.agg #[.int .i64 q.n, .slice ta q.tail.length tc, .slice na q.next.length nc, .slice ca q.cap.length cc]) q (.slice ta q.tail.length tc) (.slice na q.next.length nc) (.slice ca q.cap.length cc)) := hide fun w' hb => by
    have hb0 := unhide HW w' hb
    exact ⟨rfl, hv'.tail.below hb0, hv'.next.below hb0, hv'.cap.below hb0⟩
  have HHd := hide (fun (y : Nat) w' (hy : y < q.tail.length) (hb : Below (w.heap.size + 1) W1 w') => head2_any q _ _ _ _ y w' (unhide HV w' hb) hy hev h240)
  have HTb := hide hT
  have HO := hide (fun (y : Nat) (hy : y < q.tail.length) => oth_lt hy hev)
  rw [hN] at HBX hW1 HHd ⊢
  obtain ⟨E, hE⟩ : ∃ E, E = Sp.edgesGo q.tail U (r : Int) N 0 := ⟨_, rfl⟩
  obtain ⟨C, hC⟩ : ∃ C, C = Sp.chainsGo q.tail U (r : Int) N N 0 := ⟨_, rfl⟩
  rw [← hE, ← hC]
  have HE := hide hE
  have HC := hide hC
  obtain ⟨P, hP⟩ : ∃ P : Ending → World → Prop, P = fun e w' => e = .returned (.bool (E && C)) ∧ Below w.heap.size w w' := ⟨_, rfl⟩
  rw [← hP]
  have HP := hide hP
  obtain ⟨x0, x1, x2, x3, -⟩ := unhide HBX W1 (Below.refl _ _)
  rw [hUN] at HU ⊢
  have eA : ((N : Int) == (N : Int)) = true := beq_self_eq_true _
  have hB' : ¬ (r : Int) < 0 := by omega
  have hC' : ¬ (N : Int) ≤ (r : Int) := by omega
  have hrI : (r : Int) < (N : Int) := by omega
  obtain ⟨b, o, rfl, -, hcx⟩ := unhide HU r hr
  have c1 := hcx _ (unhide HW _ (Below.refl _ _))
  rw [hz] at c1
  clear hP hb1 hT hev HV hv' hE hC hcx
  have HU2 : Hid (∀ k, k < N → ∀ w', Below (w.heap.size + 1) W1 w' → w'.cell? ⟨b, o + k, none⟩ = some (.int .i64 (U.getD k 0))) := hide fun k hk w' hb => by
    obtain ⟨b', o', e1, -, h'⟩ := unhide HU k hk
    injection e1 with e1
    injection e1 with e1 e2
    subst e1 e2
    exact h' w' (unhide HW w' hb)
  have HT2 := hide (fun k hk => unhide HT k hk)
  clear HU HT
  subst hW1
  go_enter Try.func20, Try.ntmps20
  go_wp2
  generalize w.alloc (.cells #[.int .i64 (N : Int), .slice ta q.tail.length tc, .slice na q.next.length nc, .slice ca q.cap.length cc] 25) = W1 at *
  clear x0 x1 x2 x3 c1 eA hB' hC'
  go_loopg [7] N (fun g s7 wr => ∃ v : Nat, v + g = N ∧ s7 = .int .i64 (v : Int) ∧ Hid (Below (w.heap.size + 1) W1 wr ∧ E = Sp.edgesGo q.tail U (r : Int) g v ∧ ∀ j, j < v → j ≠ r → 0 ≤ U.getD j 0 ∧ U.getD j 0 < (q.tail.length : Int)))
  case atStart => exact ⟨0, by omega, rfl, hide ⟨Below.refl _ _, unhide HE, fun j hj => absurd hj (Nat.not_lt_zero _)⟩⟩
  case round =>
    clear HE
    obtain ⟨v, hvg, rfl, HI⟩ := hrel
    obtain ⟨x0, x1, x2, x3, -⟩ := unhide HBX wr (unhide HI).1
    cases gk with
    | zero =>
      obtain rfl : v = N := by omega
      have HE : Hid (E = true) := hide (unhide HI).2.1
      have HA := hide (unhide HI).2.2
      have HB := hide (unhide HI).1
      have hge : ¬ (v : Int) < (v : Int) := by omega
      clear HI
      go_wp2
      clear x0 x1 x2 x3 hge
      go_loopg [8] v (fun g s8 wr => ∃ y : Nat, y + g = v ∧ s8 = .int .i64 (y : Int) ∧ Hid (Below (w.heap.size + 1) W1 wr ∧ C = Sp.chainsGo q.tail U (r : Int) v g y))
      case atStart => exact ⟨0, by omega, rfl, hide ⟨unhide HB, unhide HC⟩⟩
      case round =>
        clear HB HC
        obtain ⟨y, hyg, rfl, HI⟩ := hrel
        cases gk with
        | zero =>
          obtain rfl : y = v := by omega
          have HF := hide (And.intro (unhide HI).1 (show C = true from (unhide HI).2))
          have hge : ¬ (y : Int) < (y : Int) := by omega
          obtain ⟨x0, x1, x2, x3, -⟩ := unhide HBX wr (unhide HI).1
          clear HI
          go_wp2
          rw [unhide HP]
          exact ⟨by rw [unhide HE, (unhide HF).2]; rfl, unhide HW _ (unhide HF).1⟩
        | succ g' =>
          have hyv : y < v := by omega
          have hyI : (y : Int) < (v : Int) := by omega
          have HR : Hid (C = if Sp.reachGo q.tail U (r : Int) (v + 1) y = true then Sp.chainsGo q.tail U (r : Int) v g' (y + 1) else false) := hide (unhide HI).2
          have HB := hide (unhide HI).1
          clear HI
          obtain ⟨x0, x1, x2, x3, -⟩ := unhide HBX wr (unhide HB)
          go_wp2
          clear x0 x1 x2 x3
          go_loopg [9, 10] (v + 1) (fun g3 s9 s10 wr' => ∃ x k : Nat, k + g3 = v + 1 ∧ x < v ∧ s9 = .int .i64 (x : Int) ∧ s10 = .int .i64 (k : Int) ∧ Hid (Below (w.heap.size + 1) W1 wr' ∧ Sp.reachGo q.tail U (r : Int) (v + 1) y = Sp.reachGo q.tail U (r : Int) g3 x))
          case atStart => exact ⟨y, 0, by omega, hyv, rfl, rfl, hide ⟨unhide HB, rfl⟩⟩
          case round =>
            clear HB
            obtain ⟨x, k, hkg, hxv, rfl, rfl, HI⟩ := hrel
            have HB := hide (unhide HI).1
            obtain ⟨x0, x1, x2, x3, -⟩ := unhide HBX wr (unhide HB)
            by_cases hxr : x = r
            · have e1 : ((x : Int) == (r : Int)) = true := by rw [hxr]; exact beq_self_eq_true _
              have e2 : (x == r) = true := by rw [hxr]; exact beq_self_eq_true _
              have HR2 : Hid (C = Sp.chainsGo q.tail U (r : Int) v g' (y + 1)) := hide (by rw [unhide HR, if_pos (by rw [(unhide HI).2]; exact Sp.reachGo_self _ _ _ _ _ (by rw [hxr]))])
              clear HI HR
              go_wp2
              go_roundg g'
              case rel => exact ⟨y + 1, by omega, by go_num, hide ⟨unhide HB, unhide HR2⟩⟩
              case measure => omega
            · have hxrI : (x : Int) ≠ (r : Int) := by omega
              have e1 : ((x : Int) == (r : Int)) = false := beq_eq_false_iff_ne.2 hxrI
              have e2 : (x == r) = false := beq_eq_false_iff_ne.2 hxr
              cases gk with
              | zero =>
                have HR2 : Hid (C = false) := hide (by rw [unhide HR, if_neg (by rw [(unhide HI).2, Sp.reachGo, decide_eq_false hxrI]; simp)])
                have hgt : (v : Int) < (k : Int) := by omega
                clear HI HR
                go_wp2
                rw [unhide HP]
                exact ⟨by rw [unhide HR2, Bool.and_false]; rfl, unhide HW _ (unhide HB)⟩
              | succ g3 =>
                have hle : ¬ (v : Int) < (k : Int) := by omega
                have hd0 := unhide HA x hxv hxr
                have HI2 : Hid (Sp.reachGo q.tail U (r : Int) (v + 1) y = Sp.reachGo q.tail U (r : Int) g3 (q.tail.getD (Sp.oth (U.getD x 0).toNat) 0).toNat) := hide (by rw [(unhide HI).2, Sp.reachGo, if_neg hxrI])
                have HC := hide (unhide HU2 x hxv)
                clear HI
                obtain ⟨d, hd⟩ : ∃ d : Nat, U.getD x 0 = (d : Int) := ⟨(U.getD x 0).toNat, by omega⟩
                rw [hd] at hd0 HC
                rw [hd, Int.toNat_natCast] at HI2
                have hdl : d < q.tail.length := by omega
                have hyb := unhide HTb _ (Sp.getD_mem (unhide HO d hdl))
                have HH := hide (fun w' hb => unhide HHd d w' hdl hb)
                obtain ⟨y2, hy2⟩ : ∃ y2 : Nat, q.tail.getD (Sp.oth d) 0 = (y2 : Int) := ⟨(q.tail.getD (Sp.oth d) 0).toNat, by omega⟩
                rw [hy2] at hyb HH
                rw [hy2, Int.toNat_natCast] at HI2
                have hyl : y2 < v := by omega
                have hxI : (x : Int) < (v : Int) := by omega
                have hs6 := (unhide HBX wr (unhide HB)).2.2.2.2
                have HLow : Hid (∀ w', Below wr.heap.size wr w' → Below (w.heap.size + 1) W1 w') := hide fun w' hb => (unhide HB).trans (hb.mono hs6)
                have hbr : Below wr.heap.size wr wr.drew := (Below.refl _ _).drew
                clear hy2 hd hs6 hd0 hyb hxr
                go_upto_region 17 with fail
                clear x0 x1 x2 x3
                go_region_held3 (fun w' => w'.cell? ⟨w.heap.size, 0, none⟩ = some (.int .i64 (v : Int)) ∧ w'.cell? ⟨w.heap.size, 1, none⟩ = some (.slice ta q.tail.length tc) ∧ w'.cell? ⟨w.heap.size, 2, none⟩ = some (.slice na q.next.length nc) ∧ w'.cell? ⟨w.heap.size, 3, none⟩ = some (.slice ca q.cap.length cc) ∧ w'.cell? ⟨b, o + x, none⟩ = some (.int .i64 (d : Int)))
                  (first
                    | exact ⟨(unhide HBX _ (unhide HLow _ hb8)).1, (unhide HBX _ (unhide HLow _ hb8)).2.1, (unhide HBX _ (unhide HLow _ hb8)).2.2.1, (unhide HBX _ (unhide HLow _ hb8)).2.2.2.1, unhide HC _ (unhide HLow _ hb8)⟩
                    | exact ⟨(unhide HBX _ (unhide HLow _ hbr)).1, (unhide HBX _ (unhide HLow _ hbr)).2.1, (unhide HBX _ (unhide HLow _ hbr)).2.2.1, (unhide HBX _ (unhide HLow _ hbr)).2.2.2.1, unhide HC _ (unhide HLow _ hbr)⟩)
                  (first
                    | (go_at_call 23
                       refine (unhide HH _ (unhide HLow _ hbr)).mono ?_
                       rintro e w8 ⟨rfl, hl8⟩
                       have hb8 : Below wr.heap.size wr w8 := hbr.trans hl8))
                all_goals
                  go_wp2
                  go_roundg g3
                  case rel => exact ⟨y2, k + 1, by omega, hyl, rfl, by go_num, hide ⟨unhide HLow _ hb8, unhide HI2⟩⟩
                  case measure => omega
    | succ g' =>
      have hlt : v < N := by omega
      have hltI : (v : Int) < (N : Int) := by omega
      have HB := hide (unhide HI).1
      have HA := hide (unhide HI).2.2
      have c1 := unhide HU2 v hlt wr (unhide HB)
      have HR : Hid (E = if (v : Int) = (r : Int) ∨ (0 ≤ U.getD v 0 ∧ U.getD v 0 < (q.tail.length : Int) ∧ q.tail.getD (U.getD v 0).toNat 0 = (v : Int)) then Sp.edgesGo q.tail U (r : Int) g' (v + 1) else false) := hide (unhide HI).2.1
      clear HI
      by_cases h1 : v = r
      · have e1 : ((v : Int) == (r : Int)) = true := by rw [h1]; exact beq_self_eq_true _
        have e2 : (v == r) = true := by rw [h1]; exact beq_self_eq_true _
        have HR2 : Hid (E = Sp.edgesGo q.tail U (r : Int) g' (v + 1)) := hide (by rw [unhide HR, if_pos (.inl (by rw [h1]))])
        have HA2 : Hid (∀ j, j < v + 1 → j ≠ r → 0 ≤ U.getD j 0 ∧ U.getD j 0 < (q.tail.length : Int)) := hide fun j hj hne => unhide HA j (by omega) hne
        clear HR HA
        go_upto_region 6 with fail
        go_quiet (fail)
        go_wp2
        go_roundg g'
        case rel => exact ⟨v + 1, by omega, by go_num, hide ⟨below_dn (unhide HB) nq, unhide HR2, unhide HA2⟩⟩
        case measure => omega
      · have h1I : (v : Int) ≠ (r : Int) := by omega
        have e1 : ((v : Int) == (r : Int)) = false := beq_eq_false_iff_ne.2 h1I
        have eb : ((v : Int) != (r : Int)) = true := by simp only [bne, e1]; rfl
        have e2 : (v == r) = false := beq_eq_false_iff_ne.2 h1
        have HA2 : Hid (0 ≤ U.getD v 0 ∧ U.getD v 0 < (q.tail.length : Int) → ∀ j, j < v + 1 → j ≠ r → 0 ≤ U.getD j 0 ∧ U.getD j 0 < (q.tail.length : Int)) := hide fun h j hj hne => by
          rcases Nat.lt_or_ge j v with h2 | h2
          · exact unhide HA j h2 hne
          · rw [show j = v by omega]; exact h
        clear HA
        generalize U.getD v 0 = z at *
        by_cases h2 : z < 0
        · have HR2 : Hid (E = false) := hide (by rw [unhide HR, if_neg (by rintro (h | h) <;> omega)])
          clear HR HA2
          go_upto_region 6 with fail
          have h2d : decide (z < 0) = true := decide_eq_true h2
          refine wp_region_G (fun w' => w'.cell? ⟨b, o + v, none⟩ = some (.int .i64 z) ∧ w'.cell? ⟨w.heap.size, 1, none⟩ = some (.slice ta q.tail.length tc)) (fun _ => false) (by kernel_rfl) ⟨c1, x1⟩ (fun hHeld => ?_)
          refine wpAnyG_take (v := ?_) 0 (by rfl) (by kernel_rfl) (by kernel_rfl) (by kernel_rfl) (by kernel_rfl) (fun _ _ _ h => h) (Or.inl ⟨by rfl, ?_⟩) (by assumption) ?_
          rotate_left
          · (intro w' hSw; (try dsimp only at hSw); (try simp only [List.getElem_toArray, List.getElem_cons_zero]); go_simp; try (with_reducible rfl))
          simp only [Act.put, List.getElem_toArray, List.getElem_cons_zero, List.setIfInBounds_toArray, List.set_cons_zero, List.set_cons_succ]
          refine wpAnyG_take (v := ?_) 1 (by rfl) (by kernel_rfl) (by kernel_rfl) (by kernel_rfl) (by kernel_rfl) (fun _ _ _ h => h) (Or.inl ⟨by rfl, ?_⟩) (by assumption) ?_
          rotate_left
          · (intro w' hSw; (try dsimp only at hSw); (try simp only [List.getElem_toArray, List.getElem_cons_succ, List.getElem_cons_zero]); go_simp; try (with_reducible rfl))
          simp only [Act.put, List.getElem_toArray, List.getElem_cons_succ, List.getElem_cons_zero, List.setIfInBounds_toArray, List.set_cons_zero, List.set_cons_succ]
          refine wpAnyG_take (v := ?_) 2 (by rfl) (by kernel_rfl) (by kernel_rfl) (by kernel_rfl) (by kernel_rfl) (fun _ _ _ h => h) (Or.inl ⟨by rfl, ?_⟩) (by assumption) ?_
          rotate_left
          · (intro w' hSw; (try dsimp only at hSw); (try simp only [List.getElem_toArray, List.getElem_cons_succ, List.getElem_cons_zero]); go_simp; try (with_reducible rfl))
          simp only [Act.put, List.getElem_toArray, List.getElem_cons_succ, List.getElem_cons_zero, List.setIfInBounds_toArray, List.set_cons_zero, List.set_cons_succ]
          refine wpAnyG_take (v := ?_) 3 (by rfl) (by kernel_rfl) (by kernel_rfl) (by kernel_rfl) (by kernel_rfl) (fun _ _ _ h => h) (Or.inl ⟨by rfl, ?_⟩) (by assumption) ?_
          rotate_left
          · (intro w' hSw; (try dsimp only at hSw); (try simp only [List.getElem_toArray, List.getElem_cons_succ, List.getElem_cons_zero]); go_simp; try (with_reducible rfl))
          simp only [Act.put, List.getElem_toArray, List.getElem_cons_succ, List.getElem_cons_zero, List.setIfInBounds_toArray, List.set_cons_zero, List.set_cons_succ]
          refine wpAnyG_take (v := ?_) 4 (by rfl) (by kernel_rfl) (by kernel_rfl) (by kernel_rfl) (by kernel_rfl) (fun _ _ _ h => h) (Or.inl ⟨by rfl, ?_⟩) (by assumption) ?_
          rotate_left
          · (intro w' hSw; (try dsimp only at hSw); (try simp only [List.getElem_toArray, List.getElem_cons_succ, List.getElem_cons_zero]); go_simp; try (with_reducible rfl))
          simp only [Act.put, List.getElem_toArray, List.getElem_cons_succ, List.getElem_cons_zero, List.setIfInBounds_toArray, List.set_cons_zero, List.set_cons_succ]
          refine wpAnyG_take (v := ?_) 5 (by rfl) (by kernel_rfl) (by kernel_rfl) (by kernel_rfl) (by kernel_rfl) (fun _ _ _ h => h) (Or.inl ⟨by rfl, ?_⟩) (by assumption) ?_
          rotate_left
          · (intro w' hSw; (try dsimp only at hSw); (try simp only [List.getElem_toArray, List.getElem_cons_succ, List.getElem_cons_zero]); go_simp; try (with_reducible rfl))
          simp only [Act.put, List.getElem_toArray, List.getElem_cons_succ, List.getElem_cons_zero, List.setIfInBounds_toArray, List.set_cons_zero, List.set_cons_succ]
          refine wpAnyG_take (v := ?_) 6 (by rfl) (by kernel_rfl) (by kernel_rfl) (by kernel_rfl) (by kernel_rfl) (fun _ _ _ h => h) (Or.inl ⟨by rfl, ?_⟩) (by assumption) ?_
          rotate_left
          · (intro w' hSw; (try dsimp only at hSw); (try simp only [List.getElem_toArray, List.getElem_cons_succ, List.getElem_cons_zero]); go_simp; try (with_reducible rfl))
          simp only [Act.put, List.getElem_toArray, List.getElem_cons_succ, List.getElem_cons_zero, List.setIfInBounds_toArray, List.set_cons_zero, List.set_cons_succ]
          refine wpAnyG_take (v := ?_) 7 (by rfl) (by kernel_rfl) (by kernel_rfl) (by kernel_rfl) (by kernel_rfl) (fun _ _ _ h => h) (Or.inl ⟨by rfl, ?_⟩) (by assumption) ?_
          rotate_left
          · (intro w' hSw; (try dsimp only at hSw); (try simp only [List.getElem_toArray, List.getElem_cons_succ, List.getElem_cons_zero]); go_simp; try (with_reducible rfl))
          simp only [Act.put, List.getElem_toArray, List.getElem_cons_succ, List.getElem_cons_zero, List.setIfInBounds_toArray, List.set_cons_zero, List.set_cons_succ]
          refine wpAnyG_take (v := ?_) 8 (by rfl) (by kernel_rfl) (by kernel_rfl) (by kernel_rfl) (by kernel_rfl) (fun _ _ _ h => h) (Or.inl ⟨by rfl, ?_⟩) (by assumption) ?_
          rotate_left
          · (intro w' hSw; (try dsimp only at hSw); (try simp only [List.getElem_toArray, List.getElem_cons_succ, List.getElem_cons_zero]); go_simp; try (with_reducible rfl))
          simp only [Act.put, List.getElem_toArray, List.getElem_cons_succ, List.getElem_cons_zero, List.setIfInBounds_toArray, List.set_cons_zero, List.set_cons_succ]
          refine wpAnyG_take (v := ?_) 9 (by rfl) (by kernel_rfl) (by kernel_rfl) (by kernel_rfl) (by kernel_rfl) (fun _ _ _ h => h) (Or.inl ⟨by rfl, ?_⟩) (by assumption) ?_
          rotate_left
          · (intro w' hSw; (try dsimp only at hSw); (try simp only [List.getElem_toArray, List.getElem_cons_succ, List.getElem_cons_zero]); go_simp; try (with_reducible rfl))
          simp only [Act.put, List.getElem_toArray, List.getElem_cons_succ, List.getElem_cons_zero, List.setIfInBounds_toArray, List.set_cons_zero, List.set_cons_succ]
          refine wpAnyG_take (v := undef) 10 (by rfl) (by kernel_rfl) (by kernel_rfl) (by kernel_rfl) (by kernel_rfl) (fun _ _ _ h => h) (Or.inr ⟨by rfl, rfl⟩) (by assumption) ?_
          simp only [Act.put, List.getElem_toArray, List.getElem_cons_succ, List.getElem_cons_zero, List.setIfInBounds_toArray, List.set_cons_zero, List.set_cons_succ]
          refine wpAnyG_take (v := undef) 11 (by rfl) (by kernel_rfl) (by kernel_rfl) (by kernel_rfl) (by kernel_rfl) (fun _ _ _ h => h) (Or.inr ⟨by rfl, rfl⟩) (by assumption) ?_
          simp only [Act.put, List.getElem_toArray, List.getElem_cons_succ, List.getElem_cons_zero, List.setIfInBounds_toArray, List.set_cons_zero, List.set_cons_succ]
          refine wpAnyG_take (v := undef) 12 (by rfl) (by kernel_rfl) (by kernel_rfl) (by kernel_rfl) (by kernel_rfl) (fun _ _ _ h => h) (Or.inr ⟨by rfl, rfl⟩) (by assumption) ?_
          simp only [Act.put, List.getElem_toArray, List.getElem_cons_succ, List.getElem_cons_zero, List.setIfInBounds_toArray, List.set_cons_zero, List.set_cons_succ]
          refine wpAnyG_take (v := undef) 13 (by rfl) (by kernel_rfl) (by kernel_rfl) (by kernel_rfl) (by kernel_rfl) (fun _ _ _ h => h) (Or.inr ⟨by rfl, rfl⟩) (by assumption) ?_
          simp only [Act.put, List.getElem_toArray, List.getElem_cons_succ, List.getElem_cons_zero, List.setIfInBounds_toArray, List.set_cons_zero, List.set_cons_succ]
          refine wpAnyG_take (v := undef) 14 (by rfl) (by kernel_rfl) (by kernel_rfl) (by kernel_rfl) (by kernel_rfl) (fun _ _ _ h => h) (Or.inr ⟨by rfl, rfl⟩) (by assumption) ?_
          simp only [Act.put, List.getElem_toArray, List.getElem_cons_succ, List.getElem_cons_zero, List.setIfInBounds_toArray, List.set_cons_zero, List.set_cons_succ]
          refine wpAnyG_take (v := undef) 15 (by rfl) (by kernel_rfl) (by kernel_rfl) (by kernel_rfl) (by kernel_rfl) (fun _ _ _ h => h) (Or.inr ⟨by rfl, rfl⟩) (by assumption) ?_
          simp only [Act.put, List.getElem_toArray, List.getElem_cons_succ, List.getElem_cons_zero, List.setIfInBounds_toArray, List.set_cons_zero, List.set_cons_succ]
          refine wpAnyG_take (v := undef) 16 (by rfl) (by kernel_rfl) (by kernel_rfl) (by kernel_rfl) (by kernel_rfl) (fun _ _ _ h => h) (Or.inr ⟨by rfl, rfl⟩) (by assumption) ?_
          simp only [Act.put, List.getElem_toArray, List.getElem_cons_succ, List.getElem_cons_zero, List.setIfInBounds_toArray, List.set_cons_zero, List.set_cons_succ]
          refine wpAnyG_take (v := undef) 17 (by rfl) (by kernel_rfl) (by kernel_rfl) (by kernel_rfl) (by kernel_rfl) (fun _ _ _ h => h) (Or.inr ⟨by rfl, rfl⟩) (by assumption) ?_
          simp only [Act.put, List.getElem_toArray, List.getElem_cons_succ, List.getElem_cons_zero, List.setIfInBounds_toArray, List.set_cons_zero, List.set_cons_succ]
          refine wpAnyG_take (v := ?_) 18 (by rfl) (by kernel_rfl) (by kernel_rfl) (by kernel_rfl) (by kernel_rfl) (fun _ _ _ h => h) (Or.inl ⟨by rfl, ?_⟩) (by assumption) ?_
          rotate_left
          · (intro w' hSw; (try dsimp only at hSw); (try simp only [List.getElem_toArray, List.getElem_cons_succ, List.getElem_cons_zero]); go_simp; try (with_reducible rfl))
          simp only [Act.put, List.getElem_toArray, List.getElem_cons_succ, List.getElem_cons_zero, List.setIfInBounds_toArray, List.set_cons_zero, List.set_cons_succ]
          refine wpAnyG_take (v := ?_) 19 (by rfl) (by kernel_rfl) (by kernel_rfl) (by kernel_rfl) (by kernel_rfl) (fun _ _ _ h => h) (Or.inl ⟨by rfl, ?_⟩) (by assumption) ?_
          rotate_left
          · (intro w' hSw; (try dsimp only at hSw); (try simp only [List.getElem_toArray, List.getElem_cons_succ, List.getElem_cons_zero]); go_simp; try (with_reducible rfl))
          simp only [Act.put, List.getElem_toArray, List.getElem_cons_succ, List.getElem_cons_zero, List.setIfInBounds_toArray, List.set_cons_zero, List.set_cons_succ]
          refine wpAnyG_take (v := undef) 20 (by rfl) (by kernel_rfl) (by kernel_rfl) (by kernel_rfl) (by kernel_rfl) (fun _ _ _ h => h) (Or.inr ⟨by rfl, rfl⟩) (by assumption) ?_
          simp only [Act.put, List.getElem_toArray, List.getElem_cons_succ, List.getElem_cons_zero, List.setIfInBounds_toArray, List.set_cons_zero, List.set_cons_succ]
          refine wpAnyG_take (v := undef) 21 (by rfl) (by kernel_rfl) (by kernel_rfl) (by kernel_rfl) (by kernel_rfl) (fun _ _ _ h => h) (Or.inr ⟨by rfl, rfl⟩) (by assumption) ?_
          simp only [Act.put, List.getElem_toArray, List.getElem_cons_succ, List.getElem_cons_zero, List.setIfInBounds_toArray, List.set_cons_zero, List.set_cons_succ]
          refine wpAnyG_take (v := undef) 22 (by rfl) (by kernel_rfl) (by kernel_rfl) (by kernel_rfl) (by kernel_rfl) (fun _ _ _ h => h) (Or.inr ⟨by rfl, rfl⟩) (by assumption) ?_
          simp only [Act.put, List.getElem_toArray, List.getElem_cons_succ, List.getElem_cons_zero, List.setIfInBounds_toArray, List.set_cons_zero, List.set_cons_succ]
          refine wpAnyG_take (v := undef) 23 (by rfl) (by kernel_rfl) (by kernel_rfl) (by kernel_rfl) (by kernel_rfl) (fun _ _ _ h => h) (Or.inr ⟨by rfl, rfl⟩) (by assumption) ?_
          simp only [Act.put, List.getElem_toArray, List.getElem_cons_succ, List.getElem_cons_zero, List.setIfInBounds_toArray, List.set_cons_zero, List.set_cons_succ]
          refine wpAnyG_take (v := undef) 24 (by rfl) (by kernel_rfl) (by kernel_rfl) (by kernel_rfl) (by kernel_rfl) (fun _ _ _ h => h) (Or.inr ⟨by rfl, rfl⟩) (by assumption) ?_
          simp only [Act.put, List.getElem_toArray, List.getElem_cons_succ, List.getElem_cons_zero, List.setIfInBounds_toArray, List.set_cons_zero, List.set_cons_succ]
          refine wpAnyG_take (v := undef) 25 (by rfl) (by kernel_rfl) (by kernel_rfl) (by kernel_rfl) (by kernel_rfl) (fun _ _ _ h => h) (Or.inr ⟨by rfl, rfl⟩) (by assumption) ?_
          simp only [Act.put, List.getElem_toArray, List.getElem_cons_succ, List.getElem_cons_zero, List.setIfInBounds_toArray, List.set_cons_zero, List.set_cons_succ]
          refine wpAnyG_take (v := undef) 26 (by rfl) (by kernel_rfl) (by kernel_rfl) (by kernel_rfl) (by kernel_rfl) (fun _ _ _ h => h) (Or.inr ⟨by rfl, rfl⟩) (by assumption) ?_
          simp only [Act.put, List.getElem_toArray, List.getElem_cons_succ, List.getElem_cons_zero, List.setIfInBounds_toArray, List.set_cons_zero, List.set_cons_succ]
          refine wpAnyG_take (v := undef) 27 (by rfl) (by kernel_rfl) (by kernel_rfl) (by kernel_rfl) (by kernel_rfl) (fun _ _ _ h => h) (Or.inr ⟨by rfl, rfl⟩) (by assumption) ?_
          simp only [Act.put, List.getElem_toArray, List.getElem_cons_succ, List.getElem_cons_zero, List.setIfInBounds_toArray, List.set_cons_zero, List.set_cons_succ]
          refine wpAnyG_take (v := undef) 28 (by rfl) (by kernel_rfl) (by kernel_rfl) (by kernel_rfl) (by kernel_rfl) (fun _ _ _ h => h) (Or.inr ⟨by rfl, rfl⟩) (by assumption) ?_
          simp only [Act.put, List.getElem_toArray, List.getElem_cons_succ, List.getElem_cons_zero, List.setIfInBounds_toArray, List.set_cons_zero, List.set_cons_succ]
          refine wpAnyG_take (v := undef) 29 (by rfl) (by kernel_rfl) (by kernel_rfl) (by kernel_rfl) (by kernel_rfl) (fun _ _ _ h => h) (Or.inr ⟨by rfl, rfl⟩) (by assumption) ?_
          simp only [Act.put, List.getElem_toArray, List.getElem_cons_succ, List.getElem_cons_zero, List.setIfInBounds_toArray, List.set_cons_zero, List.set_cons_succ]
          refine wpAnyG_take (v := ?_) 30 (by rfl) (by kernel_rfl) (by kernel_rfl) (by kernel_rfl) (by kernel_rfl) (fun _ _ _ h => h) (Or.inl ⟨by rfl, ?_⟩) (by assumption) ?_
          rotate_left
          · (intro w' hSw; (try dsimp only at hSw); (try simp only [List.getElem_toArray, List.getElem_cons_succ, List.getElem_cons_zero]); go_simp; try (with_reducible rfl))
          simp only [Act.put, List.getElem_toArray, List.getElem_cons_succ, List.getElem_cons_zero, List.setIfInBounds_toArray, List.set_cons_zero, List.set_cons_succ]
          refine wpAnyG_take (v := ?_) 31 (by rfl) (by kernel_rfl) (by kernel_rfl) (by kernel_rfl) (by kernel_rfl) (fun _ _ _ h => h) (Or.inl ⟨by rfl, ?_⟩) (by assumption) ?_
          rotate_left
          · (intro w' hSw; (try dsimp only at hSw); (try simp only [List.getElem_toArray, List.getElem_cons_succ, List.getElem_cons_zero]); go_simp; try (with_reducible rfl))
          simp only [Act.put, List.getElem_toArray, List.getElem_cons_succ, List.getElem_cons_zero, List.setIfInBounds_toArray, List.set_cons_zero, List.set_cons_succ]
          refine wpAnyG_done (by kernel_rfl) ?_ _
          refine NoPanic.normal ?_
          go_wp2
          rw [unhide HP]
          exact ⟨by rw [unhide HR2]; rfl, unhide HW _ (unhide HB).drew⟩
        · by_cases h3 : (q.tail.length : Int) ≤ z
          · have HR2 : Hid (E = false) := hide (by rw [unhide HR, if_neg (by rintro (h | h) <;> omega)])
            clear HR HA2
            go_upto_region 6 with fail
            have h2d : decide (z < 0) = false := decide_eq_false h2
            have h3d : decide ((q.tail.length : Int) ≤ z) = true := decide_eq_true h3
            refine wp_region_G (fun w' => w'.cell? ⟨b, o + v, none⟩ = some (.int .i64 z) ∧ w'.cell? ⟨w.heap.size, 1, none⟩ = some (.slice ta q.tail.length tc)) (fun _ => false) (by kernel_rfl) ⟨c1, x1⟩ (fun hHeld => ?_)
            refine wpAnyG_take (v := ?_) 0 (by rfl) (by kernel_rfl) (by kernel_rfl) (by kernel_rfl) (by kernel_rfl) (fun _ _ _ h => h) (Or.inl ⟨by rfl, ?_⟩) (by assumption) ?_
            rotate_left
            · (intro w' hSw; (try dsimp only at hSw); (try simp only [List.getElem_toArray, List.getElem_cons_zero]); go_simp; try (with_reducible rfl))
            simp only [Act.put, List.getElem_toArray, List.getElem_cons_zero, List.setIfInBounds_toArray, List.set_cons_zero, List.set_cons_succ]
            refine wpAnyG_take (v := ?_) 1 (by rfl) (by kernel_rfl) (by kernel_rfl) (by kernel_rfl) (by kernel_rfl) (fun _ _ _ h => h) (Or.inl ⟨by rfl, ?_⟩) (by assumption) ?_
            rotate_left
            · (intro w' hSw; (try dsimp only at hSw); (try simp only [List.getElem_toArray, List.getElem_cons_succ, List.getElem_cons_zero]); go_simp; try (with_reducible rfl))
            simp only [Act.put, List.getElem_toArray, List.getElem_cons_succ, List.getElem_cons_zero, List.setIfInBounds_toArray, List.set_cons_zero, List.set_cons_succ]
            refine wpAnyG_take (v := ?_) 2 (by rfl) (by kernel_rfl) (by kernel_rfl) (by kernel_rfl) (by kernel_rfl) (fun _ _ _ h => h) (Or.inl ⟨by rfl, ?_⟩) (by assumption) ?_
            rotate_left
            · (intro w' hSw; (try dsimp only at hSw); (try simp only [List.getElem_toArray, List.getElem_cons_succ, List.getElem_cons_zero]); go_simp; try (with_reducible rfl))
            simp only [Act.put, List.getElem_toArray, List.getElem_cons_succ, List.getElem_cons_zero, List.setIfInBounds_toArray, List.set_cons_zero, List.set_cons_succ]
            refine wpAnyG_take (v := ?_) 3 (by rfl) (by kernel_rfl) (by kernel_rfl) (by kernel_rfl) (by kernel_rfl) (fun _ _ _ h => h) (Or.inl ⟨by rfl, ?_⟩) (by assumption) ?_
            rotate_left
            · (intro w' hSw; (try dsimp only at hSw); (try simp only [List.getElem_toArray, List.getElem_cons_succ, List.getElem_cons_zero]); go_simp; try (with_reducible rfl))
            simp only [Act.put, List.getElem_toArray, List.getElem_cons_succ, List.getElem_cons_zero, List.setIfInBounds_toArray, List.set_cons_zero, List.set_cons_succ]
            refine wpAnyG_take (v := ?_) 4 (by rfl) (by kernel_rfl) (by kernel_rfl) (by kernel_rfl) (by kernel_rfl) (fun _ _ _ h => h) (Or.inl ⟨by rfl, ?_⟩) (by assumption) ?_
            rotate_left
            · (intro w' hSw; (try dsimp only at hSw); (try simp only [List.getElem_toArray, List.getElem_cons_succ, List.getElem_cons_zero]); go_simp; try (with_reducible rfl))
            simp only [Act.put, List.getElem_toArray, List.getElem_cons_succ, List.getElem_cons_zero, List.setIfInBounds_toArray, List.set_cons_zero, List.set_cons_succ]
            refine wpAnyG_take (v := ?_) 5 (by rfl) (by kernel_rfl) (by kernel_rfl) (by kernel_rfl) (by kernel_rfl) (fun _ _ _ h => h) (Or.inl ⟨by rfl, ?_⟩) (by assumption) ?_
            rotate_left
            · (intro w' hSw; (try dsimp only at hSw); (try simp only [List.getElem_toArray, List.getElem_cons_succ, List.getElem_cons_zero]); go_simp; try (with_reducible rfl))
            simp only [Act.put, List.getElem_toArray, List.getElem_cons_succ, List.getElem_cons_zero, List.setIfInBounds_toArray, List.set_cons_zero, List.set_cons_succ]
            refine wpAnyG_take (v := ?_) 6 (by rfl) (by kernel_rfl) (by kernel_rfl) (by kernel_rfl) (by kernel_rfl) (fun _ _ _ h => h) (Or.inl ⟨by rfl, ?_⟩) (by assumption) ?_
            rotate_left
            · (intro w' hSw; (try dsimp only at hSw); (try simp only [List.getElem_toArray, List.getElem_cons_succ, List.getElem_cons_zero]); go_simp; try (with_reducible rfl))
            simp only [Act.put, List.getElem_toArray, List.getElem_cons_succ, List.getElem_cons_zero, List.setIfInBounds_toArray, List.set_cons_zero, List.set_cons_succ]
            refine wpAnyG_take (v := ?_) 7 (by rfl) (by kernel_rfl) (by kernel_rfl) (by kernel_rfl) (by kernel_rfl) (fun _ _ _ h => h) (Or.inl ⟨by rfl, ?_⟩) (by assumption) ?_
            rotate_left
            · (intro w' hSw; (try dsimp only at hSw); (try simp only [List.getElem_toArray, List.getElem_cons_succ, List.getElem_cons_zero]); go_simp; try (with_reducible rfl))
            simp only [Act.put, List.getElem_toArray, List.getElem_cons_succ, List.getElem_cons_zero, List.setIfInBounds_toArray, List.set_cons_zero, List.set_cons_succ]
            refine wpAnyG_take (v := ?_) 8 (by rfl) (by kernel_rfl) (by kernel_rfl) (by kernel_rfl) (by kernel_rfl) (fun _ _ _ h => h) (Or.inl ⟨by rfl, ?_⟩) (by assumption) ?_
            rotate_left
            · (intro w' hSw; (try dsimp only at hSw); (try simp only [List.getElem_toArray, List.getElem_cons_succ, List.getElem_cons_zero]); go_simp; try (with_reducible rfl))
            simp only [Act.put, List.getElem_toArray, List.getElem_cons_succ, List.getElem_cons_zero, List.setIfInBounds_toArray, List.set_cons_zero, List.set_cons_succ]
            refine wpAnyG_take (v := ?_) 9 (by rfl) (by kernel_rfl) (by kernel_rfl) (by kernel_rfl) (by kernel_rfl) (fun _ _ _ h => h) (Or.inl ⟨by rfl, ?_⟩) (by assumption) ?_
            rotate_left
            · (intro w' hSw; (try dsimp only at hSw); (try simp only [List.getElem_toArray, List.getElem_cons_succ, List.getElem_cons_zero]); go_simp; try (with_reducible rfl))
            simp only [Act.put, List.getElem_toArray, List.getElem_cons_succ, List.getElem_cons_zero, List.setIfInBounds_toArray, List.set_cons_zero, List.set_cons_succ]
            refine wpAnyG_take (v := ?_) 10 (by rfl) (by kernel_rfl) (by kernel_rfl) (by kernel_rfl) (by kernel_rfl) (fun _ _ _ h => h) (Or.inl ⟨by rfl, ?_⟩) (by assumption) ?_
            rotate_left
            · (intro w' hSw; (try dsimp only at hSw); (try simp only [List.getElem_toArray, List.getElem_cons_succ, List.getElem_cons_zero]); go_simp; try (with_reducible rfl))
            simp only [Act.put, List.getElem_toArray, List.getElem_cons_succ, List.getElem_cons_zero, List.setIfInBounds_toArray, List.set_cons_zero, List.set_cons_succ]
            refine wpAnyG_take (v := ?_) 11 (by rfl) (by kernel_rfl) (by kernel_rfl) (by kernel_rfl) (by kernel_rfl) (fun _ _ _ h => h) (Or.inl ⟨by rfl, ?_⟩) (by assumption) ?_
            rotate_left
            · (intro w' hSw; (try dsimp only at hSw); (try simp only [List.getElem_toArray, List.getElem_cons_succ, List.getElem_cons_zero]); go_simp; try (with_reducible rfl))
            simp only [Act.put, List.getElem_toArray, List.getElem_cons_succ, List.getElem_cons_zero, List.setIfInBounds_toArray, List.set_cons_zero, List.set_cons_succ]
            refine wpAnyG_take (v := ?_) 12 (by rfl) (by kernel_rfl) (by kernel_rfl) (by kernel_rfl) (by kernel_rfl) (fun _ _ _ h => h) (Or.inl ⟨by rfl, ?_⟩) (by assumption) ?_
            rotate_left
            · (intro w' hSw; (try dsimp only at hSw); (try simp only [List.getElem_toArray, List.getElem_cons_succ, List.getElem_cons_zero]); go_simp; try (with_reducible rfl))
            simp only [Act.put, List.getElem_toArray, List.getElem_cons_succ, List.getElem_cons_zero, List.setIfInBounds_toArray, List.set_cons_zero, List.set_cons_succ]
            refine wpAnyG_take (v := ?_) 13 (by rfl) (by kernel_rfl) (by kernel_rfl) (by kernel_rfl) (by kernel_rfl) (fun _ _ _ h => h) (Or.inl ⟨by rfl, ?_⟩) (by assumption) ?_
            rotate_left
            · (intro w' hSw; (try dsimp only at hSw); (try simp only [List.getElem_toArray, List.getElem_cons_succ, List.getElem_cons_zero]); go_simp; try (with_reducible rfl))
            simp only [Act.put, List.getElem_toArray, List.getElem_cons_succ, List.getElem_cons_zero, List.setIfInBounds_toArray, List.set_cons_zero, List.set_cons_succ]
            refine wpAnyG_take (v := ?_) 14 (by rfl) (by kernel_rfl) (by kernel_rfl) (by kernel_rfl) (by kernel_rfl) (fun _ _ _ h => h) (Or.inl ⟨by rfl, ?_⟩) (by assumption) ?_
            rotate_left
            · (intro w' hSw; (try dsimp only at hSw); (try simp only [List.getElem_toArray, List.getElem_cons_succ, List.getElem_cons_zero]); go_simp; try (with_reducible rfl))
            simp only [Act.put, List.getElem_toArray, List.getElem_cons_succ, List.getElem_cons_zero, List.setIfInBounds_toArray, List.set_cons_zero, List.set_cons_succ]
            refine wpAnyG_take (v := ?_) 15 (by rfl) (by kernel_rfl) (by kernel_rfl) (by kernel_rfl) (by kernel_rfl) (fun _ _ _ h => h) (Or.inl ⟨by rfl, ?_⟩) (by assumption) ?_
            rotate_left
            · (intro w' hSw; (try dsimp only at hSw); (try simp only [List.getElem_toArray, List.getElem_cons_succ, List.getElem_cons_zero]); go_simp; try (with_reducible rfl))
            simp only [Act.put, List.getElem_toArray, List.getElem_cons_succ, List.getElem_cons_zero, List.setIfInBounds_toArray, List.set_cons_zero, List.set_cons_succ]
            refine wpAnyG_take (v := ?_) 16 (by rfl) (by kernel_rfl) (by kernel_rfl) (by kernel_rfl) (by kernel_rfl) (fun _ _ _ h => h) (Or.inl ⟨by rfl, ?_⟩) (by assumption) ?_
            rotate_left
            · (intro w' hSw; (try dsimp only at hSw); (try simp only [List.getElem_toArray, List.getElem_cons_succ, List.getElem_cons_zero]); go_simp; try (with_reducible rfl))
            simp only [Act.put, List.getElem_toArray, List.getElem_cons_succ, List.getElem_cons_zero, List.setIfInBounds_toArray, List.set_cons_zero, List.set_cons_succ]
            refine wpAnyG_take (v := ?_) 17 (by rfl) (by kernel_rfl) (by kernel_rfl) (by kernel_rfl) (by kernel_rfl) (fun _ _ _ h => h) (Or.inl ⟨by rfl, ?_⟩) (by assumption) ?_
            rotate_left
            · (intro w' hSw; (try dsimp only at hSw); (try simp only [List.getElem_toArray, List.getElem_cons_succ, List.getElem_cons_zero]); go_simp; try (with_reducible rfl))
            simp only [Act.put, List.getElem_toArray, List.getElem_cons_succ, List.getElem_cons_zero, List.setIfInBounds_toArray, List.set_cons_zero, List.set_cons_succ]
            refine wpAnyG_take (v := ?_) 18 (by rfl) (by kernel_rfl) (by kernel_rfl) (by kernel_rfl) (by kernel_rfl) (fun _ _ _ h => h) (Or.inl ⟨by rfl, ?_⟩) (by assumption) ?_
            rotate_left
            · (intro w' hSw; (try dsimp only at hSw); (try simp only [List.getElem_toArray, List.getElem_cons_succ, List.getElem_cons_zero]); go_simp; try (with_reducible rfl))
            simp only [Act.put, List.getElem_toArray, List.getElem_cons_succ, List.getElem_cons_zero, List.setIfInBounds_toArray, List.set_cons_zero, List.set_cons_succ]
            refine wpAnyG_take (v := ?_) 19 (by rfl) (by kernel_rfl) (by kernel_rfl) (by kernel_rfl) (by kernel_rfl) (fun _ _ _ h => h) (Or.inl ⟨by rfl, ?_⟩) (by assumption) ?_
            rotate_left
            · (intro w' hSw; (try dsimp only at hSw); (try simp only [List.getElem_toArray, List.getElem_cons_succ, List.getElem_cons_zero]); go_simp; try (with_reducible rfl))
            simp only [Act.put, List.getElem_toArray, List.getElem_cons_succ, List.getElem_cons_zero, List.setIfInBounds_toArray, List.set_cons_zero, List.set_cons_succ]
            refine wpAnyG_take (v := undef) 20 (by rfl) (by kernel_rfl) (by kernel_rfl) (by kernel_rfl) (by kernel_rfl) (fun _ _ _ h => h) (Or.inr ⟨by rfl, rfl⟩) (by assumption) ?_
            simp only [Act.put, List.getElem_toArray, List.getElem_cons_succ, List.getElem_cons_zero, List.setIfInBounds_toArray, List.set_cons_zero, List.set_cons_succ]
            refine wpAnyG_take (v := undef) 21 (by rfl) (by kernel_rfl) (by kernel_rfl) (by kernel_rfl) (by kernel_rfl) (fun _ _ _ h => h) (Or.inr ⟨by rfl, rfl⟩) (by assumption) ?_
            simp only [Act.put, List.getElem_toArray, List.getElem_cons_succ, List.getElem_cons_zero, List.setIfInBounds_toArray, List.set_cons_zero, List.set_cons_succ]
            refine wpAnyG_take (v := undef) 22 (by rfl) (by kernel_rfl) (by kernel_rfl) (by kernel_rfl) (by kernel_rfl) (fun _ _ _ h => h) (Or.inr ⟨by rfl, rfl⟩) (by assumption) ?_
            simp only [Act.put, List.getElem_toArray, List.getElem_cons_succ, List.getElem_cons_zero, List.setIfInBounds_toArray, List.set_cons_zero, List.set_cons_succ]
            refine wpAnyG_take (v := undef) 23 (by rfl) (by kernel_rfl) (by kernel_rfl) (by kernel_rfl) (by kernel_rfl) (fun _ _ _ h => h) (Or.inr ⟨by rfl, rfl⟩) (by assumption) ?_
            simp only [Act.put, List.getElem_toArray, List.getElem_cons_succ, List.getElem_cons_zero, List.setIfInBounds_toArray, List.set_cons_zero, List.set_cons_succ]
            refine wpAnyG_take (v := undef) 24 (by rfl) (by kernel_rfl) (by kernel_rfl) (by kernel_rfl) (by kernel_rfl) (fun _ _ _ h => h) (Or.inr ⟨by rfl, rfl⟩) (by assumption) ?_
            simp only [Act.put, List.getElem_toArray, List.getElem_cons_succ, List.getElem_cons_zero, List.setIfInBounds_toArray, List.set_cons_zero, List.set_cons_succ]
            refine wpAnyG_take (v := undef) 25 (by rfl) (by kernel_rfl) (by kernel_rfl) (by kernel_rfl) (by kernel_rfl) (fun _ _ _ h => h) (Or.inr ⟨by rfl, rfl⟩) (by assumption) ?_
            simp only [Act.put, List.getElem_toArray, List.getElem_cons_succ, List.getElem_cons_zero, List.setIfInBounds_toArray, List.set_cons_zero, List.set_cons_succ]
            refine wpAnyG_take (v := undef) 26 (by rfl) (by kernel_rfl) (by kernel_rfl) (by kernel_rfl) (by kernel_rfl) (fun _ _ _ h => h) (Or.inr ⟨by rfl, rfl⟩) (by assumption) ?_
            simp only [Act.put, List.getElem_toArray, List.getElem_cons_succ, List.getElem_cons_zero, List.setIfInBounds_toArray, List.set_cons_zero, List.set_cons_succ]
            refine wpAnyG_take (v := undef) 27 (by rfl) (by kernel_rfl) (by kernel_rfl) (by kernel_rfl) (by kernel_rfl) (fun _ _ _ h => h) (Or.inr ⟨by rfl, rfl⟩) (by assumption) ?_
            simp only [Act.put, List.getElem_toArray, List.getElem_cons_succ, List.getElem_cons_zero, List.setIfInBounds_toArray, List.set_cons_zero, List.set_cons_succ]
            refine wpAnyG_take (v := undef) 28 (by rfl) (by kernel_rfl) (by kernel_rfl) (by kernel_rfl) (by kernel_rfl) (fun _ _ _ h => h) (Or.inr ⟨by rfl, rfl⟩) (by assumption) ?_
            simp only [Act.put, List.getElem_toArray, List.getElem_cons_succ, List.getElem_cons_zero, List.setIfInBounds_toArray, List.set_cons_zero, List.set_cons_succ]
            refine wpAnyG_take (v := undef) 29 (by rfl) (by kernel_rfl) (by kernel_rfl) (by kernel_rfl) (by kernel_rfl) (fun _ _ _ h => h) (Or.inr ⟨by rfl, rfl⟩) (by assumption) ?_
            simp only [Act.put, List.getElem_toArray, List.getElem_cons_succ, List.getElem_cons_zero, List.setIfInBounds_toArray, List.set_cons_zero, List.set_cons_succ]
            refine wpAnyG_take (v := ?_) 30 (by rfl) (by kernel_rfl) (by kernel_rfl) (by kernel_rfl) (by kernel_rfl) (fun _ _ _ h => h) (Or.inl ⟨by rfl, ?_⟩) (by assumption) ?_
            rotate_left
            · (intro w' hSw; (try dsimp only at hSw); (try simp only [List.getElem_toArray, List.getElem_cons_succ, List.getElem_cons_zero]); go_simp; try (with_reducible rfl))
            simp only [Act.put, List.getElem_toArray, List.getElem_cons_succ, List.getElem_cons_zero, List.setIfInBounds_toArray, List.set_cons_zero, List.set_cons_succ]
            refine wpAnyG_take (v := ?_) 31 (by rfl) (by kernel_rfl) (by kernel_rfl) (by kernel_rfl) (by kernel_rfl) (fun _ _ _ h => h) (Or.inl ⟨by rfl, ?_⟩) (by assumption) ?_
            rotate_left
            · (intro w' hSw; (try dsimp only at hSw); (try simp only [List.getElem_toArray, List.getElem_cons_succ, List.getElem_cons_zero]); go_simp; try (with_reducible rfl))
            simp only [Act.put, List.getElem_toArray, List.getElem_cons_succ, List.getElem_cons_zero, List.setIfInBounds_toArray, List.set_cons_zero, List.set_cons_succ]
            refine wpAnyG_done (by kernel_rfl) ?_ _
            refine NoPanic.normal ?_
            go_wp2
            rw [unhide HP]
            exact ⟨by rw [unhide HR2]; rfl, unhide HW _ (unhide HB).drew⟩
          · obtain ⟨d, rfl⟩ : ∃ d : Nat, z = (d : Int) := ⟨z.toNat, by omega⟩
            rw [Int.toNat_natCast] at HR
            have hdl : d < q.tail.length := by omega
            have hdI : (d : Int) < (q.tail.length : Int) := by omega
            have h3N : ¬ q.tail.length ≤ d := by omega
            have HHA : Hid (∀ j, j < v + 1 → j ≠ r → 0 ≤ U.getD j 0 ∧ U.getD j 0 < (q.tail.length : Int)) := hide (unhide HA2 ⟨by omega, hdI⟩)
            clear HA2
            obtain ⟨tb, tt, rfl, -, ht⟩ := unhide HT2 d hdl
            have ct := ht wr (unhide HW _ (unhide HB))
            clear ht
            generalize q.tail.getD d 0 = t at *
            by_cases h4 : t = (v : Int)
            · have HR2 : Hid (E = Sp.edgesGo q.tail U (r : Int) g' (v + 1)) := hide (by rw [unhide HR, if_pos (.inr ⟨by omega, hdI, h4⟩)])
              have e4 : (t == (v : Int)) = true := by rw [h4]; exact beq_self_eq_true _
              clear HR
              go_upto_region 6 with fail
              go_quiet (fail)
              go_wp2
              go_roundg g'
              case rel => exact ⟨v + 1, by omega, by go_num, hide ⟨below_dn (unhide HB) nq, unhide HR2, unhide HHA⟩⟩
              case measure => omega
            · have HR2 : Hid (E = false) := hide (by rw [unhide HR, if_neg (fun h => h.elim h1I (fun h => h4 h.2.2))])
              have e4 : (t == (v : Int)) = false := beq_eq_false_iff_ne.2 h4
              clear HR
              go_upto_region 6 with fail
              go_quiet (fail)
              go_wp2
              rw [unhide HP]
              exact ⟨by rw [unhide HR2]; rfl, unhide HW _ (below_dn (unhide HB) nq)⟩
end Go.Proofs.Ytenffkplneimlaa


/- The reference's Right of any row, any root; within. -/
namespace Go.Proofs.Ytenffkplneimlaa
open Go Go.RowKit

theorem right2_any (q : Sp.Net) (U : List Int) (root : Int) (N : Nat) (v tv nv cv uv : Value) (w : World) (hv : NetI w v q tv nv cv) (hu : Ints w uv U) (hev : q.tail.length % 2 = 0) (h240 : q.tail.length ≤ 240) (hN : q.n = (N : Int)) (hN2 : N ≤ 200) (hT : ∀ x ∈ q.tail, 0 ≤ x ∧ x < (N : Int)) :
    Calls Try.prog 20 #[v, uv, .int .i64 root] w fun e w' => e = .returned (.bool (Sp.rightB q U root)) ∧ Below w.heap.size w w' := by
  by_cases h : (U.length : Int) = q.n ∧ 0 ≤ root ∧ root < q.n ∧ U.getD root.toNat 0 = -1
  · have e : Sp.rightB q U root = (Sp.edgesGo q.tail U root q.n.toNat 0 && Sp.chainsGo q.tail U root q.n.toNat q.n.toNat 0) := by
      unfold Sp.rightB; rw [decide_eq_true h]; rfl
    obtain ⟨h1, h2, h3, h4⟩ := h
    obtain ⟨r, rfl⟩ : ∃ r : Nat, root = (r : Int) := ⟨root.toNat, by omega⟩
    rw [Int.toNat_natCast] at h4
    rw [e, hN, Int.toNat_natCast]
    rw [hN] at h1 h3
    exact right2_go q U r N v tv nv cv uv w hv hu hev h240 hN (by omega) hT (by omega) (by omega) h4
  · have e : Sp.rightB q U root = false := by
      unfold Sp.rightB; rw [decide_eq_false h]; rfl
    rw [e]
    exact right2_no q U root v tv nv cv uv w hv hu h
theorem tmod_casesF (a n : Int) (hn : 0 < n) : (a.tmod n < 0 ∧ a.tmod n + n = a % n) ∨ (0 ≤ a.tmod n ∧ a.tmod n = a % n) := by
  have h0 : 0 ≤ a % n := Int.emod_nonneg a (by omega)
  have h1 : a % n < n := Int.emod_lt_of_pos a hn
  have e := Int.tmod_eq_emod (a := a) (b := n)
  split at e
  · right; omega
  · left
    have : ((n.natAbs : Nat) : Int) = n := by omega
    omega
theorem ret_intF {k : IntKind} {a b : Int} (h : a = b) : Ending.returned (.int k a) = .returned (.int k b) := by rw [h]
set_option maxHeartbeats 400000 in
theorem within4_any (a n : Int) (w : World) (hn : 0 < n) (hn1 : n ≤ 4611686018427387904) :
    Calls Try.prog 11 #[.int .i64 a, .int .i64 n] w fun e w' => e = .returned (.int .i64 (a % n)) ∧ w' = w := by
  have h0 : 0 ≤ a % n := Int.emod_nonneg a (by omega)
  have h1 : a % n < n := Int.emod_lt_of_pos a hn
  rcases tmod_casesF a n hn with ⟨ha, hb⟩ | ⟨ha, hb⟩
  · have hc : -n ≤ a.tmod n := by omega
    have Hb := hide hb; clear hb h0 h1
    go_enter Try.func11, Try.ntmps11
    go_wp2
    go_ret
    exact ⟨ret_intF (unhide Hb), rfl⟩
  · have Hb := hide hb; clear hb h0 h1
    go_enter Try.func11, Try.ntmps11
    go_wp2
    go_ret
    exact ⟨ret_intF (unhide Hb), rfl⟩
end Go.Proofs.Ytenffkplneimlaa


/- The fourth law's known. -/
namespace Go.Proofs.Ytenffkplneimlaa
open Go Go.RowKit

theorem q1_span : Sp.span Sp.q1 0 = [-1] := by decide +kernel
theorem q0_span : Sp.span Sp.q0 0 = [-1, 1] := by decide +kernel
theorem q0_right : Sp.rightB Sp.q0 [-1, 1] 0 = true := by decide +kernel
theorem q0_way : Sp.wayGo Sp.q0.tail [-1, 1] 3 1 [] = some [1] := by decide +kernel
theorem q0_left : Sp.leftL Sp.q0 [-1, 1] = [] := by decide +kernel
set_option maxRecDepth 100000 in
set_option maxHeartbeats 2000000 in
theorem known4_any (w : World) :
    Calls Try.prog 9 #[] w fun e w' => e = .returned (.bool true) ∧ Below w.heap.size w w' := by
  have HL := hide (lit_net w 2 [0, 1] [0, 1] [5, 3] 2 2 2 rfl rfl rfl (by simp))
  obtain ⟨P, hP⟩ : ∃ P : Ending → World → Prop, P = fun e w' => e = .returned (.bool true) ∧ Below w.heap.size w w' := ⟨_, rfl⟩
  rw [← hP]
  have HP := hide hP
  clear hP
  go_enter Try.func9, Try.ntmps9
  go_upto_region 2 with fail
  have hWW : ((((w.alloc (.cells #[.int .i64 0, .int .i64 1] 3)).alloc (.cells #[.int .i64 0, .int .i64 1] 3)).alloc (.cells #[.int .i64 5, .int .i64 3] 3)).alloc (.cells #[.int .i64 2, .slice (some ⟨w.heap.size, 0, none⟩) 2 2, .slice (some ⟨w.heap.size + 1, 0, none⟩) 2 2, .slice (some ⟨w.heap.size + 1 + 1, 0, none⟩) 2 2] 25)) = ((((w.alloc (.cells (([0, 1] : List Int).map (Value.int .i64)).toArray 3)).alloc (.cells (([0, 1] : List Int).map (Value.int .i64)).toArray 3)).alloc (.cells (([5, 3] : List Int).map (Value.int .i64)).toArray 3)).alloc (.cells #[.int .i64 2, .slice (some ⟨w.heap.size, 0, none⟩) 2 2, .slice (some ⟨w.heap.size + 1, 0, none⟩) 2 2, .slice (some ⟨w.heap.size + 1 + 1, 0, none⟩) 2 2] 25)) := rfl
  rw [← hWW] at HL
  clear hWW
  have hs4 : ((((w.alloc (.cells #[.int .i64 0, .int .i64 1] 3)).alloc (.cells #[.int .i64 0, .int .i64 1] 3)).alloc (.cells #[.int .i64 5, .int .i64 3] 3)).alloc (.cells #[.int .i64 2, .slice (some ⟨w.heap.size, 0, none⟩) 2 2, .slice (some ⟨w.heap.size + 1, 0, none⟩) 2 2, .slice (some ⟨w.heap.size + 1 + 1, 0, none⟩) 2 2] 25)).heap.size = w.heap.size + 4 := by simp
  generalize ((((w.alloc (.cells #[.int .i64 0, .int .i64 1] 3)).alloc (.cells #[.int .i64 0, .int .i64 1] 3)).alloc (.cells #[.int .i64 5, .int .i64 3] 3)).alloc (.cells #[.int .i64 2, .slice (some ⟨w.heap.size, 0, none⟩) 2 2, .slice (some ⟨w.heap.size + 1, 0, none⟩) 2 2, .slice (some ⟨w.heap.size + 1 + 1, 0, none⟩) 2 2] 25)) = W4 at *
  have HT : Hid (∀ w2 w3, Below (w.heap.size + 4) W4 w2 → Below w2.heap.size w2 w3 → Below (w.heap.size + 4) W4 w3) := hide fun w2 w3 h2 h3 => h2.trans (h3.mono (unhide HL w2 h2).2.2.1)
  have hb4 : Below (w.heap.size + 4) W4 W4 := Below.refl _ _
  have HX : Hid (∀ w', Below (w.heap.size + 4) W4 w' → w'.cell? ⟨w.heap.size + 1 + 1 + 1, 0, none⟩ = some (.int .i64 2) ∧ w'.cell? ⟨w.heap.size + 1 + 1 + 1, 1, none⟩ = some (.slice (some ⟨w.heap.size, 0, none⟩) 2 2) ∧ w'.cell? ⟨w.heap.size + 1 + 1 + 1, 2, none⟩ = some (.slice (some ⟨w.heap.size + 1, 0, none⟩) 2 2) ∧ w'.cell? ⟨w.heap.size + 1 + 1 + 1, 3, none⟩ = some (.slice (some ⟨w.heap.size + 1 + 1, 0, none⟩) 2 2)) := hide fun w' hb => (unhide HL w' hb).2.2.2
  have HS1 : Hid (∀ w', Below (w.heap.size + 4) W4 w' → Calls Try.prog 12 #[.agg #[.int .i64 1, .slice none 0 0, .slice none 0 0, .slice none 0 0], .int .i64 0] w' fun e w'' => ∃ g c, e = .returned (.slice (some ⟨g, 0, none⟩) 1 c) ∧ OwnI w'' w'.heap.size (.slice (some ⟨g, 0, none⟩) 1 c) [-1] ∧ Below w'.heap.size w' w'') := by
    refine hide fun w' hb => (span_any Sp.q1 0 1 _ _ _ _ w' ⟨rfl, ints_nil _, ints_nil _, ints_nil _⟩ rfl (by decide) rfl (by decide) (by decide) (by decide) (fun x hx => by cases hx)).mono ?_
    rw [show ((0 : Nat) : Int) = 0 from rfl, q1_span]
    rintro e w'' ⟨lv, rfl, ho, hl⟩
    obtain ⟨g, c, rfl, -, -, -, -⟩ := own_form ho (by decide)
    exact ⟨g, c, rfl, ho, hl⟩
  have HS0 : Hid (∀ w', Below (w.heap.size + 4) W4 w' → Calls Try.prog 12 #[.agg #[.int .i64 2, .slice (some ⟨w.heap.size, 0, none⟩) 2 2, .slice (some ⟨w.heap.size + 1, 0, none⟩) 2 2, .slice (some ⟨w.heap.size + 1 + 1, 0, none⟩) 2 2], .int .i64 0] w' fun e w'' => ∃ g c, e = .returned (.slice (some ⟨g, 0, none⟩) 2 c) ∧ OwnI w'' w'.heap.size (.slice (some ⟨g, 0, none⟩) 2 c) [-1, 1] ∧ Below w'.heap.size w' w'') := by
    refine hide fun w' hb => (span_any Sp.q0 0 2 _ _ _ _ w' (unhide HL w' hb).1 (by decide) (by decide) rfl (by decide) (by decide) (by decide) (by decide)).mono ?_
    rw [show ((0 : Nat) : Int) = 0 from rfl, q0_span]
    rintro e w'' ⟨lv, rfl, ho, hl⟩
    obtain ⟨g, c, rfl, -, -, -, -⟩ := own_form ho (by decide)
    exact ⟨g, c, rfl, ho, hl⟩
  clear hs4
  go_region_held3 (fun w' => w'.cell? ⟨w.heap.size + 1 + 1 + 1, 0, none⟩ = some (.int .i64 2) ∧ w'.cell? ⟨w.heap.size + 1 + 1 + 1, 1, none⟩ = some (.slice (some ⟨w.heap.size, 0, none⟩) 2 2) ∧ w'.cell? ⟨w.heap.size + 1 + 1 + 1, 2, none⟩ = some (.slice (some ⟨w.heap.size + 1, 0, none⟩) 2 2) ∧ w'.cell? ⟨w.heap.size + 1 + 1 + 1, 3, none⟩ = some (.slice (some ⟨w.heap.size + 1 + 1, 0, none⟩) 2 2))
    (first
      | exact unhide HX _ hb6
      | exact unhide HX _ hb5
      | exact unhide HX _ hb4.drew)
    (first
      | (go_at_call_of 12 (Value.agg #[.int .i64 1, .slice none 0 0, .slice none 0 0, .slice none 0 0])
         refine (unhide HS1 _ hb4.drew).mono ?_
         rintro e w5 ⟨g5, c5, rfl, ho5, hl5⟩
         have hb5 := unhide HT _ _ hb4.drew hl5)
      | (go_at_call 12
         refine (unhide HS0 _ hb5).mono ?_
         rintro e w6 ⟨g6, c6, rfl, ho6, hl6⟩
         have hb6 := unhide HT _ _ hb5 hl6))
  all_goals
    have HO5 := hide (own_below ho5 hl6)
    have HO6 := hide ho6
    obtain ⟨x0, x1, x2, x3⟩ := unhide HX w6 hb6
    have Hb6 := hide hb6
    clear ho5 ho6 hl5 hl6 hb4 hb5 hb6
    go_wp2_with fail
    have HLit := hide (own_lit w6 w6.heap.size w6.heap.size 2 [-1, 1] rfl rfl (Nat.le_refl _) (by decide))
    have hWW : (w6.alloc (.cells #[.int .i64 (-1), .int .i64 1] 3)) = w6.alloc (.cells (([-1, 1] : List Int).map (Value.int .i64)).toArray 3) := rfl
    rw [← hWW] at HLit
    clear hWW
    have hl7 : Below w6.heap.size w6 (w6.alloc (.cells #[.int .i64 (-1), .int .i64 1] 3)) := (Below.refl _ _).alloc (Nat.le_refl _) _
    clear x0 x1 x2 x3
    generalize w6.alloc (.cells #[.int .i64 (-1), .int .i64 1] 3) = W7 at *
    have hb7 := unhide HT _ _ (unhide Hb6) hl7
    have HO5' := hide (own_below (unhide HO5) hl7)
    have HO6' := hide (own_below (unhide HO6) hl7)
    go_at_call 18
    refine (way_any Sp.q0 [-1, 1] 0 2 1 3 [1] _ _ _ _ _ W7 (unhide HL W7 hb7).1 (unhide HLit).ints (by decide) (by decide) rfl (by decide) (by decide) (by decide) q0_right (by decide) (by decide) q0_way).mono ?_
    rintro e w8 ⟨lv, rfl, ho8, hl8⟩
    obtain ⟨g8, c8, rfl, -, -, -, -⟩ := own_form ho8 (by decide)
    have hb8 := unhide HT _ _ hb7 hl8
    have HP5 := hide (own_below (unhide HO5') hl8)
    have HP6 := hide (own_below (unhide HO6') hl8)
    have HP8 := hide ho8
    obtain ⟨x0, x1, x2, x3⟩ := unhide HX w8 hb8
    have c0 := own_cell (unhide HP5) 0 (by decide)
    have c1 := own_cell (unhide HP6) 1 (by decide)
    have Hb8 := hide hb8
    clear ho8 hl8 hb8 hl7 hb7 HO5 HO6 HO5' HO6' HLit
    go_wp2_with fail
    go_at_call 15
    refine (right_any Sp.q0 [-1, 1] 0 2 _ _ _ _ _ w8 (unhide HL w8 (unhide Hb8)).1 (OwnI.ints (unhide HP6)) (by decide) (by decide) rfl (by decide) (by decide) (by decide)).mono ?_
    rw [q0_right]
    rintro e w9 ⟨rfl, hl9⟩
    have hb9 := unhide HT _ _ (unhide Hb8) hl9
    have HQ6 := hide (own_below (unhide HP6) hl9)
    have HQ8 := hide (own_below (unhide HP8) hl9)
    clear x0 x1 x2 x3 c0 c1 hl9
    obtain ⟨x0, x1, x2, x3⟩ := unhide HX w9 hb9
    have Hb9 := hide hb9
    clear hb9 HP5 HP6 HP8 Hb8
    go_wp2_with fail
    go_at_call 16
    refine (left_any Sp.q0 [-1, 1] 0 2 _ _ _ _ _ w9 (unhide HL w9 (unhide Hb9)).1 (OwnI.ints (unhide HQ6)) (by decide) (by decide) rfl (by decide) (by decide) (by decide) q0_right).mono ?_
    rw [q0_left]
    rintro e w10 ⟨lv, rfl, ho10, hl10⟩
    obtain ⟨_, _, rfl, -, -⟩ := ho10.ints.form
    have hb10 := unhide HT _ _ (unhide Hb9) hl10
    have c2 := own_cell (own_below (unhide HQ8) hl10) 0 (by decide)
    have HB := hide (unhide HL w10 hb10).2.1
    clear x0 x1 x2 x3 hl10 hb10 ho10 HQ6 HQ8 Hb9
    go_wp2
    rw [unhide HP]
    exact ⟨rfl, unhide HB⟩
end Go.Proofs.Ytenffkplneimlaa


/- Package dual: a mesh's own questions. -/
namespace Go.Proofs.Ytenffkplneimlaa
open Go Go.RowKit

/-- A mesh. -/
structure MeshI (w : World) (v : Value) (q : Sp.Net) (F : List Int) (K : Nat) (tv nv cv fv : Value) : Prop where
  val : v = .agg #[.int .i64 q.n, tv, nv, cv, fv, .int .i64 (K : Int)]
  tail : Ints w tv q.tail
  next : Ints w nv q.next
  cap : Ints w cv q.cap
  of : Ints w fv F
theorem MeshI.below {w w' : World} {v : Value} {q : Sp.Net} {F : List Int} {K : Nat} {tv nv cv fv : Value} (h : MeshI w v q F K tv nv cv fv) (hb : Below w.heap.size w w') : MeshI w' v q F K tv nv cv fv :=
  ⟨h.val, h.tail.below hb, h.next.below hb, h.cap.below hb, h.of.below hb⟩
end Go.Proofs.Ytenffkplneimlaa


/- Package dual: linked. -/
namespace Go.Proofs.Ytenffkplneimlaa
open Go Go.RowKit

theorem Ints.allG {w : World} {v : Value} {l : List Int} (h : Ints w v l) : ∃ (a : Option Addr) (c : Nat), v = .slice a l.length c ∧ l.length ≤ c ∧ c ≤ maxLen ∧ Hid (∀ k, k < l.length → ∃ b o, a = some ⟨b, o, none⟩ ∧ b < w.heap.size ∧ ∀ w', Below w.heap.size w w' → w'.cell? ⟨b, o + k, none⟩ = some (.int .i64 (l.getD k 0))) := by
  obtain ⟨a, c, e, h1, h2, h3⟩ := h.all
  refine ⟨a, c, e, h1, h2, hide fun k hk => ?_⟩
  obtain ⟨b, o, e1, e2, e3⟩ := unhide h3 k hk
  exact ⟨b, o, e1, e2, fun w' hb => by rw [e3 w' hb, Sp.getD_eq _ _ hk]⟩
end Go.Proofs.Ytenffkplneimlaa


/- Package dual: each. -/
namespace Go.Proofs.Ytenffkplneimlaa
open Go Go.RowKit

theorem map_fill (G : Nat → Int) (n j : Nat) (hj : j < n) : ((List.range j).map G ++ List.replicate (n - j) 0).set j (G j) = (List.range (j + 1)).map G ++ List.replicate (n - (j + 1)) 0 := by
  rw [List.set_append_right _ _ (by simp), List.range_succ, List.map_append, List.append_assoc]
  congr 1
  obtain ⟨m, hm⟩ : ∃ m, n - j = m + 1 := ⟨n - j - 1, by omega⟩
  rw [hm, show n - (j + 1) = m by omega, List.replicate_succ]
  simp
end Go.Proofs.Ytenffkplneimlaa


/- Package dual: meshOf. -/
namespace Go.Proofs.Ytenffkplneimlaa
open Go Go.RowKit

/-- Along a face that is not laid yet. -/
theorem Sp.FSt.along {st : List Int} (hp : Sp.Perm st) {d k : Nat} {of : List Int} (h : Sp.FSt st d of k) (hd : d < st.length) (h0 : of.getD d 0 = -1) (t : Nat) (ht : t < Sp.per st d) :
    (Sp.paint k of (Sp.rounds st d t)).getD (itf (Sp.fn st) d t) 0 = -1 := by
  have hx := hp.fnP.it hd t
  have hin : ∀ m, of.getD (itf (Sp.fn st) d m) 0 = -1 := fun m => by
    induction m with
    | zero => exact h0
    | succ m ih => exact (h.inv _ (hp.fnP.it hd m)).trans ih
  rw [Sp.paint_get k _ of _ (fun x hx' => ?_) (by rw [h.len]; exact hx), if_neg ?_]
  · exact hin t
  · intro hm
    obtain ⟨i, hi, e⟩ := List.mem_map.1 hm
    rw [List.mem_range] at hi
    rw [hp.nth_it hd] at e
    have e2 : Sp.nth st d (i + (t - i)) = Sp.nth st d i := by rw [show i + (t - i) = t by omega, hp.nth_it hd, hp.nth_it hd, e]
    exact (hp.per hd).2.2.2 (t - i) (by omega) (by omega) (hp.back hd i (t - i) e2)
  · obtain ⟨i, -, rfl⟩ := List.mem_map.1 hx'
    rw [hp.nth_it hd]
    omega
theorem Sp.FSt.round {st : List Int} (hp : Sp.Perm st) {d k : Nat} {of : List Int} (h : Sp.FSt st d of k) (hd : d < st.length) :
    (Sp.paint k of (Sp.rounds st d (Sp.per st d))).getD d 0 = (k : Int) := by
  have hpp := hp.per hd
  rw [Sp.paint_get k _ of _ (fun x hx' => ?_) (by rw [h.len]; exact hd), if_pos ?_]
  · exact List.mem_map.2 ⟨0, List.mem_range.2 (by omega), rfl⟩
  · obtain ⟨i, -, rfl⟩ := List.mem_map.1 hx'
    rw [hp.nth_it hd]
    omega
end Go.Proofs.Ytenffkplneimlaa


