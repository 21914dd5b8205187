/- What the proof needs, part 8. -/
import Derived.WalkMore
import Derived.Scope
import Derived.Test.YtenffkplneimlabL7
/- Package tree: Way of a tree. -/
namespace Go.Proofs.Ytenffkplneimlab
open Go Go.RowKit

set_option maxRecDepth 100000 in
set_option maxHeartbeats 4000000 in
theorem way_any (q : Sp.Net) (U : List Int) (r N x G : Nat) (R : List Int) (v tv nv cv uv : Value) (w : World) (hv : NetI w v q tv nv cv) (hu : Ints w uv U) (hev : q.tail.length % 2 = 0) (h240 : q.tail.length ≤ 240) (hN : q.n = (N : Int)) (hN2 : N ≤ 60) (hn : q.n ≤ ((q.tail.length / 2 : Nat) : Int) + 1) (hT : ∀ x ∈ q.tail, 0 ≤ x ∧ x < q.n) (hR : Sp.rightB q U (r : Int) = true) (hx : x < N) (hG : G ≤ 240) (hW : Sp.wayGo q.tail U G x [] = some R) :
    Calls Try.prog 14 #[v, uv, .int .i64 (x : Int)] w fun e w' => ∃ lv, e = .returned lv ∧ OwnI w' w.heap.size lv R ∧ Below w.heap.size w w' := by
  obtain ⟨hUl, hrN, hUr, hE, -⟩ := Sp.right_parts hN hR
  have hv' := hv
  have hu' := hu
  obtain ⟨rfl, h1, h2, h3⟩ := hv
  obtain ⟨ta, tc, rfl, -, -⟩ := h1.form
  obtain ⟨na, nc, rfl, -, -⟩ := h2.form
  obtain ⟨ca, cc, rfl, -, -⟩ := h3.form
  obtain ⟨ua, uc, rfl, -, -, HU⟩ := hu.allD
  clear h1 h2 h3 hu
  obtain ⟨bu, ou, rfl, -, -⟩ := unhide HU x (by omega)
  have HBX := hide (box_new w q.n (.slice ta q.tail.length tc) (.slice na q.next.length nc) (.slice ca q.cap.length cc))
  obtain ⟨W1, hW1⟩ : ∃ W1, W1 = w.alloc (.cells #[.int .i64 q.n, .slice ta q.tail.length tc, .slice na q.next.length nc, .slice ca q.cap.length cc] 25) := ⟨_, rfl⟩
  rw [← hW1] at HBX
  have hb1 : Below w.heap.size w W1 := by rw [hW1]; exact (Below.refl _ w).alloc (Nat.le_refl _) _
  have hs1 : W1.heap.size = w.heap.size + 1 := by rw [hW1]; simp
  have HW : Hid (∀ w', Below (w.heap.size + 1) W1 w' → Below w.heap.size w w') := hide fun w' hb => hb1.trans (hb.mono (by omega))
  have HV : Hid (∀ w', Below (w.heap.size + 1) W1 w' → NetI w' (.agg #[.int .i64 q.n, .slice ta q.tail.length tc, .slice na q.next.length nc, .slice ca q.cap.length cc]) q (.slice ta q.tail.length tc) (.slice na q.next.length nc) (.slice ca q.cap.length cc)) := hide fun w' hb => by
    have hb0 := unhide HW w' hb
    exact ⟨rfl, hv'.tail.below hb0, hv'.next.below hb0, hv'.cap.below hb0⟩
  have HTr := hide (fun w' (hb : Below (w.heap.size + 1) W1 w') => isTree_yes q U r N _ _ _ _ (.slice (some ⟨bu, ou, none⟩) U.length uc) w' (unhide HV w' hb) (hu'.below (unhide HW w' hb)) hev h240 hN hN2 hn hT hR)
  have HIs := hide (fun w' (hb : Below (w.heap.size + 1) W1 w') => isVertex_any q _ _ _ _ (x : Int) w' (unhide HV w' hb))
  rw [decide_eq_true (show 0 ≤ (x : Int) ∧ (x : Int) < q.n by omega)] at HIs
  have HHd := hide (fun (y : Nat) w' (hy : y < q.tail.length) (hb : Below (w.heap.size + 1) W1 w') => head_any' q _ _ _ _ y w' (unhide HV w' hb) hy hev h240)
  have HTb := hide (show ∀ y ∈ q.tail, 0 ≤ y ∧ y < (N : Int) from fun y hy => by have := hT y hy; omega)
  have HO := hide (fun (y : Nat) (hy : y < q.tail.length) => oth_lt hy hev)
  have HU2 : Hid (∀ k, k < N → ∀ w', Below (w.heap.size + 1) W1 w' → w'.cell? ⟨bu, ou + k, none⟩ = some (.int .i64 (U.getD k 0))) := hide fun k hk w' hb => by
    obtain ⟨b', o', e1, -, h'⟩ := unhide HU k (by omega)
    injection e1 with e1
    injection e1 with e1 e2
    subst e1 e2
    exact h' w' (unhide HW w' hb)
  have HE : Hid (∀ y, y < N → U.getD y 0 = -1 ∨ (0 ≤ U.getD y 0 ∧ U.getD y 0 < (q.tail.length : Int))) := hide fun y hy => by
    by_cases hyr : y = r
    · rw [hyr]; exact .inl hUr
    · exact .inr (hE y hy hyr)
  obtain ⟨P, hP⟩ : ∃ P : Ending → World → Prop, P = fun e w' => ∃ lv, e = .returned lv ∧ OwnI w' w.heap.size lv R ∧ Below w.heap.size w w' := ⟨_, rfl⟩
  rw [← hP]
  have HP := hide hP
  have HWy := hide hW
  have HS1 := hide hs1
  have hb0 : Below (w.heap.size + 1) W1 W1 := Below.refl _ _
  obtain ⟨x0, x1, x2, x3, -⟩ := unhide HBX W1 hb0
  rw [hUl] at HTr ⊢
  clear hP hb1 hs1 hv' hu' hR hn hT hev hN HV HU hW hE hUr hrN
  subst hW1
  go_enter Try.func14, Try.ntmps14
  go_wp2_with fail
  go_at_call 27
  generalize w.alloc (.cells #[.int .i64 q.n, .slice ta q.tail.length tc, .slice na q.next.length nc, .slice ca q.cap.length cc] 25) = W1 at *
  refine (unhide HTr W1 hb0).mono ?_
  rintro e w2 ⟨rfl, hl2⟩
  have hs1' := unhide HS1
  have hb2 : Below (w.heap.size + 1) W1 w2 := hb0.trans (hl2.mono (by omega))
  clear hl2 x0 x1 x2 x3
  obtain ⟨x0, x1, x2, x3, hz2⟩ := unhide HBX w2 hb2
  go_wp2_with fail
  go_at_call 23
  refine (unhide HIs w2 hb2).mono ?_
  rintro e w3 ⟨rfl, hl3⟩
  have hb3 : Below (w.heap.size + 1) W1 w3 := hb2.trans (hl3.mono (by omega))
  clear hl3 x0 x1 x2 x3 hz2 hb2
  have hxI : (x : Int) < (N : Int) := by omega
  have c1 := unhide HU2 x hx w3 hb3
  have HB0 : Hid (Below (w.heap.size + 1) W1 w3 ∧ OwnI w3 (w.heap.size + 1) (.slice none 0 0) [] ∧ Sp.wayGo q.tail U G x [] = some R) := hide ⟨hb3, ⟨by simp, .inl ⟨rfl, rfl⟩⟩, unhide HWy⟩
  obtain ⟨z0, hz0⟩ : ∃ z0, U.getD x 0 = z0 := ⟨_, rfl⟩
  rw [hz0] at c1
  have HZ0 := hide hz0
  clear hb3 HWy hb0 HTr HIs hz0
  go_wp2
  go_loopg [7, 8] G (fun g s7 s8 wr => ∃ (x : Nat) (out : List Int) (oa : Option Addr) (oc : Nat) (z : Int), x < N ∧ out.length + g = G ∧ s8 = .int .i64 z ∧ s7 = .slice oa out.length oc ∧ Hid (U.getD x 0 = z) ∧ Hid (Below (w.heap.size + 1) W1 wr ∧ OwnI wr (w.heap.size + 1) (.slice oa out.length oc) out ∧ Sp.wayGo q.tail U g x out = some R))
  case atStart => exact ⟨x, [], none, 0, z0, hx, by simp, rfl, rfl, HZ0, HB0⟩
  case round =>
    clear HB0 HZ0 c1 hx hxI
    obtain ⟨y, out, oa, oc, z, hy, hog, rfl, rfl, HZ, HI⟩ := hrel
    have hE := unhide HE y hy
    rw [unhide HZ] at hE
    by_cases hz : z = -1
    · subst hz
      have HF : Hid (out = R ∧ OwnI wr w.heap.size (.slice oa out.length oc) out ∧ Below w.heap.size w wr) := hide ⟨by
        have := (unhide HI).2.2
        rw [Sp.wayGo_neg _ _ _ _ _ (by rw [unhide HZ]; omega)] at this
        exact Option.some.inj this, own_base (unhide HI).2.1 (Nat.le_succ _), unhide HW _ (unhide HI).1⟩
      clear HI HZ hE
      go_wp2
      rw [unhide HP]
      exact ⟨_, rfl, by rw [← (unhide HF).1]; exact (unhide HF).2.1, (unhide HF).2.2⟩
    · have hE2 := hE.resolve_left hz
      obtain ⟨d, rfl⟩ : ∃ d : Nat, z = (d : Int) := ⟨z.toNat, by omega⟩
      have hdl : d < q.tail.length := by omega
      have ez : ((d : Int) == -1) = false := beq_eq_false_iff_ne.2 (by omega)
      have eb : ((d : Int) != -1) = true := by simp only [bne, ez]; rfl
      cases gk with
      | zero =>
        exfalso
        have := (unhide HI).2.2
        rw [Sp.wayGo, if_pos (by rw [unhide HZ]; omega)] at this
        cases this
      | succ g' =>
        have hyb := unhide HTb _ (Sp.getD_mem (unhide HO d hdl))
        obtain ⟨t, ht⟩ : ∃ t : Nat, q.tail.getD (Sp.oth d) 0 = (t : Int) := ⟨(q.tail.getD (Sp.oth d) 0).toNat, by omega⟩
        have HR0 : Hid (Sp.wayGo q.tail U g' t (out ++ [(d : Int)]) = some R) := hide (by
          have := (unhide HI).2.2
          rw [Sp.wayGo, if_pos (by rw [unhide HZ]; omega), unhide HZ, Int.toNat_natCast, ht, Int.toNat_natCast] at this
          exact this)
        have HH := hide (fun w' (hb : Below (w.heap.size + 1) W1 w') => unhide HHd d w' hdl hb)
        rw [ht] at HH
        have htN : t < N := by omega
        have htI : (t : Int) < (N : Int) := by omega
        have hszr := (unhide HBX wr (unhide HI).1).2.2.2.2
        have HB := hide (And.intro (unhide HI).1 (unhide HI).2.1)
        clear HI HZ hE hE2 hz hyb ht
        go_wp2_with (at_builtin; refine wpList_app (w := wr.alloc (.cells #[.int .i64 (d : Int)] 3)) rfl _ _ rfl (w.heap.size + 1) _ _ out [(d : Int)] rfl rfl (World.ownsRow.alloc (unhide HB).2 _) (OwnI.ints (own_lit wr 0 _ 1 [(d : Int)] rfl rfl (by omega) (by simp))) (out.length + 1) (by simp) (by omega) (by simp; omega) ?_)
        intro a6 c6 w6 hown6 hb6 hgr6
        have hb6' : Below (w.heap.size + 1) W1 w6 := ((unhide HB).1.alloc hszr _).trans hb6
        have hl6 : (out ++ [(d : Int)]).length = out.length + 1 := by simp
        have HO6 := hide hown6
        obtain ⟨x0, x1, x2, x3, hs6⟩ := unhide HBX w6 hb6'
        clear hgr6 hb6 hown6 HB
        go_wp2_with fail
        go_at_call 26
        refine (unhide HH w6 hb6').mono ?_
        rintro e w7 ⟨rfl, hl7⟩
        have hb7 : Below (w.heap.size + 1) W1 w7 := hb6'.trans (hl7.mono hs6)
        have c1 := unhide HU2 t htN w7 hb7
        obtain ⟨z2, hz2⟩ : ∃ z2, U.getD t 0 = z2 := ⟨_, rfl⟩
        rw [hz2] at c1
        have HZ2 := hide hz2
        have HF : Hid (Below (w.heap.size + 1) W1 w7 ∧ OwnI w7 (w.heap.size + 1) (.slice a6 (out.length + 1) c6) (out ++ [(d : Int)])) := hide ⟨hb7, own_below (unhide HO6) hl7⟩
        clear hz2 x0 x1 x2 x3 hl7 hb7 HO6 hb6'
        go_wp2
        go_roundg g'
        case rel => exact ⟨t, out ++ [(d : Int)], a6, c6, z2, htN, by omega, rfl, by rw [hl6], HZ2, hide ⟨(unhide HF).1, by rw [hl6]; exact (unhide HF).2, unhide HR0⟩⟩
        case measure => omega
end Go.Proofs.Ytenffkplneimlab


/- The reference's Right of any row, any root; within. -/
namespace Go.Proofs.Ytenffkplneimlab
open Go Go.RowKit

theorem tmod_casesF (a n : Int) (hn : 0 < n) : (a.tmod n < 0 ∧ a.tmod n + n = a % n) ∨ (0 ≤ a.tmod n ∧ a.tmod n = a % n) := by
  have h0 : 0 ≤ a % n := Int.emod_nonneg a (by omega)
  have h1 : a % n < n := Int.emod_lt_of_pos a hn
  have e := Int.tmod_eq_emod (a := a) (b := n)
  split at e
  · right; omega
  · left
    have : ((n.natAbs : Nat) : Int) = n := by omega
    omega
theorem ret_intF {k : IntKind} {a b : Int} (h : a = b) : Ending.returned (.int k a) = .returned (.int k b) := by rw [h]
set_option maxHeartbeats 400000 in
theorem within4_any (a n : Int) (w : World) (hn : 0 < n) (hn1 : n ≤ 4611686018427387904) :
    Calls Try.prog 8 #[.int .i64 a, .int .i64 n] w fun e w' => e = .returned (.int .i64 (a % n)) ∧ w' = w := by
  have h0 : 0 ≤ a % n := Int.emod_nonneg a (by omega)
  have h1 : a % n < n := Int.emod_lt_of_pos a hn
  rcases tmod_casesF a n hn with ⟨ha, hb⟩ | ⟨ha, hb⟩
  · have hc : -n ≤ a.tmod n := by omega
    have Hb := hide hb; clear hb h0 h1
    go_enter Try.func8, Try.ntmps8
    go_wp2
    go_ret
    exact ⟨ret_intF (unhide Hb), rfl⟩
  · have Hb := hide hb; clear hb h0 h1
    go_enter Try.func8, Try.ntmps8
    go_wp2
    go_ret
    exact ⟨ret_intF (unhide Hb), rfl⟩
end Go.Proofs.Ytenffkplneimlab


/- The fourth law's known. -/
namespace Go.Proofs.Ytenffkplneimlab
open Go Go.RowKit

theorem q1_span : Sp.span Sp.q1 0 = [-1] := by decide +kernel
theorem q0_span : Sp.span Sp.q0 0 = [-1, 1] := by decide +kernel
theorem q0_right : Sp.rightB Sp.q0 [-1, 1] 0 = true := by decide +kernel
theorem q0_way : Sp.wayGo Sp.q0.tail [-1, 1] 3 1 [] = some [1] := by decide +kernel
theorem q0_left : Sp.leftL Sp.q0 [-1, 1] = [] := by decide +kernel
set_option maxRecDepth 100000 in
set_option maxHeartbeats 2000000 in
theorem known4_any (w : World) :
    Calls Try.prog 6 #[] w fun e w' => e = .returned (.bool true) ∧ Below w.heap.size w w' := by
  have HL := hide (lit_net w 2 [0, 1] [0, 1] [5, 3] 2 2 2 rfl rfl rfl (by simp))
  obtain ⟨P, hP⟩ : ∃ P : Ending → World → Prop, P = fun e w' => e = .returned (.bool true) ∧ Below w.heap.size w w' := ⟨_, rfl⟩
  rw [← hP]
  have HP := hide hP
  clear hP
  go_enter Try.func6, Try.ntmps6
  go_upto_region 2 with fail
  have hWW : ((((w.alloc (.cells #[.int .i64 0, .int .i64 1] 3)).alloc (.cells #[.int .i64 0, .int .i64 1] 3)).alloc (.cells #[.int .i64 5, .int .i64 3] 3)).alloc (.cells #[.int .i64 2, .slice (some ⟨w.heap.size, 0, none⟩) 2 2, .slice (some ⟨w.heap.size + 1, 0, none⟩) 2 2, .slice (some ⟨w.heap.size + 1 + 1, 0, none⟩) 2 2] 25)) = ((((w.alloc (.cells (([0, 1] : List Int).map (Value.int .i64)).toArray 3)).alloc (.cells (([0, 1] : List Int).map (Value.int .i64)).toArray 3)).alloc (.cells (([5, 3] : List Int).map (Value.int .i64)).toArray 3)).alloc (.cells #[.int .i64 2, .slice (some ⟨w.heap.size, 0, none⟩) 2 2, .slice (some ⟨w.heap.size + 1, 0, none⟩) 2 2, .slice (some ⟨w.heap.size + 1 + 1, 0, none⟩) 2 2] 25)) := rfl
  rw [← hWW] at HL
  clear hWW
  have hs4 : ((((w.alloc (.cells #[.int .i64 0, .int .i64 1] 3)).alloc (.cells #[.int .i64 0, .int .i64 1] 3)).alloc (.cells #[.int .i64 5, .int .i64 3] 3)).alloc (.cells #[.int .i64 2, .slice (some ⟨w.heap.size, 0, none⟩) 2 2, .slice (some ⟨w.heap.size + 1, 0, none⟩) 2 2, .slice (some ⟨w.heap.size + 1 + 1, 0, none⟩) 2 2] 25)).heap.size = w.heap.size + 4 := by simp
  generalize ((((w.alloc (.cells #[.int .i64 0, .int .i64 1] 3)).alloc (.cells #[.int .i64 0, .int .i64 1] 3)).alloc (.cells #[.int .i64 5, .int .i64 3] 3)).alloc (.cells #[.int .i64 2, .slice (some ⟨w.heap.size, 0, none⟩) 2 2, .slice (some ⟨w.heap.size + 1, 0, none⟩) 2 2, .slice (some ⟨w.heap.size + 1 + 1, 0, none⟩) 2 2] 25)) = W4 at *
  have HT : Hid (∀ w2 w3, Below (w.heap.size + 4) W4 w2 → Below w2.heap.size w2 w3 → Below (w.heap.size + 4) W4 w3) := hide fun w2 w3 h2 h3 => h2.trans (h3.mono (unhide HL w2 h2).2.2.1)
  have hb4 : Below (w.heap.size + 4) W4 W4 := Below.refl _ _
  have HX : Hid (∀ w', Below (w.heap.size + 4) W4 w' → w'.cell? ⟨w.heap.size + 1 + 1 + 1, 0, none⟩ = some (.int .i64 2) ∧ w'.cell? ⟨w.heap.size + 1 + 1 + 1, 1, none⟩ = some (.slice (some ⟨w.heap.size, 0, none⟩) 2 2) ∧ w'.cell? ⟨w.heap.size + 1 + 1 + 1, 2, none⟩ = some (.slice (some ⟨w.heap.size + 1, 0, none⟩) 2 2) ∧ w'.cell? ⟨w.heap.size + 1 + 1 + 1, 3, none⟩ = some (.slice (some ⟨w.heap.size + 1 + 1, 0, none⟩) 2 2)) := hide fun w' hb => (unhide HL w' hb).2.2.2
  have HS1 : Hid (∀ w', Below (w.heap.size + 4) W4 w' → Calls Try.prog 9 #[.agg #[.int .i64 1, .slice none 0 0, .slice none 0 0, .slice none 0 0], .int .i64 0] w' fun e w'' => ∃ g c, e = .returned (.slice (some ⟨g, 0, none⟩) 1 c) ∧ OwnI w'' w'.heap.size (.slice (some ⟨g, 0, none⟩) 1 c) [-1] ∧ Below w'.heap.size w' w'') := by
    refine hide fun w' hb => (span_any Sp.q1 0 1 _ _ _ _ w' ⟨rfl, ints_nil _, ints_nil _, ints_nil _⟩ rfl (by decide) rfl (by decide) (by decide) (by decide) (fun x hx => by cases hx)).mono ?_
    rw [show ((0 : Nat) : Int) = 0 from rfl, q1_span]
    rintro e w'' ⟨lv, rfl, ho, hl⟩
    obtain ⟨g, c, rfl, -, -, -, -⟩ := own_form ho (by decide)
    exact ⟨g, c, rfl, ho, hl⟩
  have HS0 : Hid (∀ w', Below (w.heap.size + 4) W4 w' → Calls Try.prog 9 #[.agg #[.int .i64 2, .slice (some ⟨w.heap.size, 0, none⟩) 2 2, .slice (some ⟨w.heap.size + 1, 0, none⟩) 2 2, .slice (some ⟨w.heap.size + 1 + 1, 0, none⟩) 2 2], .int .i64 0] w' fun e w'' => ∃ g c, e = .returned (.slice (some ⟨g, 0, none⟩) 2 c) ∧ OwnI w'' w'.heap.size (.slice (some ⟨g, 0, none⟩) 2 c) [-1, 1] ∧ Below w'.heap.size w' w'') := by
    refine hide fun w' hb => (span_any Sp.q0 0 2 _ _ _ _ w' (unhide HL w' hb).1 (by decide) (by decide) rfl (by decide) (by decide) (by decide) (by decide)).mono ?_
    rw [show ((0 : Nat) : Int) = 0 from rfl, q0_span]
    rintro e w'' ⟨lv, rfl, ho, hl⟩
    obtain ⟨g, c, rfl, -, -, -, -⟩ := own_form ho (by decide)
    exact ⟨g, c, rfl, ho, hl⟩
  clear hs4
  go_region_held3 (fun w' => w'.cell? ⟨w.heap.size + 1 + 1 + 1, 0, none⟩ = some (.int .i64 2) ∧ w'.cell? ⟨w.heap.size + 1 + 1 + 1, 1, none⟩ = some (.slice (some ⟨w.heap.size, 0, none⟩) 2 2) ∧ w'.cell? ⟨w.heap.size + 1 + 1 + 1, 2, none⟩ = some (.slice (some ⟨w.heap.size + 1, 0, none⟩) 2 2) ∧ w'.cell? ⟨w.heap.size + 1 + 1 + 1, 3, none⟩ = some (.slice (some ⟨w.heap.size + 1 + 1, 0, none⟩) 2 2))
    (first
      | exact unhide HX _ hb6
      | exact unhide HX _ hb5
      | exact unhide HX _ hb4.drew)
    (first
      | (go_at_call_of 9 (Value.agg #[.int .i64 1, .slice none 0 0, .slice none 0 0, .slice none 0 0])
         refine (unhide HS1 _ hb4.drew).mono ?_
         rintro e w5 ⟨g5, c5, rfl, ho5, hl5⟩
         have hb5 := unhide HT _ _ hb4.drew hl5)
      | (go_at_call 9
         refine (unhide HS0 _ hb5).mono ?_
         rintro e w6 ⟨g6, c6, rfl, ho6, hl6⟩
         have hb6 := unhide HT _ _ hb5 hl6))
  all_goals
    have HO5 := hide (own_below ho5 hl6)
    have HO6 := hide ho6
    obtain ⟨x0, x1, x2, x3⟩ := unhide HX w6 hb6
    have Hb6 := hide hb6
    clear ho5 ho6 hl5 hl6 hb4 hb5 hb6
    go_wp2_with fail
    have HLit := hide (own_lit w6 w6.heap.size w6.heap.size 2 [-1, 1] rfl rfl (Nat.le_refl _) (by decide))
    have hWW : (w6.alloc (.cells #[.int .i64 (-1), .int .i64 1] 3)) = w6.alloc (.cells (([-1, 1] : List Int).map (Value.int .i64)).toArray 3) := rfl
    rw [← hWW] at HLit
    clear hWW
    have hl7 : Below w6.heap.size w6 (w6.alloc (.cells #[.int .i64 (-1), .int .i64 1] 3)) := (Below.refl _ _).alloc (Nat.le_refl _) _
    clear x0 x1 x2 x3
    generalize w6.alloc (.cells #[.int .i64 (-1), .int .i64 1] 3) = W7 at *
    have hb7 := unhide HT _ _ (unhide Hb6) hl7
    have HO5' := hide (own_below (unhide HO5) hl7)
    have HO6' := hide (own_below (unhide HO6) hl7)
    go_at_call 14
    refine (way_any Sp.q0 [-1, 1] 0 2 1 3 [1] _ _ _ _ _ W7 (unhide HL W7 hb7).1 (unhide HLit).ints (by decide) (by decide) rfl (by decide) (by decide) (by decide) q0_right (by decide) (by decide) q0_way).mono ?_
    rintro e w8 ⟨lv, rfl, ho8, hl8⟩
    obtain ⟨g8, c8, rfl, -, -, -, -⟩ := own_form ho8 (by decide)
    have hb8 := unhide HT _ _ hb7 hl8
    have HP5 := hide (own_below (unhide HO5') hl8)
    have HP6 := hide (own_below (unhide HO6') hl8)
    have HP8 := hide ho8
    obtain ⟨x0, x1, x2, x3⟩ := unhide HX w8 hb8
    have c0 := own_cell (unhide HP5) 0 (by decide)
    have c1 := own_cell (unhide HP6) 1 (by decide)
    have Hb8 := hide hb8
    clear ho8 hl8 hb8 hl7 hb7 HO5 HO6 HO5' HO6' HLit
    go_wp2_with fail
    go_at_call 15
    refine (right_any Sp.q0 [-1, 1] 0 2 _ _ _ _ _ w8 (unhide HL w8 (unhide Hb8)).1 (OwnI.ints (unhide HP6)) (by decide) (by decide) rfl (by decide) (by decide) (by decide)).mono ?_
    rw [q0_right]
    rintro e w9 ⟨rfl, hl9⟩
    have hb9 := unhide HT _ _ (unhide Hb8) hl9
    have HQ6 := hide (own_below (unhide HP6) hl9)
    have HQ8 := hide (own_below (unhide HP8) hl9)
    clear x0 x1 x2 x3 c0 c1 hl9
    obtain ⟨x0, x1, x2, x3⟩ := unhide HX w9 hb9
    have Hb9 := hide hb9
    clear hb9 HP5 HP6 HP8 Hb8
    go_wp2_with fail
    go_at_call 12
    refine (left_any Sp.q0 [-1, 1] 0 2 _ _ _ _ _ w9 (unhide HL w9 (unhide Hb9)).1 (OwnI.ints (unhide HQ6)) (by decide) (by decide) rfl (by decide) (by decide) (by decide) q0_right).mono ?_
    rw [q0_left]
    rintro e w10 ⟨lv, rfl, ho10, hl10⟩
    obtain ⟨_, _, rfl, -, -⟩ := ho10.ints.form
    have hb10 := unhide HT _ _ (unhide Hb9) hl10
    have c2 := own_cell (own_below (unhide HQ8) hl10) 0 (by decide)
    have HB := hide (unhide HL w10 hb10).2.1
    clear x0 x1 x2 x3 hl10 hb10 ho10 HQ6 HQ8 Hb9
    go_wp2
    rw [unhide HP]
    exact ⟨rfl, unhide HB⟩
end Go.Proofs.Ytenffkplneimlab


/- Package dual: a mesh's own questions. -/
namespace Go.Proofs.Ytenffkplneimlab
open Go Go.RowKit

/-- A mesh. -/
structure MeshI (w : World) (v : Value) (q : Sp.Net) (F : List Int) (K : Nat) (tv nv cv fv : Value) : Prop where
  val : v = .agg #[.int .i64 q.n, tv, nv, cv, fv, .int .i64 (K : Int)]
  tail : Ints w tv q.tail
  next : Ints w nv q.next
  cap : Ints w cv q.cap
  of : Ints w fv F
theorem MeshI.below {w w' : World} {v : Value} {q : Sp.Net} {F : List Int} {K : Nat} {tv nv cv fv : Value} (h : MeshI w v q F K tv nv cv fv) (hb : Below w.heap.size w w') : MeshI w' v q F K tv nv cv fv :=
  ⟨h.val, h.tail.below hb, h.next.below hb, h.cap.below hb, h.of.below hb⟩
end Go.Proofs.Ytenffkplneimlab


/- Package dual: meshOf. -/
namespace Go.Proofs.Ytenffkplneimlab
open Go Go.RowKit

/-- Along a face that is not laid yet. -/
theorem Sp.FSt.along {st : List Int} (hp : Sp.Perm st) {d k : Nat} {of : List Int} (h : Sp.FSt st d of k) (hd : d < st.length) (h0 : of.getD d 0 = -1) (t : Nat) (ht : t < Sp.per st d) :
    (Sp.paint k of (Sp.rounds st d t)).getD (itf (Sp.fn st) d t) 0 = -1 := by
  have hx := hp.fnP.it hd t
  have hin : ∀ m, of.getD (itf (Sp.fn st) d m) 0 = -1 := fun m => by
    induction m with
    | zero => exact h0
    | succ m ih => exact (h.inv _ (hp.fnP.it hd m)).trans ih
  rw [Sp.paint_get k _ of _ (fun x hx' => ?_) (by rw [h.len]; exact hx), if_neg ?_]
  · exact hin t
  · intro hm
    obtain ⟨i, hi, e⟩ := List.mem_map.1 hm
    rw [List.mem_range] at hi
    rw [hp.nth_it hd] at e
    have e2 : Sp.nth st d (i + (t - i)) = Sp.nth st d i := by rw [show i + (t - i) = t by omega, hp.nth_it hd, hp.nth_it hd, e]
    exact (hp.per hd).2.2.2 (t - i) (by omega) (by omega) (hp.back hd i (t - i) e2)
  · obtain ⟨i, -, rfl⟩ := List.mem_map.1 hx'
    rw [hp.nth_it hd]
    omega
theorem Sp.FSt.round {st : List Int} (hp : Sp.Perm st) {d k : Nat} {of : List Int} (h : Sp.FSt st d of k) (hd : d < st.length) :
    (Sp.paint k of (Sp.rounds st d (Sp.per st d))).getD d 0 = (k : Int) := by
  have hpp := hp.per hd
  rw [Sp.paint_get k _ of _ (fun x hx' => ?_) (by rw [h.len]; exact hd), if_pos ?_]
  · exact List.mem_map.2 ⟨0, List.mem_range.2 (by omega), rfl⟩
  · obtain ⟨i, -, rfl⟩ := List.mem_map.1 hx'
    rw [hp.nth_it hd]
    omega
end Go.Proofs.Ytenffkplneimlab


/- Package dual: Make. -/
namespace Go.Proofs.Ytenffkplneimlab
open Go Go.RowKit

/-- The dual (P301). -/
def Sp.dual (q : Sp.Net) : Sp.Net := ⟨((max (Sp.faces2 q).2 1 : Nat) : Int), (Sp.faces2 q).1, Sp.behindL q.next, q.cap⟩
/-- What Make and the others ask of a net. -/
structure Sp.LinkQ (q : Sp.Net) : Prop where
  nx : q.next.length = q.tail.length
  cp : q.cap.length = q.tail.length
  le : q.tail.length ≤ 60
  ev : q.tail.length % 2 = 0
  pm : Sp.Perm q.next
end Go.Proofs.Ytenffkplneimlab


/- Package dual: Shared; the reference's. -/
namespace Go.Proofs.Ytenffkplneimlab
open Go Go.RowKit

theorem Sp.faces2Go_le (st : List Int) : ∀ g d of k, (Sp.faces2Go st g d of k).2 ≤ k + g
  | 0, _, _, _ => by rw [Sp.faces2Go]; omega
  | g + 1, d, of, k => by
    rw [Sp.faces2Go]
    split
    · have := Sp.faces2Go_le st g (d + 1) of k; omega
    · have := Sp.faces2Go_le st g (d + 1) (Sp.paint k of (Sp.rounds st d (Sp.per st d))) (k + 1); omega
theorem Sp.faces2_le (q : Sp.Net) : (Sp.faces2 q).2 ≤ q.tail.length := by
  have := Sp.faces2Go_le (Sp.behindL q.next) q.tail.length 0 (List.replicate q.tail.length (-1)) 0
  unfold Sp.faces2
  omega
end Go.Proofs.Ytenffkplneimlab


/- How many places a round has; the rounds the other way about. -/
namespace Go.Proofs.Ytenffkplneimlab
open Go Go.RowKit

theorem nodup_sub : ∀ (l1 l2 : List Int), l1.Nodup → (∀ x ∈ l1, x ∈ l2) → l1.length ≤ l2.length
  | [], _, _, _ => Nat.zero_le _
  | a :: t, l2, hd, hs => by
    rw [List.nodup_cons] at hd
    have ha := hs a (by simp)
    have h1 := nodup_sub t (l2.erase a) hd.2 (fun x hx => by
      have hne : x ≠ a := fun e => hd.1 (by rw [← e]; exact hx)
      exact (List.mem_erase_of_ne hne).2 (hs x (by simp [hx])))
    rw [List.length_erase_of_mem ha] at h1
    have := List.length_pos_of_mem ha
    rw [List.length_cons]
    omega
/-- How many places below n are so. -/
def Sp.cnt (p : Nat → Bool) (n : Nat) : Nat := ((List.range n).filter p).length
theorem Sp.cnt_succ (p : Nat → Bool) (n : Nat) : Sp.cnt p (n + 1) = Sp.cnt p n + if p n then 1 else 0 := by
  unfold Sp.cnt
  rw [List.range_succ, List.filter_append, List.length_append]
  by_cases h : p n = true
  · rw [if_pos h]; simp [h]
  · rw [if_neg h]; simp [h]
theorem Sp.cnt_le (p : Nat → Bool) (n : Nat) : Sp.cnt p n ≤ n := by
  have := List.length_filter_le p (List.range n)
  rw [List.length_range] at this
  exact this
theorem Sp.cnt_congr {p p' : Nat → Bool} (n : Nat) (h : ∀ i, i < n → p i = p' i) : Sp.cnt p n = Sp.cnt p' n := by
  unfold Sp.cnt
  rw [List.filter_congr (fun i hi => h i (List.mem_range.1 hi))]
theorem Sp.rounds_nodup {st : List Int} (hp : Sp.Perm st) {x : Nat} (hx : x < st.length) : (Sp.rounds st x (Sp.per st x)).Nodup := by
  obtain ⟨p1, p2, p3, p4⟩ := hp.per hx
  unfold List.Nodup
  rw [List.pairwise_iff_getElem]
  intro i j hi hj hij e
  rw [Sp.rounds_len] at hi hj
  simp only [Sp.rounds, List.getElem_map, List.getElem_range] at e
  have e2 : Sp.nth st x (i + (j - i)) = Sp.nth st x i := by rw [show i + (j - i) = j by omega]; exact e.symm
  exact p4 (j - i) (by omega) (by omega) (hp.back hx i (j - i) e2)
/-- A round has as many places as bear its label. -/
theorem Sp.Perm.count {st : List Int} (hp : Sp.Perm st) {lab : Nat → Nat} {k : Nat} (hc : Cls st.length (Sp.fn st) lab k) {x : Nat} (hx : x < st.length) : Sp.per st x = Sp.cnt (fun i => decide (lab i = lab x)) st.length := by
  have hmem : ∀ i : Nat, (i : Int) ∈ Sp.rounds st x (Sp.per st x) ↔ i < st.length ∧ lab i = lab x := fun i => by
    constructor
    · intro h
      obtain ⟨j, e, o⟩ := (hp.mem_rounds hx _).1 h
      have : i = j := by omega
      subst this
      refine ⟨?_, (hc.orb hp.fnP.mp hx o).symm⟩
      obtain ⟨m, rfl⟩ := o
      exact hp.fnP.it hx m
    · intro ⟨h1, h2⟩
      exact (hp.mem_rounds hx _).2 ⟨i, rfl, hc.sep x i hx h1 h2.symm⟩
  have hnd : (((List.range st.length).filter fun i => decide (lab i = lab x)).map fun i : Nat => (i : Int)).Nodup := by
    unfold List.Nodup
    rw [List.pairwise_map]
    refine List.Pairwise.imp (R := fun a b : Nat => a ≠ b) (fun {a b} (h : a ≠ b) (e : (a : Int) = (b : Int)) => h (by omega)) ?_
    exact List.Pairwise.filter _ List.nodup_range
  have hlen : (((List.range st.length).filter fun i => decide (lab i = lab x)).map fun i : Nat => (i : Int)).length = Sp.cnt (fun i => decide (lab i = lab x)) st.length := by
    rw [List.length_map]; rfl
  have h1 := nodup_sub _ _ (Sp.rounds_nodup hp hx) (fun y hy => by
    obtain ⟨j, rfl, o⟩ := (hp.mem_rounds hx y).1 hy
    have := (hmem j).1 hy
    exact List.mem_map.2 ⟨j, List.mem_filter.2 ⟨List.mem_range.2 this.1, decide_eq_true this.2⟩, rfl⟩)
  have h2 := nodup_sub _ _ hnd (fun y hy => by
    obtain ⟨j, hj, rfl⟩ := List.mem_map.1 hy
    obtain ⟨a, b⟩ := List.mem_filter.1 hj
    exact (hmem j).2 ⟨List.mem_range.1 a, of_decide_eq_true b⟩)
  rw [hlen, Sp.rounds_len] at h1 h2
  omega
theorem Sp.invGo_len (nx : List Int) : ∀ f d acc, (Sp.invGo nx f d acc).length = acc.length
  | 0, _, _ => rfl
  | f + 1, d, acc => by
    rw [Sp.invGo, Sp.invGo_len nx f, List.length_set]
theorem Sp.invGo_get {nx : List Int} (hp : Sp.Perm nx) : ∀ f d acc, d + f = nx.length → acc.length = nx.length → ∀ i, i < nx.length → (Sp.invGo nx f d acc).getD (Sp.fn nx i) 0 = if d ≤ i then (i : Int) else acc.getD (Sp.fn nx i) 0
  | 0, d, acc, hd, hl, i, hi => by rw [if_neg (by omega)]; rfl
  | f + 1, d, acc, hd, hl, i, hi => by
    rw [Sp.invGo, Sp.invGo_get hp f (d + 1) _ (by omega) (by rw [List.length_set]; exact hl) i hi]
    by_cases h1 : d + 1 ≤ i
    · rw [if_pos h1, if_pos (by omega)]
    · rw [if_neg h1]
      have hfd : (nx.getD d 0).toNat < acc.length := by rw [hl]; exact hp.fnP.mp d (by omega)
      rw [getD_set_eq acc _ _ _ hfd]
      by_cases h2 : i = d
      · rw [if_pos (by rw [h2]; rfl), if_pos (by omega), h2]
      · have hne : ¬ Sp.fn nx i = (nx.getD d 0).toNat := fun e => h2 (hp.fnP.inj i d hi (by omega) e)
        rw [if_neg hne, if_neg (by omega)]
theorem Sp.turnL_len (nx : List Int) : (Sp.turnL nx).length = nx.length := by
  unfold Sp.turnL
  rw [Sp.invGo_len, List.length_replicate]
theorem Sp.turnL_back {nx : List Int} (hp : Sp.Perm nx) {i : Nat} (hi : i < nx.length) : (Sp.turnL nx).getD (Sp.fn nx i) 0 = (i : Int) := by
  unfold Sp.turnL
  rw [Sp.invGo_get hp nx.length 0 _ (by omega) (by simp) i hi, if_pos (Nat.zero_le _)]
theorem Sp.Perm.onto {st : List Int} (hp : Sp.Perm st) {j : Nat} (hj : j < st.length) : ∃ i, i < st.length ∧ Sp.fn st i = j := by
  obtain ⟨p1, p2, p3, p4⟩ := hp.per hj
  refine ⟨itf (Sp.fn st) j (Sp.per st j - 1), hp.fnP.it hj _, ?_⟩
  have e := hp.nth_it hj (Sp.per st j)
  rw [p3] at e
  have e2 : itf (Sp.fn st) j (Sp.per st j - 1 + 1) = j := by rw [show Sp.per st j - 1 + 1 = Sp.per st j by omega]; omega
  exact e2
theorem Sp.Perm.turn {nx : List Int} (hp : Sp.Perm nx) : Sp.Perm (Sp.turnL nx) := by
  refine ⟨fun x hx => ?_, fun i j hi hj e => ?_⟩
  · rw [Sp.turnL_len]
    obtain ⟨k, hk, rfl⟩ := List.mem_iff_getElem.1 hx
    rw [Sp.turnL_len] at hk
    rw [← Sp.getD_eq]
    obtain ⟨i, hi, rfl⟩ := hp.onto hk
    rw [Sp.turnL_back hp hi]
    omega
  · rw [Sp.turnL_len] at hi hj
    obtain ⟨a, ha, rfl⟩ := hp.onto hi
    obtain ⟨b, hb, rfl⟩ := hp.onto hj
    rw [Sp.turnL_back hp ha, Sp.turnL_back hp hb] at e
    rw [show a = b by omega]
theorem Sp.fn_turn {nx : List Int} (hp : Sp.Perm nx) {i : Nat} (hi : i < nx.length) : Sp.fn (Sp.turnL nx) (Sp.fn nx i) = i := by
  show ((Sp.turnL nx).getD (Sp.fn nx i) 0).toNat = i
  rw [Sp.turnL_back hp hi, Int.toNat_natCast]
theorem Sp.fn_turn' {nx : List Int} (hp : Sp.Perm nx) {i : Nat} (hi : i < nx.length) : Sp.fn nx (Sp.fn (Sp.turnL nx) i) = i := by
  obtain ⟨a, ha, rfl⟩ := hp.onto hi
  rw [Sp.fn_turn hp ha]
end Go.Proofs.Ytenffkplneimlab


/- Each net that Plane makes is plane. -/
namespace Go.Proofs.Ytenffkplneimlab
open Go Go.RowKit

theorem cls_const (f : Nat → Nat) (h : f 0 = 1 ∧ f 1 = 0) (lab : Nat → Nat) (l0 : lab 0 = 0) (l1 : lab 1 = 0) : Cls 2 f lab 1 := by
  have hc : ∀ i, i < 2 → i = 0 ∨ i = 1 := fun i hi => by omega
  refine ⟨fun i hi => ?_, fun c hc' => ⟨0, by omega, by omega⟩, fun i hi => ?_, fun i j hi hj _ => ?_⟩
  · rcases hc i hi with rfl | rfl <;> omega
  · rcases hc i hi with rfl | rfl
    · rw [h.1, l0, l1]
    · rw [h.2, l0, l1]
  · rcases hc i hi with rfl | rfl <;> rcases hc j hj with rfl | rfl
    · exact OrbF.refl _ _
    · exact ⟨1, h.1⟩
    · exact ⟨1, h.2⟩
    · exact OrbF.refl _ _
theorem cls_each (f : Nat → Nat) (h : f 0 = 0 ∧ f 1 = 1) (lab : Nat → Nat) (l0 : lab 0 = 0) (l1 : lab 1 = 1) : Cls 2 f lab 2 := by
  have hc : ∀ i, i < 2 → i = 0 ∨ i = 1 := fun i hi => by omega
  refine ⟨fun i hi => ?_, fun c hc' => ?_, fun i hi => ?_, fun i j hi hj e => ?_⟩
  · rcases hc i hi with rfl | rfl <;> omega
  · rcases hc c hc' with rfl | rfl
    · exact ⟨0, by omega, l0⟩
    · exact ⟨1, by omega, l1⟩
  · rcases hc i hi with rfl | rfl
    · rw [h.1]
    · rw [h.2]
  · rcases hc i hi with rfl | rfl <;> rcases hc j hj with rfl | rfl
    · exact OrbF.refl _ _
    · omega
    · omega
    · exact OrbF.refl _ _
theorem Sp.Plain.loop (c d : Int) : Sp.Plain ⟨1, [0, 0], [1, 0], [c, d]⟩ := by
  refine ⟨cls_const _ ⟨rfl, rfl⟩ _ rfl rfl, ⟨fun i => i, 2, cls_each _ ⟨rfl, rfl⟩ _ rfl rfl, by show (1 : Int) - ((2 / 2 : Nat) : Int) + ((2 : Nat) : Int) = 2; decide⟩, fun v h0 h1 => ?_⟩
  have h1' : v < 1 := h1
  obtain rfl : v = 0 := by omega
  exact .refl _
theorem Sp.Plain.edge (c d : Int) : Sp.Plain ⟨2, [0, 1], [0, 1], [c, d]⟩ := by
  refine ⟨cls_each _ ⟨rfl, rfl⟩ _ rfl rfl, ⟨fun _ => 0, 1, cls_const _ ⟨rfl, rfl⟩ _ rfl rfl, by show (2 : Int) - ((2 / 2 : Nat) : Int) + ((1 : Nat) : Int) = 2; decide⟩, fun v h0 h1 => ?_⟩
  have h1' : v < 2 := h1
  rcases (show v = 0 ∨ v = 1 by omega) with rfl | rfl
  · exact .refl _
  · exact Sp.Reach.step (tl := [0, 1]) (d := 0) (.refl _) (by decide)
theorem Sp.planeG_same (q : Sp.Net) (k : Int) (h : 0 < q.tail.length) : (Sp.faces2 q).1.getD (q.next.getD (Sp.planeG q k) 0).toNat 0 = (Sp.faces2 q).1.getD (q.next.getD (Sp.planeE q k) 0).toNat 0 := by
  have hp := Sp.planeS_pos q k h
  have hm : Sp.planeG q k ∈ Sp.planeS q k := by
    unfold Sp.planeG
    have h1 : 0 ≤ k / 1200 % ((Sp.planeS q k).length : Int) := Int.emod_nonneg _ (by omega)
    have h2 : k / 1200 % ((Sp.planeS q k).length : Int) < (Sp.planeS q k).length := Int.emod_lt_of_pos _ (by omega)
    rw [List.getD_eq_getElem?_getD, List.getElem?_eq_getElem (by omega)]
    exact List.getElem_mem _
  unfold Sp.planeS Sp.sameL at hm
  have := (List.mem_filter.1 hm).2
  exact eq_of_beq this
theorem Sp.planeN_plain (ns : List Int) : ∀ i, Sp.planeN ns i = ⟨1, [], [], []⟩ ∨ (0 < (Sp.planeN ns i).tail.length ∧ Sp.Plain (Sp.planeN ns i))
  | 0 => .inl rfl
  | i + 1 => by
    right
    have hq := Sp.planeN_ok ns i
    have ih := Sp.planeN_plain ns i
    show 0 < (Sp.planeK (Sp.planeN ns i) (ns.getD i 0 % 1125899906842624)).tail.length ∧ Sp.Plain (Sp.planeK (Sp.planeN ns i) (ns.getD i 0 % 1125899906842624))
    generalize Sp.planeN ns i = q at *
    generalize ns.getD i 0 % 1125899906842624 = k
    unfold Sp.planeK
    by_cases h0 : q.tail.length = 0
    · rw [if_pos h0]
      split
      · exact ⟨by simp, Sp.Plain.loop _ _⟩
      · exact ⟨by simp, Sp.Plain.edge _ _⟩
    · rw [if_neg h0]
      have hl : 0 < q.tail.length := by omega
      have hp : Sp.Plain q := by
        rcases ih with e | e
        · rw [e] at h0; exact absurd rfl h0
        · exact e.2
      split
      · exact ⟨by simp [Sp.growN], hp.growN hq _ (Sp.planeE_lt q k hl) _ _⟩
      · exact ⟨by simp [Sp.growF], hp.growF hq _ _ (Sp.planeE_lt q k hl) (Sp.planeG_lt q k hl) _ _ (Sp.planeG_same q k hl)⟩
theorem Sp.plane_plain (ns : List Int) : Sp.plane ns = ⟨1, [], [], []⟩ ∨ (0 < (Sp.plane ns).tail.length ∧ Sp.Plain (Sp.plane ns)) := Sp.planeN_plain ns _
end Go.Proofs.Ytenffkplneimlab


/- The reference's Split. -/
namespace Go.Proofs.Ytenffkplneimlab
open Go Go.RowKit

theorem ButRow.dn {g : Nat} {w w' : World} (h : ButRow g w w') (n : Nat) : ButRow g w (w'.drewN n) := ⟨h.os, h.tape, h.output, h.size, h.block⟩
end Go.Proofs.Ytenffkplneimlab


/- A plane net is told so; a plane net turned is plane. -/
namespace Go.Proofs.Ytenffkplneimlab
open Go Go.RowKit

/-- The net seen from behind. -/
def Sp.seen (q : Sp.Net) : Sp.Net := ⟨q.n, q.tail, Sp.turnL q.next, q.cap⟩
theorem fn_tb {nx : List Int} (hp : Sp.Perm nx) (hev : nx.length % 2 = 0) {x : Nat} (hx : x < nx.length) : Sp.fn (Sp.behindL (Sp.turnL nx)) (Sp.oth (Sp.fn (Sp.behindL nx) x)) = Sp.oth x ∧ Sp.oth (Sp.fn (Sp.behindL nx) x) < nx.length := by
  have ho := oth_lt hx hev
  have h1 : Sp.fn (Sp.behindL nx) x = Sp.fn nx (Sp.oth x) := fn_behind nx x hx
  have h2 := hp.fnP.mp _ ho
  have h3 : Sp.oth (Sp.fn (Sp.behindL nx) x) < nx.length := by rw [h1]; exact oth_lt h2 hev
  refine ⟨?_, h3⟩
  rw [fn_behind _ _ (by rw [Sp.turnL_len]; exact h3), oth_oth, h1, Sp.fn_turn hp ho]
theorem orb_turn {st : List Int} (hp : Sp.Perm st) {g : Nat → Nat} (hg : ∀ x, x < st.length → g (Sp.oth (Sp.fn st x)) = Sp.oth x) {i : Nat} (hi : i < st.length) : ∀ m, OrbF g (Sp.oth (itf (Sp.fn st) i m)) (Sp.oth i)
  | 0 => OrbF.refl _ _
  | m + 1 => OrbF.trans ⟨1, hg _ (hp.fnP.it hi m)⟩ (orb_turn hp hg hi m)
theorem Sp.Plain.seen {q : Sp.Net} (hp : Sp.Perm q.next) (hl : q.next.length = q.tail.length) (hev : q.tail.length % 2 = 0) (h : Sp.Plain q) : Sp.Plain (Sp.seen q) := by
  have hmp : ∀ i, i < q.tail.length → Sp.fn q.next i < q.tail.length := fun i hi => by have := hp.fnP.mp i (by rw [hl]; exact hi); rw [hl] at this; exact this
  have hmpt : ∀ i, i < q.tail.length → Sp.fn (Sp.turnL q.next) i < q.tail.length := fun i hi => by have := hp.turn.fnP.mp i (by rw [Sp.turnL_len, hl]; exact hi); rw [Sp.turnL_len, hl] at this; exact this
  have hback : ∀ i, i < q.tail.length → ∀ m, OrbF (Sp.fn (Sp.turnL q.next)) (itf (Sp.fn q.next) i m) i := by
    intro i hi m
    induction m with
    | zero => exact OrbF.refl _ _
    | succ m ih =>
      have hb : itf (Sp.fn q.next) i m < q.next.length := hp.fnP.it (by rw [hl]; exact hi) m
      exact OrbF.trans ⟨1, Sp.fn_turn hp hb⟩ ih
  refine ⟨?_, ?_, h.conn⟩
  · show Cls q.tail.length (Sp.fn (Sp.turnL q.next)) (fun i => (q.tail.getD i 0).toNat) q.n.toNat
    refine ⟨h.vert.lt, h.vert.on, fun i hi => ?_, fun i j hi hj e => ?_⟩
    · have h1 := h.vert.inv _ (hmpt i hi)
      rw [Sp.fn_turn' hp (by rw [hl]; exact hi)] at h1
      exact h1.symm
    · obtain ⟨m, hm⟩ := h.vert.sep j i hj hi e.symm
      have := hback j hj m
      rw [hm] at this
      exact this
  · obtain ⟨lab, F, hf, hE⟩ := h.face
    have hbp := hp.behind (by rw [hl]; exact hev)
    have hbl : (Sp.behindL q.next).length = q.tail.length := by rw [Sp.behindL_len, hl]
    refine ⟨fun x => lab (Sp.oth x), F, ?_, hE⟩
    show Cls q.tail.length (Sp.fn (Sp.behindL (Sp.turnL q.next))) (fun x => lab (Sp.oth x)) F
    have hg : ∀ x, x < q.tail.length → Sp.fn (Sp.behindL (Sp.turnL q.next)) (Sp.oth (Sp.fn (Sp.behindL q.next) x)) = Sp.oth x := fun x hx => (fn_tb hp (by rw [hl]; exact hev) (by rw [hl]; exact hx)).1
    refine ⟨fun i hi => hf.lt _ (oth_lt hi hev), fun c hc => ?_, fun i hi => ?_, fun i j hi hj e => ?_⟩
    · obtain ⟨i, h1, h2⟩ := hf.on c hc
      exact ⟨Sp.oth i, oth_lt h1 hev, by show lab (Sp.oth (Sp.oth i)) = c; rw [oth_oth]; exact h2⟩
    · -- i is the other of what comes behind some dart
      obtain ⟨y, hy, ey⟩ := hbp.onto (j := Sp.oth i) (by rw [hbl]; exact oth_lt hi hev)
      rw [hbl] at hy
      have ei : i = Sp.oth (Sp.fn (Sp.behindL q.next) y) := by rw [ey, oth_oth]
      show lab (Sp.oth (Sp.fn (Sp.behindL (Sp.turnL q.next)) i)) = lab (Sp.oth i)
      rw [ei, hg y hy, oth_oth, oth_oth, hf.inv y hy]
    · obtain ⟨m, hm⟩ := hf.sep (Sp.oth j) (Sp.oth i) (oth_lt hj hev) (oth_lt hi hev) (show lab (Sp.oth j) = lab (Sp.oth i) from e.symm)
      have := orb_turn hbp (g := Sp.fn (Sp.behindL (Sp.turnL q.next))) (fun x hx => hg x (by rw [← hbl]; exact hx)) (i := Sp.oth j) (by rw [hbl]; exact oth_lt hj hev) m
      rw [hm, oth_oth, oth_oth] at this
      exact this
end Go.Proofs.Ytenffkplneimlab


/- What the third law's statements share. -/
namespace Go.Proofs.Ytenffkplneimlab
open Go Go.RowKit

theorem Sp.linkQ_plane (ns : List Int) : Sp.LinkQ (Sp.plane ns) := by
  have h := Sp.plane_ok ns
  have hl : (Sp.plane ns).tail.length ≤ 48 := h.le
  exact ⟨h.nx, h.cp, by omega, h.ev, h.pm⟩
end Go.Proofs.Ytenffkplneimlab


/- The dual of a plane net is plane. -/
namespace Go.Proofs.Ytenffkplneimlab
open Go Go.RowKit

theorem Sp.behind_twice {nx : List Int} (hev : nx.length % 2 = 0) : Sp.behindL (Sp.behindL nx) = nx := by
  have hl : (Sp.behindL (Sp.behindL nx)).length = nx.length := by rw [Sp.behindL_len, Sp.behindL_len]
  refine List.ext_getElem hl fun i h1 h2 => ?_
  have ho := oth_lt h2 hev
  have e : (Sp.behindL (Sp.behindL nx)).getD i 0 = nx.getD i 0 := by
    rw [Sp.behindL_get _ _ (by rw [Sp.behindL_len]; exact h2), Sp.behindL_get _ _ ho, oth_oth]
  rw [Sp.getD_eq _ _ h1, Sp.getD_eq _ _ h2] at e
  exact e
/-- What is asked of a plane net, small enough for its dual to be one. -/
structure Sp.DualQ (q : Sp.Net) : Prop where
  link : Sp.LinkQ q
  le : q.tail.length ≤ 48
  l0 : 0 < q.tail.length
  n0 : 1 ≤ q.n
  n1 : q.n ≤ 60
  tb : ∀ x ∈ q.tail, 0 ≤ x ∧ x < q.n
  cb : ∀ x ∈ q.cap, 0 ≤ x ∧ x ≤ 2147483648
  pl : Sp.Plain q
theorem Sp.DualQ.fp {q : Sp.Net} (h : Sp.DualQ q) : Sp.Perm (Sp.behindL q.next) := h.link.pm.behind (by rw [h.link.nx]; exact h.link.ev)
theorem Sp.DualQ.bl {q : Sp.Net} (h : Sp.DualQ q) : (Sp.behindL q.next).length = q.tail.length := by rw [Sp.behindL_len, h.link.nx]
theorem Sp.DualQ.cls {q : Sp.Net} (h : Sp.DualQ q) : Cls q.tail.length (Sp.fn (Sp.behindL q.next)) (fun i => ((Sp.faces2 q).1.getD i 0).toNat) (Sp.faces2 q).2 := by
  have hst := (Sp.faces2_st h.link.pm h.link.nx h.link.ev).cls
  rw [h.bl] at hst
  exact hst
theorem Sp.DualQ.mp {q : Sp.Net} (h : Sp.DualQ q) : ∀ i, i < q.tail.length → Sp.fn (Sp.behindL q.next) i < q.tail.length := fun i hi => by
  have := h.fp.fnP.mp i (by rw [h.bl]; exact hi)
  rw [h.bl] at this; exact this
theorem Sp.DualQ.mpN {q : Sp.Net} (h : Sp.DualQ q) : ∀ i, i < q.tail.length → Sp.fn q.next i < q.tail.length := fun i hi => by
  have := h.link.pm.fnP.mp i (by rw [h.link.nx]; exact hi)
  rw [h.link.nx] at this; exact this
theorem Sp.DualQ.k1 {q : Sp.Net} (h : Sp.DualQ q) : 1 ≤ (Sp.faces2 q).2 := by have := h.cls.lt 0 h.l0; omega
theorem Sp.DualQ.euler {q : Sp.Net} (h : Sp.DualQ q) : q.n - ((q.tail.length / 2 : Nat) : Int) + (((Sp.faces2 q).2 : Nat) : Int) = 2 := by
  obtain ⟨lab, F, hf, hE⟩ := h.pl.face
  rw [h.cls.count h.mp hf]
  exact hE
/-- Labels, as numbers. -/
theorem Sp.DualQ.fb {q : Sp.Net} (h : Sp.DualQ q) {i : Nat} (hi : i < q.tail.length) : 0 ≤ (Sp.faces2 q).1.getD i 0 ∧ (Sp.faces2 q).1.getD i 0 < ((Sp.faces2 q).2 : Int) := by
  have hst := Sp.faces2_st h.link.pm h.link.nx h.link.ev
  have h1 := hst.done i (by rw [h.bl]; exact hi)
  have h2 := h.cls.lt i hi
  omega
theorem Sp.DualQ.turn {q : Sp.Net} (h : Sp.DualQ q) {d : Nat} (hd : d < q.tail.length) : (Sp.faces2 q).1.getD (Sp.fn q.next d) 0 = (Sp.faces2 q).1.getD (Sp.oth d) 0 := by
  have ho := oth_lt hd h.link.ev
  have e : Sp.fn (Sp.behindL q.next) (Sp.oth d) = Sp.fn q.next d := by
    unfold Sp.fn
    rw [Sp.behindL_get _ _ (by rw [h.link.nx]; exact ho), oth_oth]
  have h1 := h.cls.inv _ ho
  rw [e] at h1
  have h2 := h.fb (h.mpN d hd)
  have h3 := h.fb ho
  omega
theorem Sp.DualQ.about {q : Sp.Net} (h : Sp.DualQ q) {d : Nat} (hd : d < q.tail.length) (m : Nat) : Sp.Reach (Sp.faces2 q).1 ((Sp.faces2 q).1.getD d 0) ((Sp.faces2 q).1.getD (itf (Sp.fn q.next) d m) 0) := by
  have hF := Sp.faces2_len q
  have hb : ∀ m, itf (Sp.fn q.next) d m < q.tail.length := fun m => by
    have := h.link.pm.fnP.it (by rw [h.link.nx]; exact hd) m
    rw [h.link.nx] at this; exact this
  induction m with
  | zero => exact .refl _
  | succ m ih =>
    show Sp.Reach _ _ ((Sp.faces2 q).1.getD (Sp.fn q.next (itf (Sp.fn q.next) d m)) 0)
    rw [h.turn (hb m)]
    exact ih.step (by rw [hF]; exact hb m)
theorem Sp.DualQ.same {q : Sp.Net} (h : Sp.DualQ q) {d e : Nat} (hd : d < q.tail.length) (he : e < q.tail.length) (ht : q.tail.getD d 0 = q.tail.getD e 0) : Sp.Reach (Sp.faces2 q).1 ((Sp.faces2 q).1.getD d 0) ((Sp.faces2 q).1.getD e 0) := by
  obtain ⟨m, rfl⟩ := h.pl.vert.sep d e hd he (by show (q.tail.getD d 0).toNat = (q.tail.getD e 0).toNat; rw [ht])
  exact h.about hd m
theorem Sp.DualQ.all {q : Sp.Net} (h : Sp.DualQ q) {d : Nat} (hd : d < q.tail.length) {v : Int} (hr : Sp.Reach q.tail (q.tail.getD d 0) v) : ∀ e, e < q.tail.length → q.tail.getD e 0 = v → Sp.Reach (Sp.faces2 q).1 ((Sp.faces2 q).1.getD d 0) ((Sp.faces2 q).1.getD e 0) := by
  have hF := Sp.faces2_len q
  refine hr.ind (p := fun v => ∀ e, e < q.tail.length → q.tail.getD e 0 = v → Sp.Reach (Sp.faces2 q).1 ((Sp.faces2 q).1.getD d 0) ((Sp.faces2 q).1.getD e 0)) (fun e he hv => h.same hd he hv.symm) fun c hc _ ih e he hv => ?_
  have ho := oth_lt hc h.link.ev
  have h1 := (ih c hc rfl).step (by rw [hF]; exact hc)
  exact h1.trans (h.same ho he hv.symm)
theorem Sp.DualQ.plain {q : Sp.Net} (h : Sp.DualQ q) : Sp.Plain (Sp.dual q) := by
  have hF := Sp.faces2_len q
  have hk := h.k1
  have hn : (Sp.dual q).n = (((Sp.faces2 q).2 : Nat) : Int) := by show ((max (Sp.faces2 q).2 1 : Nat) : Int) = _; omega
  have ht : (Sp.dual q).tail = (Sp.faces2 q).1 := rfl
  have hx : (Sp.dual q).next = Sp.behindL q.next := rfl
  refine ⟨?_, ⟨fun i => (q.tail.getD i 0).toNat, q.n.toNat, ?_, ?_⟩, fun v h0 h1 => ?_⟩
  · rw [ht, hF, hx, hn, Int.toNat_natCast]
    exact h.cls
  · rw [ht, hF, hx, Sp.behind_twice (by rw [h.link.nx]; exact h.link.ev)]
    exact h.pl.vert
  · rw [hn, ht, hF]
    have := h.euler
    have := h.n0
    omega
  · rw [ht]
    rw [hn] at h1
    obtain ⟨x, hx1, hx2⟩ := h.cls.on 0 (by omega)
    obtain ⟨y, hy1, hy2⟩ := h.cls.on v.toNat (by omega)

    have bx := h.fb hx1
    have bY := h.fb hy1
    have ex : (Sp.faces2 q).1.getD x 0 = 0 := by omega
    have ey : (Sp.faces2 q).1.getD y 0 = v := by omega
    have tx := h.tb _ (Sp.getD_mem (l := q.tail) hx1)
    have ty := h.tb _ (Sp.getD_mem (l := q.tail) hy1)
    have r := ((h.pl.conn _ tx.1 tx.2).symm h.link.ev).trans (h.pl.conn _ ty.1 ty.2)
    have := h.all hx1 r y hy1 rfl
    rw [ex, ey] at this
    exact this
theorem Sp.DualQ.half {q : Sp.Net} (h : Sp.DualQ q) : (Sp.faces2 q).2 ≤ 48 := by have := Sp.faces2_le q; have := h.le; omega
theorem Sp.DualQ.dlink {q : Sp.Net} (h : Sp.DualQ q) : Sp.LinkQ (Sp.dual q) := by
  have hF := Sp.faces2_len q
  refine ⟨?_, ?_, ?_, ?_, h.fp⟩
  · show (Sp.behindL q.next).length = (Sp.faces2 q).1.length; rw [hF, h.bl]
  · show q.cap.length = (Sp.faces2 q).1.length; rw [hF, h.link.cp]
  · show (Sp.faces2 q).1.length ≤ 60; rw [hF]; exact h.link.le
  · show (Sp.faces2 q).1.length % 2 = 0; rw [hF]; exact h.link.ev
theorem Sp.DualQ.dtb {q : Sp.Net} (h : Sp.DualQ q) : ∀ x ∈ (Sp.dual q).tail, 0 ≤ x ∧ x < (Sp.dual q).n := by
  have hF := Sp.faces2_len q
  have hk := h.k1
  have hn : (Sp.dual q).n = (((Sp.faces2 q).2 : Nat) : Int) := by show ((max (Sp.faces2 q).2 1 : Nat) : Int) = _; omega
  intro x hx
  rw [hn]
  have hx' : x ∈ (Sp.faces2 q).1 := hx
  obtain ⟨i, hi, rfl⟩ := List.getElem_of_mem hx'
  have := h.fb (i := i) (by rw [← hF]; exact hi)
  rw [Sp.getD_eq _ _ hi] at this
  exact this
theorem Sp.DualQ.dn {q : Sp.Net} (h : Sp.DualQ q) : (Sp.dual q).n = (((Sp.faces2 q).2 : Nat) : Int) := by
  have hk := h.k1
  show ((max (Sp.faces2 q).2 1 : Nat) : Int) = _
  omega
theorem Sp.DualQ.dualQ {q : Sp.Net} (h : Sp.DualQ q) : Sp.DualQ (Sp.dual q) := by
  have hF := Sp.faces2_len q
  have hk := h.k1
  have hh := h.half
  refine ⟨h.dlink, ?_, ?_, ?_, ?_, h.dtb, h.cb, h.plain⟩
  · show (Sp.faces2 q).1.length ≤ 48; rw [hF]; exact h.le
  · show 0 < (Sp.faces2 q).1.length; rw [hF]; exact h.l0
  · rw [h.dn]; omega
  · rw [h.dn]; omega
theorem Sp.DualQ.walk {q : Sp.Net} (h : Sp.DualQ q) : Sp.walkB q = true :=
  walkB_of ⟨h.n1, by have := h.n0; omega, by have := h.le; omega, h.link.ev, h.link.nx, h.link.cp, h.link.pm.bd, h.tb⟩
/-- The dual's faces are as many as the vertices. -/
theorem Sp.DualQ.count {q : Sp.Net} (h : Sp.DualQ q) : ((max (Sp.faces2 (Sp.dual q)).2 1 : Nat) : Int) = q.n := by
  have e1 := h.euler
  have e2 := h.dualQ.euler
  rw [h.dn] at e2
  have hl : (Sp.dual q).tail.length = q.tail.length := Sp.faces2_len q
  rw [hl] at e2
  have := h.n0
  omega
theorem Sp.dualQ_plane (ns : List Int) : Sp.plane ns = ⟨1, [], [], []⟩ ∨ Sp.DualQ (Sp.plane ns) := by
  have hq := Sp.plane_ok ns
  rcases Sp.plane_plain ns with e | ⟨h1, h2⟩
  · exact .inl e
  · exact .inr ⟨Sp.linkQ_plane ns, hq.le, h1, hq.n0, by have := hq.n1; omega, hq.tb, hq.cb, h2⟩
end Go.Proofs.Ytenffkplneimlab


/- Span's row: each vertex that was found comes to the root by it. -/
namespace Go.Proofs.Ytenffkplneimlab
open Go Go.RowKit

/-- Rows that are the same on vertices among which the ways stay: the ways are the same. -/
theorem Sp.reach_congr {T up up' : List Int} {root : Int} {S : Nat → Prop} (h1 : ∀ v, S v → (v : Int) ≠ root → S (Sp.nx T up v)) (h2 : ∀ v, S v → up'.getD v 0 = up.getD v 0) : ∀ g v, S v → Sp.reachGo T up' root g v = Sp.reachGo T up root g v
  | 0, v, _ => rfl
  | g + 1, v, hv => by
    have e : Sp.nx T up' v = Sp.nx T up v := by unfold Sp.nx; rw [h2 v hv]
    rw [Sp.reach_succ, Sp.reach_succ, e]
    split
    · rfl
    · rename_i hr
      exact Sp.reach_congr h1 h2 g _ (h1 v hv hr)
theorem Sp.rc_first {T : List Int} {root : Int} {N : Nat} : ∀ v : Nat, v < N → (v : Int) ∈ [root] → Sp.Rc T (List.replicate N (-1)) root v := fun v _ h => by
  simp at h
  exact Sp.rc_root _ _ h
theorem Sp.SpSt.rcfind {T : List Int} {root : Int} {N : Nat} {fl up : List Int} (h : Sp.SpSt T root N fl up) (hQ : ∀ v : Nat, v < N → (v : Int) ∈ fl → Sp.Rc T up root v) (hT : ∀ x ∈ T, 0 ≤ x ∧ x < (N : Int)) (hev : T.length % 2 = 0) {d : Nat} (hd : d < T.length) (hu : T.getD d 0 ∈ fl) (hn : ¬ (T.getD (Sp.oth d) 0 = root ∨ up.getD (T.getD (Sp.oth d) 0).toNat 0 ≠ -1)) :
    ∀ v : Nat, v < N → (v : Int) ∈ fl ++ [T.getD (Sp.oth d) 0] → Sp.Rc T (up.set (T.getD (Sp.oth d) 0).toNat ((Sp.oth d : Nat) : Int)) root v := by
  have ho := oth_lt hd hev
  have hb := hT _ (Sp.getD_mem (l := T) ho)
  obtain ⟨y, hy⟩ : ∃ y : Nat, T.getD (Sp.oth d) 0 = (y : Int) := ⟨(T.getD (Sp.oth d) 0).toNat, by omega⟩
  rw [hy] at hn hb ⊢
  rw [Int.toNat_natCast] at hn ⊢
  have hyN : y < N := by omega
  have hyf : ¬ (y : Int) ∈ fl := fun hm => hn ((h.mem y hyN).1 hm)
  have hl := h.len
  have hcl : ∀ v : Nat, (v < N ∧ (v : Int) ∈ fl) → (v : Int) ≠ root → (Sp.nx T up v < N ∧ ((Sp.nx T up v : Nat) : Int) ∈ fl) := fun v hv hr => by
    have hne : up.getD v 0 ≠ -1 := ((h.mem v hv.1).1 hv.2).resolve_left hr
    obtain ⟨c, hc, e, -, hm⟩ := h.dart v hv.1 hne
    have hbc := h.bd _ hm
    have e2 : Sp.nx T up v = (T.getD (Sp.oth c) 0).toNat := by unfold Sp.nx; rw [e, Int.toNat_natCast]
    rw [e2]
    exact ⟨by omega, by rw [show (((T.getD (Sp.oth c) 0).toNat : Nat) : Int) = T.getD (Sp.oth c) 0 by omega]; exact hm⟩
  have hsame : ∀ v : Nat, (v < N ∧ (v : Int) ∈ fl) → (up.set y ((Sp.oth d : Nat) : Int)).getD v 0 = up.getD v 0 := fun v hv => by
    rw [getD_set1 _ _ _ _ (by omega), if_neg (fun e => hyf (by rw [e]; exact hv.2))]
  have hold : ∀ v : Nat, v < N → (v : Int) ∈ fl → Sp.Rc T (up.set y ((Sp.oth d : Nat) : Int)) root v := fun v h1 h2 => by
    obtain ⟨g, hg⟩ := hQ v h1 h2
    exact ⟨g, by rw [Sp.reach_congr (S := fun v => v < N ∧ (v : Int) ∈ fl) hcl hsame g v ⟨h1, h2⟩]; exact hg⟩
  intro v hv hm
  rcases List.mem_append.1 hm with hm | hm
  · exact hold v hv hm
  · have : v = y := by have := List.mem_singleton.1 hm; omega
    subst this
    have hr : (v : Int) ≠ root := fun e => hn (.inl e)
    rw [Sp.rc_next hr]
    have e : Sp.nx T (up.set v ((Sp.oth d : Nat) : Int)) v = (T.getD d 0).toNat := by
      unfold Sp.nx
      rw [getD_set1 _ _ _ _ (by omega), if_pos rfl, Int.toNat_natCast, oth_oth]
    have hub := h.bd _ hu
    rw [e]
    exact hold _ (by omega) (by rw [show (((T.getD d 0).toNat : Nat) : Int) = T.getD d 0 by omega]; exact hu)
theorem Sp.SpSt.rcrow {T : List Int} {root : Int} {N : Nat} (hT : ∀ x ∈ T, 0 ≤ x ∧ x < (N : Int)) (hev : T.length % 2 = 0) {u : Int} : ∀ c d fl up, d + c = T.length → u ∈ fl → Sp.SpSt T root N fl up → (∀ v : Nat, v < N → (v : Int) ∈ fl → Sp.Rc T up root v) → ∀ v : Nat, v < N → (v : Int) ∈ (Sp.rowGo T root u c d fl up).1 → Sp.Rc T (Sp.rowGo T root u c d fl up).2 root v
  | 0, d, fl, up, _, _, _, hQ => hQ
  | c + 1, d, fl, up, hd, hu, h, hQ => by
    rw [Sp.rowGo]
    split
    · rename_i e
      split
      · exact Sp.SpSt.rcrow hT hev c (d + 1) fl up (by omega) hu h hQ
      · rename_i hn
        exact Sp.SpSt.rcrow hT hev c (d + 1) _ _ (by omega) (List.mem_append.2 (.inl hu)) (h.find hT hev (by omega) (by rw [e]; exact hu) hn) (h.rcfind hQ hT hev (by omega) (by rw [e]; exact hu) hn)
    · exact Sp.SpSt.rcrow hT hev c (d + 1) fl up (by omega) hu h hQ
theorem Sp.SpSt.rcspan {T : List Int} {root : Int} {N : Nat} (hT : ∀ x ∈ T, 0 ≤ x ∧ x < (N : Int)) (hev : T.length % 2 = 0) : ∀ g i fl up, Sp.SpSt T root N fl up → (∀ v : Nat, v < N → (v : Int) ∈ fl → Sp.Rc T up root v) → ∀ v : Nat, v < N → (v : Int) ∈ (Sp.spanGo T root g i fl up).1 → Sp.Rc T (Sp.spanGo T root g i fl up).2 root v
  | 0, i, fl, up, _, hQ => hQ
  | g + 1, i, fl, up, h, hQ => by
    rw [Sp.spanGo]
    split
    · rename_i hi
      have hu : fl.getD i 0 ∈ fl := Sp.getD_mem hi
      exact Sp.SpSt.rcspan hT hev g (i + 1) _ _ (Sp.SpSt.row hT hev T.length 0 fl up (by omega) hu h).1 (Sp.SpSt.rcrow hT hev T.length 0 fl up (by omega) hu h hQ)
    · exact hQ
end Go.Proofs.Ytenffkplneimlab


/- Span's row is Right. -/
namespace Go.Proofs.Ytenffkplneimlab
open Go Go.RowKit

theorem Sp.edges_of (T up : List Int) (root : Int) : ∀ (g v : Nat), (∀ x : Nat, v ≤ x → x < v + g → (x : Int) = root ∨ (0 ≤ up.getD x 0 ∧ up.getD x 0 < (T.length : Int) ∧ T.getD (up.getD x 0).toNat 0 = (x : Int))) → Sp.edgesGo T up root g v = true
  | 0, v, _ => rfl
  | g + 1, v, h => by
    rw [Sp.edgesGo, if_pos (h v (Nat.le_refl _) (by omega))]
    exact Sp.edges_of T up root g (v + 1) fun x h1 h2 => h x (by omega) (by omega)
theorem Sp.nx_bd {T up : List Int} {N : Nat} (hT : ∀ x ∈ T, 0 ≤ x ∧ x < (N : Int)) (h0 : 0 < N) (y : Nat) : Sp.nx T up y < N := by
  unfold Sp.nx
  rcases Nat.lt_or_ge (Sp.oth (up.getD y 0).toNat) T.length with h | h
  · have := hT _ (Sp.getD_mem h); omega
  · rw [List.getD_eq_getElem?_getD, List.getElem?_eq_none h]; exact h0
theorem Sp.span_right {q : Sp.Net} {r N : Nat} (hN : q.n = (N : Int)) (hT : ∀ x ∈ q.tail, 0 ≤ x ∧ x < q.n) (hev : q.tail.length % 2 = 0) (hr : r < N) (hc : ∀ v, 0 ≤ v → v < q.n → Sp.Reach q.tail (r : Int) v) : Sp.rightB q (Sp.span q (r : Int)) (r : Int) = true := by
  have hT' : ∀ x ∈ q.tail, 0 ≤ x ∧ x < (N : Int) := fun x hx => by have := hT x hx; omega
  obtain ⟨h1, h2, h3⟩ := Sp.span_all hT hev (root := (r : Int)) (by omega) (by omega) hc
  have hst := (Sp.spanGo_done hT' hev N 0 [(r : Int)] (List.replicate N (-1)) (by omega) (by simp) (Sp.SpSt.first q.tail (by omega) (by omega)) (fun k hk => by omega)).1
  have hrc := Sp.SpSt.rcspan hT' hev N 0 [(r : Int)] (List.replicate N (-1)) (Sp.SpSt.first q.tail (by omega) (by omega)) Sp.rc_first
  have hsp : Sp.span q (r : Int) = (Sp.spanGo q.tail (r : Int) N 0 [(r : Int)] (List.replicate N (-1))).2 := by unfold Sp.span; rw [hN, Int.toNat_natCast]
  rw [← hsp] at hst hrc
  rw [hN, Int.toNat_natCast] at h1
  rw [Int.toNat_natCast] at h2
  generalize Sp.span q (r : Int) = U at *
  unfold Sp.rightB
  rw [hN, Int.toNat_natCast, Int.toNat_natCast, decide_eq_true (show (U.length : Int) = (N : Int) ∧ 0 ≤ (r : Int) ∧ (r : Int) < (N : Int) ∧ U.getD r 0 = -1 from ⟨by omega, by omega, by omega, h2⟩)]
  have he : Sp.edgesGo q.tail U (r : Int) N 0 = true := Sp.edges_of _ _ _ N 0 fun x _ hx => by
    by_cases hxr : (x : Int) = (r : Int)
    · exact .inl hxr
    · obtain ⟨d, hd, e1, e2⟩ := h3 x (by omega) hxr
      exact .inr ⟨by omega, by omega, by rw [e1, Int.toNat_natCast]; exact e2⟩
  have hch : Sp.chainsGo q.tail U (r : Int) N N 0 = true := (Sp.chains_iff (fun y _ => Sp.nx_bd hT' (by omega) y) N 0 (by omega)).2 fun x _ hx => by
    refine hrc x hx ((hst.mem x hx).2 ?_)
    by_cases hxr : (x : Int) = (r : Int)
    · exact .inl hxr
    · obtain ⟨d, hd, e1, e2⟩ := h3 x (by omega) hxr
      exact .inr (by omega)
  rw [he, hch]
  rfl
end Go.Proofs.Ytenffkplneimlab


/- What the laws of trees take of a plane net; what a tree's row is. -/
namespace Go.Proofs.Ytenffkplneimlab
open Go Go.RowKit

structure Sp.TreeQ (q : Sp.Net) : Prop where
  ev : q.tail.length % 2 = 0
  le : q.tail.length ≤ 48
  n0 : 1 ≤ q.n
  n1 : q.n ≤ 60
  nE : q.n ≤ ((q.tail.length / 2 : Nat) : Int) + 1
  tb : ∀ x ∈ q.tail, 0 ≤ x ∧ x < q.n
  conn : ∀ u v, 0 ≤ u → u < q.n → 0 ≤ v → v < q.n → Sp.Reach q.tail u v
theorem Sp.treeQ_one : Sp.TreeQ ⟨1, [], [], []⟩ := by
  refine ⟨rfl, by simp, by decide, by decide, by decide, fun x hx => by simp at hx, fun u v h1 h2 h3 h4 => ?_⟩
  have h2' : u < 1 := h2
  have h4' : v < 1 := h4
  obtain rfl : u = v := by omega
  exact .refl _
theorem Sp.treeQ_plane (ns : List Int) : Sp.TreeQ (Sp.plane ns) := by
  rcases Sp.dualQ_plane ns with e | h
  · rw [e]; exact Sp.treeQ_one
  · have hE := h.euler
    have hk := h.k1
    exact ⟨h.link.ev, h.le, h.n0, h.n1, by omega, h.tb, fun u v h1 h2 h3 h4 => ((h.pl.conn u h1 h2).symm h.link.ev).trans (h.pl.conn v h3 h4)⟩
/-- A tree's row. -/
structure Sp.RowT (T U : List Int) (r N : Nat) : Prop where
  len : U.length = N
  rN : r < N
  rt : U.getD r 0 = -1
  dart : ∀ v, v < N → v ≠ r → ∃ d : Nat, d < T.length ∧ U.getD v 0 = (d : Int) ∧ T.getD d 0 = (v : Int)
  rc : ∀ v, v < N → Sp.Rc T U (r : Int) v
theorem Sp.rowT_right {q : Sp.Net} {U : List Int} {r N : Nat} (hN : q.n = (N : Int)) (hT : ∀ x ∈ q.tail, 0 ≤ x ∧ x < q.n) (h : Sp.RowT q.tail U r N) : Sp.rightB q U (r : Int) = true := by
  have hT' : ∀ x ∈ q.tail, 0 ≤ x ∧ x < (N : Int) := fun x hx => by have := hT x hx; omega
  have hl := h.len
  have hr := h.rN
  unfold Sp.rightB
  rw [hN, Int.toNat_natCast, Int.toNat_natCast, decide_eq_true (show (U.length : Int) = (N : Int) ∧ 0 ≤ (r : Int) ∧ (r : Int) < (N : Int) ∧ U.getD r 0 = -1 from ⟨by omega, by omega, by omega, h.rt⟩)]
  have he : Sp.edgesGo q.tail U (r : Int) N 0 = true := Sp.edges_of _ _ _ N 0 fun x _ hx => by
    by_cases hxr : x = r
    · exact .inl (by omega)
    · obtain ⟨d, hd, e1, e2⟩ := h.dart x (by omega) hxr
      exact .inr ⟨by omega, by omega, by rw [e1, Int.toNat_natCast]; exact e2⟩
  have hch : Sp.chainsGo q.tail U (r : Int) N N 0 = true := (Sp.chains_iff (fun y _ => Sp.nx_bd hT' (by omega) y) N 0 (by omega)).2 fun x _ hx => h.rc x hx
  rw [he, hch]
  rfl
theorem Sp.TreeQ.span {q : Sp.Net} (h : Sp.TreeQ q) {r N : Nat} (hN : q.n = (N : Int)) (hr : r < N) : Sp.rightB q (Sp.span q (r : Int)) (r : Int) = true :=
  Sp.span_right hN h.tb h.ev hr fun v h0 h1 => h.conn _ v (by omega) (by omega) h0 h1
theorem Sp.RowT.nx {T U : List Int} {r N : Nat} (_h : Sp.RowT T U r N) {v d : Nat} (e : U.getD v 0 = (d : Int)) : Sp.nx T U v = (T.getD (Sp.oth d) 0).toNat := by
  unfold Sp.nx; rw [e, Int.toNat_natCast]
theorem Sp.RowT.below {T U : List Int} {r N : Nat} (h : Sp.RowT T U r N) : ∀ z ∈ U, z < (T.length : Int) := fun z hz => by
  obtain ⟨v, hv, e⟩ := List.getElem_of_mem hz
  have hv' : v < N := by rw [← h.len]; exact hv
  have e2 : U.getD v 0 = z := by rw [Sp.getD_eq _ _ hv, e]
  by_cases hr : v = r
  · subst hr
    have := h.rt
    omega
  · obtain ⟨d, hd, e1, -⟩ := h.dart v hv' hr
    omega
/-- Two vertices do not hang on one edge. -/
theorem Sp.RowT.apart {T U : List Int} {r N : Nat} (h : Sp.RowT T U r N) {v w d e : Nat} (hv : v < N) (hw : w < N) (hvr : v ≠ r) (hwr : w ≠ r) (h1 : U.getD v 0 = (d : Int)) (h2 : U.getD w 0 = (e : Int)) (he : d / 2 = e / 2) : v = w := by
  obtain ⟨d', -, a1, a2⟩ := h.dart v hv hvr
  obtain ⟨e', -, b1, b2⟩ := h.dart w hw hwr
  obtain rfl : d' = d := by omega
  obtain rfl : e' = e := by omega
  by_cases hde : d' = e'
  · subst hde; omega
  · exfalso
    have ho : Sp.oth d' = e' := by unfold Sp.oth; split <;> omega
    have ho2 : Sp.oth e' = d' := by rw [← ho, oth_oth]
    have n1 : Sp.nx T U v = w := by rw [h.nx h1, ho, b2, Int.toNat_natCast]
    have n2 : Sp.nx T U w = v := by rw [h.nx h2, ho2, a2, Int.toNat_natCast]
    have : Sp.Stp T U (r : Int) 2 v v := ⟨by omega, by rw [n1]; exact ⟨by omega, n2⟩⟩
    exact this.round (h.rc v hv)
/-- The edges that are used. -/
theorem Sp.usedB_ex (up : List Int) (d : Nat) : ∀ j, Sp.usedB up d j = true ↔ ∃ i, i < j ∧ (up.getD i 0 = (d : Int) ∨ up.getD i 0 = (d : Int) + 1)
  | 0 => ⟨fun h => (by cases h), fun ⟨i, h, _⟩ => (by omega)⟩
  | j + 1 => by
    rw [Sp.usedB, Bool.or_eq_true, Bool.or_eq_true, Sp.usedB_ex up d j, beq_iff_eq, beq_iff_eq]
    constructor
    · rintro ((⟨i, h1, h2⟩ | h) | h)
      · exact ⟨i, by omega, h2⟩
      · exact ⟨j, by omega, .inl h⟩
      · exact ⟨j, by omega, .inr h⟩
    · rintro ⟨i, h1, h2⟩
      by_cases h : i = j
      · subst h
        rcases h2 with h2 | h2
        · exact .inl (.inr h2)
        · exact .inr h2
      · exact .inl (.inl ⟨i, by omega, h2⟩)
theorem Sp.leftGo_eq (up : List Int) : ∀ g e out, Sp.leftGo up g e out = out ++ ((List.range' e g).filter (fun e => !Sp.usedB up (2 * e) up.length)).map (fun e => ((2 * e : Nat) : Int))
  | 0, e, out => by simp [Sp.leftGo]
  | g + 1, e, out => by
    rw [Sp.leftGo, List.range'_succ, List.filter_cons]
    split
    · rename_i h
      rw [Sp.leftGo_eq up g (e + 1) out, h]
      simp
    · rename_i h
      rw [Sp.leftGo_eq up g (e + 1) _, if_pos (by simpa using h), List.map_cons, List.append_assoc]
      rfl
theorem Sp.leftL_eq (q : Sp.Net) (up : List Int) : Sp.leftL q up = ((List.range (q.tail.length / 2)).filter (fun e => !Sp.usedB up (2 * e) up.length)).map (fun e => ((2 * e : Nat) : Int)) := by
  unfold Sp.leftL
  rw [Sp.leftGo_eq, List.nil_append, List.range_eq_range']
theorem filter_add (p : Nat → Bool) : ∀ l : List Nat, (l.filter p).length + (l.filter (fun x => !p x)).length = l.length
  | [] => rfl
  | x :: l => by
    have := filter_add p l
    rw [List.filter_cons, List.filter_cons]
    cases p x <;> simp <;> omega
/-- What is left is as many as edges, less the vertices but the root. -/
theorem Sp.RowT.left {q : Sp.Net} {U : List Int} {r N : Nat} (h : Sp.RowT q.tail U r N) (hev : q.tail.length % 2 = 0) : (Sp.leftL q U).length + (N - 1) = q.tail.length / 2 := by
  rw [Sp.leftL_eq, List.length_map]
  have h1 := filter_add (fun e => Sp.usedB U (2 * e) U.length) (List.range (q.tail.length / 2))
  rw [List.length_range] at h1
  have hp : (((List.range N).filter (fun v => decide (v ≠ r))).map (fun v => (U.getD v 0).toNat / 2)).Perm ((List.range (q.tail.length / 2)).filter (fun e => Sp.usedB U (2 * e) U.length)) := by
    rw [List.perm_ext_iff_of_nodup]
    · intro e
      rw [List.mem_map, List.mem_filter, List.mem_range, Sp.usedB_ex]
      constructor
      · rintro ⟨v, hv, rfl⟩
        rw [List.mem_filter, List.mem_range, decide_eq_true_eq] at hv
        obtain ⟨d, hd, e1, -⟩ := h.dart v hv.1 hv.2
        refine ⟨by rw [e1, Int.toNat_natCast]; omega, v, by rw [h.len]; exact hv.1, ?_⟩
        rw [e1, Int.toNat_natCast]
        omega
      · rintro ⟨he, v, hv, hc⟩
        rw [h.len] at hv
        refine ⟨v, ?_, by omega⟩
        rw [List.mem_filter, List.mem_range, decide_eq_true_eq]
        refine ⟨hv, fun e => ?_⟩
        subst e
        rw [h.rt] at hc
        omega
    · refine List.pairwise_map.2 (List.Pairwise.imp_of_mem ?_ ((List.nodup_range (n := N)).filter (fun v => decide (v ≠ r))))
      intro v w hv hw hvw e
      refine hvw ?_
      rw [List.mem_filter, List.mem_range, decide_eq_true_eq] at hv hw
      obtain ⟨d, hd, e1, -⟩ := h.dart v hv.1 hv.2
      obtain ⟨d', hd', e1', -⟩ := h.dart w hw.1 hw.2
      exact h.apart hv.1 hw.1 hv.2 hw.2 e1 e1' (by rw [e1, e1', Int.toNat_natCast, Int.toNat_natCast] at e; exact e)
    · exact (List.nodup_range).filter _
  have h2 := hp.length_eq
  rw [List.length_map] at h2
  have h3 := filter_add (fun v => decide (v ≠ r)) (List.range N)
  rw [List.length_range] at h3
  have h4 : ((List.range N).filter (fun v => !decide (v ≠ r))).length = 1 := by
    have hp2 : ((List.range N).filter (fun v => !decide (v ≠ r))).Perm [r] := by
      rw [List.perm_ext_iff_of_nodup ((List.nodup_range).filter _) (by simp)]
      intro v
      rw [List.mem_filter, List.mem_range]
      have hr := h.rN
      constructor
      · rintro ⟨-, e⟩
        simp at e
        simp [e]
      · intro e
        simp at e
        subst e
        exact ⟨hr, by simp⟩
    exact hp2.length_eq
  omega
end Go.Proofs.Ytenffkplneimlab


