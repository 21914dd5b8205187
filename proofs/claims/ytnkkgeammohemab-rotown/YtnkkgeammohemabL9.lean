/- What the proof needs, part 9. -/
import Derived.Test.YtnkkgeammohemabL8
/- The law RotOwn, walked. -/
namespace Go.Proofs.Ytnkkgeammohemab
open Go Go.RowKit

theorem Open'.below {w w' : World} {B g o n : Nat} (h : Open' w g o n) (hb : Below B w w') (hg : g < B) : Open' w' g o n := fun j hj => by
  obtain ⟨v, h1, h2⟩ := h j hj
  exact ⟨v, (hb.cell (by exact hg)).trans h1, (hb.frozen (by exact hg)).trans h2⟩
/-- The net that was turned, on the way: what stays. -/
structure MAt (X bm ln g1 g2 g3 : Nat) (W6 wr : World) (o : Obj) : Prop where
  bel : Below X W6 wr
  box : wr.heap[bm]? = some o
  o1 : Open' wr g1 0 ln
  o2 : Open' wr g2 0 ln
  o3 : Open' wr g3 0 ln
theorem MAt.sets {X bm ln g1 g2 g3 : Nat} {W6 wr : World} {o : Obj} (h : MAt X bm ln g1 g2 g3 W6 wr o) (b1 : X ≤ g1) (b2 : X ≤ g2) (b3 : X ≤ g3) (s1 : bm ≠ g1) (s2 : bm ≠ g2) (s3 : bm ≠ g3) (i : Nat) (u v x : Value) :
    MAt X bm ln g1 g2 g3 W6 (((wr.setCell ⟨g1, i, none⟩ u).setCell ⟨g3, i, none⟩ v).setCell ⟨g2, i, none⟩ x) o := by
  refine ⟨((h.bel.setCell (by exact b1) _).setCell (by exact b3) _).setCell (by exact b2) _, ?_, ((h.o1.set _ _).set _ _).set _ _, ((h.o2.set _ _).set _ _).set _ _, ((h.o3.set _ _).set _ _).set _ _⟩
  rw [heap_setCell_other _ _ _ _ s2, heap_setCell_other _ _ _ _ s3, heap_setCell_other _ _ _ _ s1]
  exact h.box
theorem MAt.drew {X bm ln g1 g2 g3 : Nat} {W6 wr : World} {o : Obj} (h : MAt X bm ln g1 g2 g3 W6 wr o) : MAt X bm ln g1 g2 g3 W6 wr.drew o := ⟨h.bel.drew, h.box, h.o1, h.o2, h.o3⟩
set_option maxRecDepth 100000 in
set_option maxHeartbeats 4000000 in
theorem rotOwn_any (ns : List Int) (x : Value) (d : Int) (w : World) (hx : Ints w x ns) :
    Calls Try.prog 8 #[x, .int .i64 d] w fun e w' => e = .returned (.bool true) ∧ Below w.heap.size w w' := by
  obtain ⟨a, c, rfl, hc, hm⟩ := hx.form
  have HPL := hide (fun w' (hb : Below w.heap.size w w') => plane_any ns (.slice a ns.length c) w' (hx.below hb))
  have HOK := hide (Sp.plane_ok ns)
  generalize Sp.plane ns = q at *
  generalize ns.length = n at *
  clear hx
  have hl48 : q.tail.length ≤ 48 := (unhide HOK).le
  obtain ⟨ln, hln⟩ : ∃ ln, q.tail.length = ln := ⟨_, rfl⟩
  rw [hln] at hl48
  have hnl : q.next.length = ln := by rw [(unhide HOK).nx, hln]
  have hcl : q.cap.length = ln := by rw [(unhide HOK).cp, hln]
  obtain ⟨P, hP⟩ : ∃ P : Ending → World → Prop, P = fun e w' => e = .returned (.bool true) ∧ Below w.heap.size w w' := ⟨_, rfl⟩
  rw [← hP]
  have HP := hide hP
  clear hP
  have Hln := hide hln
  have Hnl := hide hnl
  have Hcl := hide hcl
  clear hln hnl hcl
  go_enter Try.func8, Try.ntmps8
  go_wp2_with fail
  go_at_call 9
  refine (known2_any w).mono ?_
  rintro e w2 ⟨rfl, hb2⟩
  have Hb2 := hide hb2
  clear hb2
  go_wp2_with fail
  go_at_call 12
  refine (unhide HPL _ (unhide Hb2)).mono ?_
  rintro e w3 ⟨v, tv, nv, cv, rfl, hnv, hb3⟩
  have hval := hnv.val
  subst hval
  have Hb3 := hide ((unhide Hb2).trans (hb3.mono (unhide Hb2).size))
  obtain ⟨ta, tc, htv, -, -⟩ := hnv.netI.tail.form
  obtain ⟨na, nc, hnv', -, -⟩ := hnv.netI.next.form
  obtain ⟨ca, cc, hcv, -, -⟩ := hnv.netI.cap.form
  rw [unhide Hln] at htv
  rw [unhide Hnl] at hnv'
  rw [unhide Hcl] at hcv
  subst htv hnv' hcv
  have HN3 := hide hnv.netI
  clear hnv hb3 Hb2
  go_wp2_with fail
  go_at_call 12
  refine (unhide HPL _ (unhide Hb3)).mono ?_
  clear HPL
  rintro e w4 ⟨v, tv, nv, cv, rfl, hnv, hb4⟩
  have hval := hnv.val
  subst hval
  obtain ⟨ta2, tc2, htv, -, -⟩ := hnv.netI.tail.form
  obtain ⟨na2, nc2, hnv', -, -⟩ := hnv.netI.next.form
  obtain ⟨ca2, cc2, hcv, -, -⟩ := hnv.netI.cap.form
  rw [unhide Hln] at htv
  rw [unhide Hnl] at hnv'
  rw [unhide Hcl] at hcv
  subst htv hnv' hcv
  obtain ⟨W6, hW6⟩ : ∃ W6, W6 = (w4.alloc (.cells #[.int .i64 q.n, .slice ta ln tc, .slice na ln nc, .slice ca ln cc] 25)).alloc (.cells #[.int .i64 q.n, .slice ta2 ln tc2, .slice na2 ln nc2, .slice ca2 ln cc2] 25) := ⟨_, rfl⟩
  obtain ⟨hBX, hs6, hTR⟩ := boxes2 ((unhide Hb3).trans (hb4.mono (unhide Hb3).size)) (⟨rfl, (unhide HN3).tail.below hb4, (unhide HN3).next.below hb4, (unhide HN3).cap.below hb4⟩ : NetI w4 (.agg #[.int .i64 q.n, .slice ta ln tc, .slice na ln nc, .slice ca ln cc]) q (.slice ta ln tc) (.slice na ln nc) (.slice ca ln cc)) hnv.netI W6 hW6
  have HBX := hide hBX
  have HTR := hide hTR
  have Hs6 := hide hs6
  have HW6 := hide hW6
  clear hnv hb4 Hb3 HN3 hBX hTR hs6 hW6
  have hb6 : Below (w4.heap.size + 2) W6 W6 := Below.refl _ _
  have HWK := hide ((unhide HOK).walk (by omega))
  have HFE := hide (Sp.faces_eq (unhide HOK).pm (unhide HOK).nx (unhide HOK).ev)
  have HFL : Hid ((Sp.faces2 q).1.length = ln) := hide (by rw [Sp.faces2_len, unhide Hln])
  have HF := hide (fun w' (hb : Below (w4.heap.size + 2) W6 w') => faces_any q _ _ _ _ w' (unhide HBX w' hb).2.2.1 (unhide HWK))
  rw [(unhide HFE).1, (unhide HFE).2] at HF
  have HF2 := hide (fun w' (hb : Below (w4.heap.size + 2) W6 w') => faces2_any q _ _ _ _ w' (unhide HBX w' hb).2.2.2.1 (unhide HOK).nx (by rw [unhide Hln]; omega) (unhide HOK).ev (unhide HOK).pm)
  generalize (Sp.faces2 q).1 = FL at *
  generalize max (Sp.faces2 q).2 1 = K at *
  have HTn : Hid (∀ w', Below (w4.heap.size + 2) W6 w' → Calls Try.prog 15 #[.agg #[.int .i64 q.n, .slice ta ln tc, .slice na ln nc, .slice ca ln cc]] w' fun e w'' => ∃ ta' tc' na' nc' ca' cc', e = .returned (.agg #[.int .i64 q.n, .slice ta' ln tc', .slice na' ln nc', .slice ca' ln cc']) ∧ Hid ((0 < ln → ∃ g1 g2 g3, ta' = some ⟨g1, 0, none⟩ ∧ na' = some ⟨g2, 0, none⟩ ∧ ca' = some ⟨g3, 0, none⟩ ∧ w'.heap.size ≤ g1 ∧ w'.heap.size ≤ g2 ∧ w'.heap.size ≤ g3 ∧ g1 < w''.heap.size ∧ g2 < w''.heap.size ∧ g3 < w''.heap.size ∧ Open' w'' g1 0 ln ∧ Open' w'' g2 0 ln ∧ Open' w'' g3 0 ln) ∧ Below w'.heap.size w' w'')) := by
    refine hide fun w' hb => (rturn_any q _ _ _ _ w' (unhide HBX w' hb).2.2.1 (unhide HWK)).mono ?_
    rintro e w'' ⟨tv, nv, cv, e1, e2, e3, e4, e5⟩
    have l1 : (Sp.turnL q.next).length = ln := by rw [Sp.turnL_len, unhide Hnl]
    obtain ⟨ta', tc', htv, -, -⟩ := e2.ints.form
    obtain ⟨na', nc', hnv, -, -⟩ := e3.ints.form
    obtain ⟨ca', cc', hcv, -, -⟩ := e4.ints.form
    rw [unhide Hln] at htv
    rw [l1] at hnv
    rw [unhide Hcl] at hcv
    subst htv hnv hcv
    refine ⟨ta', tc', na', nc', ca', cc', e1, hide ⟨fun h0 => ?_, e5⟩⟩
    obtain ⟨g1, c1, f1, b1, s1, -, -⟩ := own_form e2 (by rw [unhide Hln]; exact h0)
    obtain ⟨g2, c2, f2, b2, s2, -, -⟩ := own_form e3 (by rw [l1]; exact h0)
    obtain ⟨g3, c3, f3, b3, s3, -, -⟩ := own_form e4 (by rw [unhide Hcl]; exact h0)
    injection f1 with f1
    injection f2 with f2
    injection f3 with f3
    subst f1 f2 f3
    have o1 := own_open e2
    have o2 := own_open e3
    have o3 := own_open e4
    rw [unhide Hln] at o1
    rw [l1] at o2
    rw [unhide Hcl] at o3
    exact ⟨g1, g2, g3, rfl, rfl, rfl, b1, b2, b3, s1, s2, s3, o1, o2, o3⟩
  go_wp2_with fail
  rw [← unhide HW6]
  go_at_call 16
  refine (unhide HF W6 hb6).mono ?_
  rintro e w7 ⟨fv, rfl, hf7, hl7⟩
  have hb7 := unhide HTR _ _ hb6 hl7
  obtain ⟨fa, fc, hfv, -, -⟩ := hf7.ints.form
  rw [unhide HFL] at hfv
  subst hfv
  have HFa : Hid (0 < ln → ∃ fg, fa = some ⟨fg, 0, none⟩ ∧ w4.heap.size + 2 ≤ fg) := hide fun h0 => by
    obtain ⟨g1, c1, f1, b1, -, -, -⟩ := own_form hf7 (by rw [unhide HFL]; exact h0)
    injection f1 with f1
    exact ⟨g1, f1, by rw [← unhide Hs6]; exact b1⟩
  have HA7 : Hid (Below (w4.heap.size + 2) W6 w7 ∧ ∀ g', fa = some ⟨g', 0, none⟩ → Open' w7 g' 0 ln) := hide ⟨hb7, fun g' e => by
    subst e
    have o := own_open hf7
    rw [unhide HFL] at o
    exact o⟩
  clear hf7 hl7 hb7 hb6
  go_wp2_with fail
  go_loopg [9] ln (fun g s9 wr => ∃ i : Nat, i + g = ln ∧ s9 = .int .i64 (i : Int) ∧ Hid (Below (w4.heap.size + 2) W6 wr ∧ ∀ g', fa = some ⟨g', 0, none⟩ → Open' wr g' 0 ln))
  case atStart => exact ⟨0, by omega, rfl, HA7⟩
  case round =>
    obtain ⟨i, hig, rfl, HAr⟩ := hrel
    cases gk with
    | succ g' =>
      have hil : i < ln := by omega
      have hiI : (i : Int) < (ln : Int) := by omega
      obtain ⟨fg, rfl, hfg⟩ := unhide HFa (by omega)
      obtain ⟨vi, ci, fi⟩ := (unhide HAr).2 fg rfl i hil
      rw [Nat.zero_add] at ci fi
      have HA2 : Hid (∀ v, Below (w4.heap.size + 2) W6 (wr.setCell ⟨fg, i, none⟩ v) ∧ ∀ g', (some ⟨fg, 0, none⟩ : Option Addr) = some ⟨g', 0, none⟩ → Open' (wr.setCell ⟨fg, i, none⟩ v) g' 0 ln) := hide fun v => ⟨(unhide HAr).1.setCell hfg v, fun g' e => ((unhide HAr).2 g' e).set _ _⟩
      clear HAr HA7
      go_wp2
      go_roundg g'
      case rel => exact ⟨i + 1, by omega, by go_num, hide (unhide HA2 _)⟩
      case measure => omega
    | zero =>
      have hie : i = ln := by omega
      rw [hie]
      have HB8 := hide (unhide HAr).1
      clear hie hig HA7 HAr HFa
      obtain ⟨x0, x1, x2, x3⟩ := (unhide HBX wr (unhide HB8)).1
      go_wp2_with fail
      go_at_call 15
      refine (unhide HTn wr (unhide HB8)).mono ?_
      clear HTn x0 x1 x2 x3
      rintro e wT ⟨ta', tc', na', nc', ca', cc', rfl, HT⟩
      have HbT := hide (unhide HTR _ _ (unhide HB8) (unhide HT).2)
      have hszr := (unhide HBX wr (unhide HB8)).2.2.2.2.2
      have HM8 : Hid (0 < ln → ∃ g1 g2 g3, ta' = some ⟨g1, 0, none⟩ ∧ na' = some ⟨g2, 0, none⟩ ∧ ca' = some ⟨g3, 0, none⟩ ∧ w4.heap.size + 2 ≤ g1 ∧ w4.heap.size + 2 ≤ g2 ∧ w4.heap.size + 2 ≤ g3 ∧ wT.heap.size ≠ g1 ∧ wT.heap.size ≠ g2 ∧ wT.heap.size ≠ g3 ∧ MAt (w4.heap.size + 2) wT.heap.size ln g1 g2 g3 W6 (wT.alloc (.cells #[.int .i64 q.n, .slice ta' ln tc', .slice na' ln nc', .slice ca' ln cc'] 25)) (.cells #[.int .i64 q.n, .slice ta' ln tc', .slice na' ln nc', .slice ca' ln cc'] 25 (0, 0))) := by
        refine hide fun h0 => ?_
        obtain ⟨g1, g2, g3, e1, e2, e3, b1, b2, b3, s1, s2, s3, o1, o2, o3⟩ := (unhide HT).1 h0
        have hsT := (unhide HbT).size
        rw [unhide Hs6] at hsT
        have hbA : Below wT.heap.size wT (wT.alloc (.cells #[.int .i64 q.n, .slice ta' ln tc', .slice na' ln nc', .slice ca' ln cc'] 25)) := (Below.refl _ _).alloc (Nat.le_refl _) _
        exact ⟨g1, g2, g3, e1, e2, e3, by omega, by omega, by omega, by omega, by omega, by omega, ⟨(unhide HbT).alloc hsT _, heap_alloc_new wT _, o1.below hbA s1, o2.below hbA s2, o3.below hbA s3⟩⟩
      have HB9 : Hid (Below (w4.heap.size + 2) W6 (wT.alloc (.cells #[.int .i64 q.n, .slice ta' ln tc', .slice na' ln nc', .slice ca' ln cc'] 25))) := hide (by
        have hsT := (unhide HbT).size
        rw [unhide Hs6] at hsT
        exact (unhide HbT).alloc hsT _)
      have HX9 := hide (box_new wT q.n (.slice ta' ln tc') (.slice na' ln nc') (.slice ca' ln cc') _ (Below.refl _ _))
      clear HT HbT HB8 hszr
      go_upto_region 10 with fail
      generalize wT.alloc (.cells #[.int .i64 q.n, .slice ta' ln tc', .slice na' ln nc', .slice ca' ln cc'] 25) = W8 at *
      have HSm : Hid (∀ w', Below (w4.heap.size + 2) W6 w' → Calls Try.prog 22 #[.agg #[.int .i64 q.n, .slice ta ln tc, .slice na ln nc, .slice ca ln cc], .agg #[.int .i64 q.n, .slice ta2 ln tc2, .slice na2 ln nc2, .slice ca2 ln cc2]] w' fun e w'' => e = .returned (.bool true) ∧ Below w'.heap.size w' w'') := by
        refine hide fun w' hb => ?_
        have hnx := unhide Hnl
        have hcp := unhide Hcl
        have htl := unhide Hln
        refine (same_any q q _ _ _ _ _ _ _ _ w' (unhide HBX w' hb).2.2.1 (unhide HBX w' hb).2.2.2.1 ⟨by omega, by omega, by omega⟩ ⟨by omega, by omega, by omega⟩).mono fun e w'' ⟨a1, a2⟩ => ⟨?_, a2⟩
        rw [a1, netEq_refl]
      have HIs : Hid (∀ w' v u, Ints w' v FL → Ints w' u FL → Calls Try.prog 18 #[v, u] w' fun e w'' => e = .returned (.bool true) ∧ Below w'.heap.size w' w'') := by
        refine hide fun w' v u h1 h2 => ?_
        have hl : FL.length ≤ 1000001 := by rw [unhide HFL]; omega
        refine (rInts_any _ _ v u w' h1 h2 hl hl).mono fun e w'' ⟨a1, a2⟩ => ⟨?_, a2⟩
        rw [a1, decide_eq_true rfl]
      have hKK : ((K : Int) == (K : Int)) = true := beq_self_eq_true _
      by_cases hz : ln = 0
      · subst hz
        obtain ⟨x0, x1, x2, x3, -⟩ := unhide HX9
        go_wp2_with fail
        go_loopg [11] 0 (fun g s11 wr => g = 0 ∧ s11 = .int .i64 0 ∧ wr = W8)
        case atStart => exact ⟨rfl, rfl, rfl⟩
        case round =>
          obtain ⟨-, rfl, hwr⟩ := hrel
          subst hwr
          have HbE := HB9
          clear HB9 HM8 HX9
          obtain ⟨y0, y1, y2, y3⟩ := (unhide HBX wr (unhide HbE)).1
          go_wp2_with fail
          go_at_call 16
          refine (unhide HF _ (unhide HbE)).mono ?_
          rintro e w20 ⟨gv, rfl, hg20, hl20⟩
          have Hb20 := hide (unhide HTR _ _ (unhide HbE) hl20)
          have HG20 := hide hg20.ints
          clear hg20 hl20 y0 y1 y2 y3
          obtain ⟨y0, y1, y2, y3⟩ := (unhide HBX w20 (unhide Hb20)).2.1
          go_wp2_with fail
          go_at_call 21
          refine (unhide HF2 _ (unhide Hb20)).mono ?_
          rintro e w21 ⟨hv, rfl, hg21, hl21⟩
          have Hb21 := hide (unhide HTR _ _ (unhide Hb20) hl21)
          have HG21 := hide (And.intro ((unhide HG20).below hl21) hg21.ints)
          clear hg21 hl21 y0 y1 y2 y3
          obtain ⟨y0, y1, y2, y3⟩ := (unhide HBX w21 (unhide Hb21)).2.1
          obtain ⟨z0, z1, z2, z3⟩ := (unhide HBX w21 (unhide Hb21)).1
          go_wp2_with fail
          go_at_call 22
          refine (unhide HSm _ (unhide Hb21)).mono ?_
          rintro e w22 ⟨rfl, hl22⟩
          have Hb22 := hide (unhide HTR _ _ (unhide Hb21) hl22)
          have HG22 := hide (And.intro ((unhide HG21).1.below hl22) ((unhide HG21).2.below hl22))
          clear hl22 y0 y1 y2 y3 z0 z1 z2 z3
          go_wp2_with fail
          go_at_call 18
          refine (unhide HIs _ _ _ (unhide HG22).1 (unhide HG22).2).mono ?_
          rintro e w23 ⟨rfl, hl23⟩
          have Hb23 := hide (unhide HTR _ _ (unhide Hb22) hl23)
          clear hl23
          go_wp2
          rw [unhide HP]
          exact ⟨by rfl, (unhide HBX _ (unhide Hb23)).2.2.2.2.1⟩
      · obtain ⟨g1, g2, g3, rfl, rfl, rfl, b1, b2, b3, s1, s2, s3, hM⟩ := unhide HM8 (by omega)
        have HM := hide hM
        clear hM HM8 HX9 HB9
        go_wp2_with fail
        go_loopg [11] ln (fun g s11 wr => ∃ i : Nat, i + g = ln ∧ s11 = .int .i64 (i : Int) ∧ Hid (MAt (w4.heap.size + 2) wT.heap.size ln g1 g2 g3 W6 wr (.cells #[.int .i64 q.n, .slice (some ⟨g1, 0, none⟩) ln tc', .slice (some ⟨g2, 0, none⟩) ln nc', .slice (some ⟨g3, 0, none⟩) ln cc'] 25 (0, 0))))
        case atStart => exact ⟨0, by omega, rfl, HM⟩
        case round =>
          obtain ⟨i, hig, rfl, HMr⟩ := hrel
          obtain ⟨x0, x1, x2, x3, -, -, -, -⟩ := obj_cells (unhide HMr).box
          cases gk with
          | zero =>
            have hie : i = ln := by omega
            rw [hie]
            have HbA := hide (unhide HMr).bel
            clear hie hig HM HMr
            have hzI : ¬ (ln : Int) = 0 := by omega
            have hgt : decide ((ln : Int) > 0) = true := decide_eq_true (by omega)
            have hgt2 : (0 : Int) < (ln : Int) := by omega
            have hd0 : 0 ≤ d % (ln : Int) := Int.emod_nonneg _ hzI
            have hd1 : d % (ln : Int) < ln := Int.emod_lt_of_pos _ (by omega)
            obtain ⟨y, hy⟩ : ∃ y : Nat, d % (ln : Int) = (y : Int) := ⟨(d % (ln : Int)).toNat, by omega⟩
            have hyl : y < ln := by omega
            have HWi := hide (fun w' => within2_any d ln w' (by omega) (by omega))
            rw [hy] at HWi
            clear hd0 hd1 hy
            have hyn : y < q.next.length := by rw [unhide Hnl]; exact hyl
            have hp1 := ((unhide HOK).pm.per hyn).1
            have hp2 := ((unhide HOK).pm.per hyn).2.1
            rw [unhide Hnl] at hp2
            have HAb : Hid (∀ w', Below (w4.heap.size + 2) W6 w' → Calls Try.prog 14 #[.agg #[.int .i64 q.n, .slice ta ln tc, .slice na ln nc, .slice ca ln cc], .int .i64 (y : Int)] w' fun e w'' => ∃ g o c, e = .returned (.slice (some ⟨g, o, none⟩) (Sp.per q.next y) c) ∧ Hid (w4.heap.size + 2 ≤ g ∧ Open' w'' g o (Sp.per q.next y)) ∧ Below w'.heap.size w' w'') := by
              refine hide fun w' hb => ?_
              refine (about_any q _ _ _ _ (y : Int) w' (unhide HBX w' hb).2.2.1 (unhide HWK)).mono ?_
              rw [Sp.roundOf_eq (unhide HOK).pm hyn]
              rintro e w'' ⟨rv, e1, e2, e3⟩
              obtain ⟨g, o, c, e4, e5, -, -, e6⟩ := mine_open e2 (by rw [Sp.rounds_len]; omega)
              rw [Sp.rounds_len] at e4 e6
              subst e4
              have := (unhide HBX w' hb).2.2.2.2.2
              exact ⟨g, o, c, e1, hide ⟨by omega, e6⟩, e3⟩
            generalize Sp.per q.next y = p at *
            obtain ⟨y0, y1, y2, y3⟩ := (unhide HBX wr (unhide HbA)).1
            have hbA := unhide HbA
            have hbAd := hbA.drew
            clear hyn
            go_upto_region 15 with fail
            clear y0 y1 y2 y3 x0 x1 x2 x3
            go_cut [12] (fun s12 wx => ∃ g o c, s12 = .slice (some ⟨g, o, none⟩) p c ∧ Hid (w4.heap.size + 2 ≤ g ∧ Open' wx g o p ∧ Below (w4.heap.size + 2) W6 wx))
            case first =>
              go_region_held3 (fun w' => w'.cell? ⟨w4.heap.size, 0, none⟩ = some (.int .i64 q.n) ∧ w'.cell? ⟨w4.heap.size, 1, none⟩ = some (.slice ta ln tc) ∧ w'.cell? ⟨w4.heap.size, 2, none⟩ = some (.slice na ln nc) ∧ w'.cell? ⟨w4.heap.size, 3, none⟩ = some (.slice ca ln cc))
                (exact (unhide HBX _ (by assumption)).1)
                (first
                  | (go_at_call 14
                     refine (unhide HAb _ (by assumption)).mono ?_
                     rintro e w16 ⟨g, o, c, rfl, HO16, hl16⟩
                     have hb16 := unhide HTR _ _ (by assumption) hl16)
                  | (go_at_call 10
                     refine (unhide HWi _).mono ?_
                     rintro e w15 ⟨rfl, rfl⟩))
              all_goals
                go_wp2
                go_meet
                exact ⟨_, _, _, rfl, hide ⟨(unhide HO16).1, (unhide HO16).2, hb16⟩⟩
            case rest =>
              obtain ⟨wP, rfl⟩ : ∃ wP, wP = wc := ⟨_, rfl⟩
              obtain ⟨g, o, c5, rfl, HO⟩ := hcut
              have hgX := (unhide HO).1
              have HO3 := hide (unhide HO).2
              clear HO hbA hbAd HbA HAb HWi
              go_wp2_with fail
              go_loopg [13] p (fun g4 s13 wr => ∃ i : Nat, i + g4 = p ∧ s13 = .int .i64 (i : Int) ∧ Hid (Open' wr g o p ∧ Below (w4.heap.size + 2) W6 wr))
              case atStart => exact ⟨0, by omega, rfl, HO3⟩
              case round =>
                obtain ⟨i, hig, rfl, HOr⟩ := hrel
                cases gk with
                | succ g' =>
                  have hip : i < p := by omega
                  have hiI : (i : Int) < (p : Int) := by omega
                  obtain ⟨vi, ci, fi⟩ := (unhide HOr).1 i hip
                  have HO2 : Hid (∀ v, Open' (wr.setCell ⟨g, o + i, none⟩ v) g o p ∧ Below (w4.heap.size + 2) W6 (wr.setCell ⟨g, o + i, none⟩ v)) := hide fun v => ⟨(unhide HOr).1.set _ _, (unhide HOr).2.setCell (by exact hgX) v⟩
                  clear HOr HO3
                  go_wp2
                  go_roundg g'
                  case rel => exact ⟨i + 1, by omega, by go_num, hide (unhide HO2 _)⟩
                  case measure => omega
                | zero =>
                  have hie : i = p := by omega
                  rw [hie]
                  have HbE := hide (unhide HOr).2
                  clear hie hig HOr HO3
                  obtain ⟨y0, y1, y2, y3⟩ := (unhide HBX wr (unhide HbE)).1
                  go_wp2_with fail
                  go_at_call 16
                  refine (unhide HF _ (unhide HbE)).mono ?_
                  rintro e w20 ⟨gv, rfl, hg20, hl20⟩
                  have Hb20 := hide (unhide HTR _ _ (unhide HbE) hl20)
                  have HG20 := hide hg20.ints
                  clear hg20 hl20 y0 y1 y2 y3
                  obtain ⟨y0, y1, y2, y3⟩ := (unhide HBX w20 (unhide Hb20)).2.1
                  go_wp2_with fail
                  go_at_call 21
                  refine (unhide HF2 _ (unhide Hb20)).mono ?_
                  rintro e w21 ⟨hv, rfl, hg21, hl21⟩
                  have Hb21 := hide (unhide HTR _ _ (unhide Hb20) hl21)
                  have HG21 := hide (And.intro ((unhide HG20).below hl21) hg21.ints)
                  clear hg21 hl21 y0 y1 y2 y3
                  obtain ⟨y0, y1, y2, y3⟩ := (unhide HBX w21 (unhide Hb21)).2.1
                  obtain ⟨z0, z1, z2, z3⟩ := (unhide HBX w21 (unhide Hb21)).1
                  go_wp2_with fail
                  go_at_call 22
                  refine (unhide HSm _ (unhide Hb21)).mono ?_
                  rintro e w22 ⟨rfl, hl22⟩
                  have Hb22 := hide (unhide HTR _ _ (unhide Hb21) hl22)
                  have HG22 := hide (And.intro ((unhide HG21).1.below hl22) ((unhide HG21).2.below hl22))
                  clear hl22 y0 y1 y2 y3 z0 z1 z2 z3
                  go_wp2_with fail
                  go_at_call 18
                  refine (unhide HIs _ _ _ (unhide HG22).1 (unhide HG22).2).mono ?_
                  rintro e w23 ⟨rfl, hl23⟩
                  have Hb23 := hide (unhide HTR _ _ (unhide Hb22) hl23)
                  clear hl23
                  go_wp2
                  rw [unhide HP]
                  exact ⟨by rfl, (unhide HBX _ (unhide Hb23)).2.2.2.2.1⟩
          | succ g' =>
            have hil : i < ln := by omega
            have hiI : (i : Int) < (ln : Int) := by omega
            obtain ⟨v1, c1, f1⟩ := (unhide HMr).o1 i hil
            obtain ⟨v2, c2, f2⟩ := (unhide HMr).o2 i hil
            obtain ⟨v3, c3, f3⟩ := (unhide HMr).o3 i hil
            rw [Nat.zero_add] at c1 f1 c2 f2 c3 f3
            have HMs := hide (fun u v x => (unhide HMr).sets b1 b2 b3 s1 s2 s3 i u v x)
            clear HM HMr
            by_cases h12 : g1 = g2
            · subst h12
              by_cases h13 : g1 = g3
              · subst h13
                go_wp2
                go_region
                all_goals
                  go_wp2
                  go_roundg g'
                  case rel => exact ⟨i + 1, by omega, by go_num, hide (by first | exact (unhide HMs _ _ _).drew | exact unhide HMs _ _ _)⟩
                  case measure => omega
              · have h31 : g3 ≠ g1 := fun e => h13 e.symm
                go_wp2
                go_region
                all_goals
                  go_wp2
                  go_roundg g'
                  case rel => exact ⟨i + 1, by omega, by go_num, hide (by first | exact (unhide HMs _ _ _).drew | exact unhide HMs _ _ _)⟩
                  case measure => omega
            · by_cases h13 : g1 = g3
              · subst h13
                have h21 : g2 ≠ g1 := fun e => h12 e.symm
                go_wp2
                go_region
                all_goals
                  go_wp2
                  go_roundg g'
                  case rel => exact ⟨i + 1, by omega, by go_num, hide (by first | exact (unhide HMs _ _ _).drew | exact unhide HMs _ _ _)⟩
                  case measure => omega
              · by_cases h23 : g2 = g3
                · subst h23
                  have h21 : g2 ≠ g1 := fun e => h12 e.symm
                  go_wp2
                  go_region
                  all_goals
                    go_wp2
                    go_roundg g'
                    case rel => exact ⟨i + 1, by omega, by go_num, hide (by first | exact (unhide HMs _ _ _).drew | exact unhide HMs _ _ _)⟩
                    case measure => omega
                · have h21 : g2 ≠ g1 := fun e => h12 e.symm
                  have h31 : g3 ≠ g1 := fun e => h13 e.symm
                  have h32 : g3 ≠ g2 := fun e => h23 e.symm
                  go_wp2
                  go_region
                  all_goals
                    go_wp2
                    go_roundg g'
                    case rel => exact ⟨i + 1, by omega, by go_num, hide (by first | exact (unhide HMs _ _ _).drew | exact unhide HMs _ _ _)⟩
                    case measure => omega
end Go.Proofs.Ytnkkgeammohemab


