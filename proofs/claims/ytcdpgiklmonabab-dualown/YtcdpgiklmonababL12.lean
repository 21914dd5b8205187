/- What the proof needs, part 12. -/
import Derived.Test.YtcdpgiklmonababL11
/- The law DualOwn, walked. -/
namespace Go.Proofs.Ytcdpgiklmonabab
open Go Go.RowKit

theorem MAt.sets2 {X bm ln g1 g2 g3 : Nat} {W6 wr : World} {o : Obj} (h : MAt X bm ln g1 g2 g3 W6 wr o) (b1 : X ≤ g1) (b2 : X ≤ g2) (b3 : X ≤ g3) (s1 : bm ≠ g1) (s2 : bm ≠ g2) (s3 : bm ≠ g3) (i : Nat) (u v x : Value) :
    MAt X bm ln g1 g2 g3 W6 (((wr.setCell ⟨g1, i, none⟩ u).setCell ⟨g2, i, none⟩ v).setCell ⟨g3, i, none⟩ x) o := by
  refine ⟨((h.bel.setCell (by exact b1) _).setCell (by exact b2) _).setCell (by exact b3) _, ?_, ((h.o1.set _ _).set _ _).set _ _, ((h.o2.set _ _).set _ _).set _ _, ((h.o3.set _ _).set _ _).set _ _⟩
  rw [heap_setCell_other _ _ _ _ s3, heap_setCell_other _ _ _ _ s2, heap_setCell_other _ _ _ _ s1]
  exact h.box
set_option maxRecDepth 100000 in
set_option maxHeartbeats 4000000 in
theorem dualOwn_any (ns : List Int) (x : Value) (s t : Int) (w : World) (hx : Ints w x ns) :
    Calls Try.prog 8 #[x, .int .i64 s, .int .i64 t] w fun e w' => e = .returned (.bool true) ∧ Below w.heap.size w w' := by
  obtain ⟨a, c, rfl, hc, hm⟩ := hx.form
  have HPL := hide (fun w' (hb : Below w.heap.size w w') => plane_any ns (.slice a ns.length c) w' (hx.below hb))
  have HOK := hide (Sp.plane_ok ns)
  have HLQ := hide (Sp.linkQ_plane ns)
  have HCk := hide (Sp.check_plane ns)
  generalize Sp.plane ns = q at *
  generalize ns.length = n at *
  clear hx
  have hl48 : q.tail.length ≤ 48 := (unhide HOK).le
  obtain ⟨ln, hln⟩ : ∃ ln, q.tail.length = ln := ⟨_, rfl⟩
  rw [hln] at hl48
  have hnl : q.next.length = ln := by rw [(unhide HOK).nx, hln]
  have hcl : q.cap.length = ln := by rw [(unhide HOK).cp, hln]
  have hn0 : 1 ≤ q.n := (unhide HOK).n0
  have hn1 : q.n ≤ 100 := by have := (unhide HOK).n1; omega
  obtain ⟨P, hP⟩ : ∃ P : Ending → World → Prop, P = fun e w' => e = .returned (.bool true) ∧ Below w.heap.size w w' := ⟨_, rfl⟩
  rw [← hP]
  have HP := hide hP
  clear hP
  have Hln := hide hln
  have Hnl := hide hnl
  have Hcl := hide hcl
  clear hln hnl hcl
  go_enter Try.func8, Try.ntmps8
  go_wp2_with fail
  go_at_call 9
  refine (known3_any w).mono ?_
  rintro e w2 ⟨rfl, hb2⟩
  have Hb2 := hide hb2
  clear hb2
  go_wp2_with fail
  go_at_call 10
  refine (unhide HPL _ (unhide Hb2)).mono ?_
  rintro e w3 ⟨v, tv, nv, cv, rfl, hnv, hb3⟩
  have hval := hnv.val
  subst hval
  have Hb3 := hide ((unhide Hb2).trans (hb3.mono (unhide Hb2).size))
  obtain ⟨ta, tc, htv, -, -⟩ := hnv.netI.tail.form
  obtain ⟨na, nc, hnv', -, -⟩ := hnv.netI.next.form
  obtain ⟨ca, cc, hcv, -, -⟩ := hnv.netI.cap.form
  rw [unhide Hln] at htv
  rw [unhide Hnl] at hnv'
  rw [unhide Hcl] at hcv
  subst htv hnv' hcv
  have HN3 := hide hnv.netI
  clear hnv hb3 Hb2
  go_wp2_with fail
  go_at_call 10
  refine (unhide HPL _ (unhide Hb3)).mono ?_
  clear HPL
  rintro e w4 ⟨v, tv, nv, cv, rfl, hnv, hb4⟩
  have hval := hnv.val
  subst hval
  obtain ⟨ta2, tc2, htv, -, -⟩ := hnv.netI.tail.form
  obtain ⟨na2, nc2, hnv', -, -⟩ := hnv.netI.next.form
  obtain ⟨ca2, cc2, hcv, -, -⟩ := hnv.netI.cap.form
  rw [unhide Hln] at htv
  rw [unhide Hnl] at hnv'
  rw [unhide Hcl] at hcv
  subst htv hnv' hcv
  obtain ⟨W6, hW6⟩ : ∃ W6, W6 = (w4.alloc (.cells #[.int .i64 q.n, .slice ta ln tc, .slice na ln nc, .slice ca ln cc] 25)).alloc (.cells #[.int .i64 q.n, .slice ta2 ln tc2, .slice na2 ln nc2, .slice ca2 ln cc2] 25) := ⟨_, rfl⟩
  obtain ⟨hBX, hs6, hTR⟩ := boxes2 ((unhide Hb3).trans (hb4.mono (unhide Hb3).size)) (⟨rfl, (unhide HN3).tail.below hb4, (unhide HN3).next.below hb4, (unhide HN3).cap.below hb4⟩ : NetI w4 (.agg #[.int .i64 q.n, .slice ta ln tc, .slice na ln nc, .slice ca ln cc]) q (.slice ta ln tc) (.slice na ln nc) (.slice ca ln cc)) hnv.netI W6 hW6
  have HBX := hide hBX
  have HTR := hide hTR
  have Hs6 := hide hs6
  have HW6 := hide hW6
  clear hnv hb4 Hb3 HN3 hBX hTR hs6 hW6
  have hb6 : Below (w4.heap.size + 2) W6 W6 := Below.refl _ _
  have HWK := hide ((unhide HOK).walk (by omega))
  have HMk := hide (fun w' (hb : Below (w4.heap.size + 2) W6 w') => dmake_any q _ _ _ _ w' (unhide HBX w' hb).2.2.1 (unhide HLQ))
  have HMr := hide (fun w' (hb : Below (w4.heap.size + 2) W6 w') => dmake2_any q _ _ _ _ w' (unhide HBX w' hb).2.2.2.1 (unhide HLQ))
  have HDl : Hid ((Sp.dual q).tail.length = ln ∧ (Sp.dual q).next.length = ln ∧ (Sp.dual q).cap.length = ln) := hide ⟨by show (Sp.faces2 q).1.length = ln; rw [Sp.faces2_len, unhide Hln], by show (Sp.behindL q.next).length = ln; rw [Sp.behindL_len, unhide Hnl], unhide Hcl⟩
  have HSm : Hid (∀ w', Below (w4.heap.size + 2) W6 w' → Calls Try.prog 20 #[.agg #[.int .i64 q.n, .slice ta ln tc, .slice na ln nc, .slice ca ln cc], .agg #[.int .i64 q.n, .slice ta2 ln tc2, .slice na2 ln nc2, .slice ca2 ln cc2]] w' fun e w'' => e = .returned (.bool true) ∧ Below w'.heap.size w' w'') := by
    refine hide fun w' hb => ?_
    have hnx := unhide Hnl
    have hcp := unhide Hcl
    have htl := unhide Hln
    refine (same_any q q _ _ _ _ _ _ _ _ w' (unhide HBX w' hb).2.2.1 (unhide HBX w' hb).2.2.2.1 ⟨by omega, by omega, by omega⟩ ⟨by omega, by omega, by omega⟩).mono fun e w'' ⟨a1, a2⟩ => ⟨?_, a2⟩
    rw [a1, netEq_refl]
  have HSd : Hid (∀ w' u v tu nu cu tv nv cv, NetI w' u (Sp.dual q) tu nu cu → NetI w' v (Sp.dual q) tv nv cv → Calls Try.prog 20 #[u, v] w' fun e w'' => e = .returned (.bool true) ∧ Below w'.heap.size w' w'') := by
    refine hide fun w' u v tu nu cu tv nv cv hu hv => ?_
    obtain ⟨l1, l2, l3⟩ := unhide HDl
    refine (same_any _ _ u v tu nu cu tv nv cv w' hu hv ⟨by omega, by omega, by omega⟩ ⟨by omega, by omega, by omega⟩).mono fun e w'' ⟨a1, a2⟩ => ⟨?_, a2⟩
    rw [a1, netEq_refl]
  have HWs := hide (fun w' => within3_any s q.n w' (by omega) (by omega))
  have HWt := hide (fun w' => within3_any t q.n w' (by omega) (by omega))
  have HSp : Hid (∀ s t : Int, ∃ m : Nat, ∃ (b1 : Bool) (k1 k2 k3 : Int), ∀ w', Below (w4.heap.size + 2) W6 w' → Calls Try.prog 12 #[.agg #[.int .i64 q.n, .slice ta ln tc, .slice na ln nc, .slice ca ln cc], .int .i64 s, .int .i64 t] w' fun e w'' => ∃ oa oc, e = .returned (.tuple #[.slice oa m oc, .int .i64 k1, .int .i64 k2, .int .i64 k3, .bool b1]) ∧ Hid (0 < m → ∃ g, oa = some ⟨g, 0, none⟩ ∧ w4.heap.size + 2 ≤ g ∧ Open' w'' g 0 m) ∧ Below w'.heap.size w' w'' ∧ m ≤ 48) := hide fun s t => by
    cases hsh : (Sp.shared q s t).2 with
    | false =>
      refine ⟨0, false, 0, 0, 0, fun w' hb => ?_⟩
      exact (splitNone_any q _ _ _ _ s t w' (unhide HBX w' hb).2.2.1 (unhide HLQ) (unhide HCk) (by omega) (by omega) hsh).mono fun e w'' ⟨a1, a2⟩ => ⟨none, 0, a1, hide fun h => by omega, a2, by omega⟩
    | true =>
      obtain ⟨f, d0, a, jb, hs⟩ := Sp.splitQ_of (unhide HLQ) hsh
      refine ⟨q.tail.length, true, ((max (Sp.faces2 q).2 1 : Nat) : Int) + 1, (f : Int), ((max (Sp.faces2 q).2 1 : Nat) : Int), fun w' hb => ?_⟩
      refine (dsplit_any q _ _ _ _ s t f d0 a jb w' (unhide HBX w' hb).2.2.1 (unhide HLQ) (unhide HWK) (unhide HCk) (by omega) (by omega) hs).mono fun e w'' ⟨O, a1, a2, a3⟩ => ⟨_, _, a1, hide fun h => ⟨O, rfl, ?_, ?_⟩, a3, by rw [unhide Hln]; exact hl48⟩
      · have h1 := (a2.lt O rfl).1
        have h2 := (unhide HBX w' hb).2.2.2.2.2
        omega
      · have h := own_open a2
        have hl : (Sp.splitL q f d0 a jb).length = q.tail.length := by unfold Sp.splitL; rw [Sp.splitAt_len, Sp.faces2_len]
        rw [hl] at h
        exact h
  obtain ⟨m, b1, k1, k2, k3, hsp⟩ := unhide HSp (s % q.n) (t % q.n)
  have HSp1 := hide hsp
  clear hsp HSp
  generalize s % q.n = s1 at *
  generalize t % q.n = t1 at *
  generalize hDq : Sp.dual q = D at *
  clear hDq
  obtain ⟨x0, x1, x2, x3⟩ := (unhide HBX W6 hb6).1
  go_upto_region 4 with fail
  rw [← unhide HW6]
  go_wp2_with fail
  go_at_call 15
  refine (unhide HMk W6 hb6).mono ?_
  clear x0 x1 x2 x3
  rintro e w7 ⟨v2, dv, ev, gv, rfl, hd7, hl7⟩
  have hval := hd7.val
  subst hval
  have hb7 := unhide HTR _ _ hb6 hl7
  obtain ⟨da, dc, hdv, -, -⟩ := hd7.netI.tail.form
  obtain ⟨ea, ec, hev, -, -⟩ := hd7.netI.next.form
  obtain ⟨ga, gc, hgv, -, -⟩ := hd7.netI.cap.form
  rw [(unhide HDl).1] at hdv
  rw [(unhide HDl).2.1] at hev
  rw [(unhide HDl).2.2] at hgv
  subst hdv hev hgv
  have hs7 : w4.heap.size + 2 ≤ w7.heap.size := (unhide HBX w7 hb7).2.2.2.2.2
  have hMA : 0 < ln → ∃ g1 g2 g3, da = some ⟨g1, 0, none⟩ ∧ ea = some ⟨g2, 0, none⟩ ∧ ga = some ⟨g3, 0, none⟩ ∧ w4.heap.size + 2 ≤ g1 ∧ w4.heap.size + 2 ≤ g2 ∧ w4.heap.size + 2 ≤ g3 ∧ w7.heap.size ≠ g1 ∧ w7.heap.size ≠ g2 ∧ w7.heap.size ≠ g3 ∧ g1 ≠ g2 ∧ g1 ≠ g3 ∧ g2 ≠ g3 ∧ MAt (w4.heap.size + 2) w7.heap.size ln g1 g2 g3 W6 (w7.alloc (.cells #[.int .i64 D.n, .slice da ln dc, .slice ea ln ec, .slice ga ln gc] 25)) (.cells #[.int .i64 D.n, .slice da ln dc, .slice ea ln ec, .slice ga ln gc] 25 (0, 0)) := by
    intro h0
    obtain ⟨l1, l2, l3⟩ := unhide HDl
    obtain ⟨g1, c1, f1, b1, s1, -, -⟩ := own_form hd7.tail (by rw [l1]; exact h0)
    obtain ⟨g2, c2, f2, b2, s2, -, -⟩ := own_form hd7.next (by rw [l2]; exact h0)
    obtain ⟨g3, c3, f3, b3, s3, -, -⟩ := own_form hd7.cap (by rw [l3]; exact h0)
    injection f1 with f1
    injection f2 with f2
    injection f3 with f3
    subst f1 f2 f3
    have o1 := own_open hd7.tail
    have o2 := own_open hd7.next
    have o3 := own_open hd7.cap
    rw [l1] at o1
    rw [l2] at o2
    rw [l3] at o3
    have h6 := unhide Hs6
    have hbA : Below w7.heap.size w7 (w7.alloc (.cells #[.int .i64 D.n, .slice (some ⟨g1, 0, none⟩) ln dc, .slice (some ⟨g2, 0, none⟩) ln ec, .slice (some ⟨g3, 0, none⟩) ln gc] 25)) := (Below.refl _ _).alloc (Nat.le_refl _) _
    have n12 : g1 ≠ g2 := by
      intro e
      rcases hd7.tn with h | h
      · cases h
      · exact h (by rw [e]; rfl)
    have n13 : g1 ≠ g3 := by
      intro e
      rcases hd7.tc with h | h
      · cases h
      · exact h (by rw [e]; rfl)
    have n23 : g2 ≠ g3 := by
      intro e
      rcases hd7.nc with h | h
      · cases h
      · exact h (by rw [e]; rfl)
    exact ⟨g1, g2, g3, rfl, rfl, rfl, by omega, by omega, by omega, by omega, by omega, by omega, n12, n13, n23, ⟨hb7.alloc hs7 _, heap_alloc_new w7 _, o1.below hbA s1, o2.below hbA s2, o3.below hbA s3⟩⟩
  have HMA : Hid (0 < ln → ∃ g1 g2 g3, da = some ⟨g1, 0, none⟩ ∧ ea = some ⟨g2, 0, none⟩ ∧ ga = some ⟨g3, 0, none⟩ ∧ w4.heap.size + 2 ≤ g1 ∧ w4.heap.size + 2 ≤ g2 ∧ w4.heap.size + 2 ≤ g3 ∧ w7.heap.size ≠ g1 ∧ w7.heap.size ≠ g2 ∧ w7.heap.size ≠ g3 ∧ g1 ≠ g2 ∧ g1 ≠ g3 ∧ g2 ≠ g3) := hide fun h0 => by
    obtain ⟨g1, g2, g3, e1, e2, e3, b1, b2, b3, s1, s2, s3, n1, n2, n3, -⟩ := hMA h0
    exact ⟨g1, g2, g3, e1, e2, e3, b1, b2, b3, s1, s2, s3, n1, n2, n3⟩
  have HR0 : Hid (Below (w4.heap.size + 2) W6 (w7.alloc (.cells #[.int .i64 D.n, .slice da ln dc, .slice ea ln ec, .slice ga ln gc] 25)) ∧ (w7.alloc (.cells #[.int .i64 D.n, .slice da ln dc, .slice ea ln ec, .slice ga ln gc] 25)).heap[w7.heap.size]? = some (.cells #[.int .i64 D.n, .slice da ln dc, .slice ea ln ec, .slice ga ln gc] 25 (0, 0)) ∧ ∀ g1 g2 g3, da = some ⟨g1, 0, none⟩ → ea = some ⟨g2, 0, none⟩ → ga = some ⟨g3, 0, none⟩ → 0 < ln → MAt (w4.heap.size + 2) w7.heap.size ln g1 g2 g3 W6 (w7.alloc (.cells #[.int .i64 D.n, .slice da ln dc, .slice ea ln ec, .slice ga ln gc] 25)) (.cells #[.int .i64 D.n, .slice da ln dc, .slice ea ln ec, .slice ga ln gc] 25 (0, 0))) := hide ⟨hb7.alloc hs7 _, heap_alloc_new w7 _, fun g1 g2 g3 e1 e2 e3 h0 => by
    obtain ⟨h1, h2, h3, f1, f2, f3, -, -, -, -, -, -, -, -, -, hM⟩ := hMA h0
    rw [e1] at f1
    rw [e2] at f2
    rw [e3] at f3
    injection f1 with f1
    injection f1 with f1 _
    injection f2 with f2
    injection f2 with f2 _
    injection f3 with f3
    injection f3 with f3 _
    subst f1 f2 f3
    exact hM⟩
  clear hd7 hl7 hb7 hb6 hs7 hMA
  obtain ⟨y0, y1, y2, y3, -⟩ := obj_cells (unhide HR0).2.1
  go_wp2
  clear y0 y1 y2 y3
  generalize w7.alloc (.cells #[.int .i64 D.n, .slice da ln dc, .slice ea ln ec, .slice ga ln gc] 25) = W8 at *
  go_loopg [10] ln (fun g s10 wr => ∃ i : Nat, i + g = ln ∧ s10 = .int .i64 (i : Int) ∧ Hid (Below (w4.heap.size + 2) W6 wr ∧ wr.heap[w7.heap.size]? = some (.cells #[.int .i64 D.n, .slice da ln dc, .slice ea ln ec, .slice ga ln gc] 25 (0, 0)) ∧ ∀ g1 g2 g3, da = some ⟨g1, 0, none⟩ → ea = some ⟨g2, 0, none⟩ → ga = some ⟨g3, 0, none⟩ → 0 < ln → MAt (w4.heap.size + 2) w7.heap.size ln g1 g2 g3 W6 wr (.cells #[.int .i64 D.n, .slice da ln dc, .slice ea ln ec, .slice ga ln gc] 25 (0, 0))))
  case atStart => exact ⟨0, by omega, rfl, HR0⟩
  case round =>
    clear HR0
    obtain ⟨i, hig, rfl, HMq⟩ := hrel
    obtain ⟨x0, x1, x2, x3, -, -, -, -⟩ := obj_cells (unhide HMq).2.1
    cases gk with
    | succ g' =>
      have hil : i < ln := by omega
      have hiI : (i : Int) < (ln : Int) := by omega
      obtain ⟨g1, g2, g3, rfl, rfl, rfl, b1', b2', b3', s1', s2', s3', n12, n13, n23⟩ := unhide HMA (by omega)
      have hMc := (unhide HMq).2.2 g1 g2 g3 rfl rfl rfl (by omega)
      have n21 := n12.symm
      have n31 := n13.symm
      have n32 := n23.symm
      obtain ⟨v1, c1, f1⟩ := hMc.o1 i hil
      obtain ⟨v2, c2, f2⟩ := hMc.o2 i hil
      obtain ⟨v3, c3, f3⟩ := hMc.o3 i hil
      rw [Nat.zero_add] at c1 f1 c2 f2 c3 f3
      have HMs : Hid (∀ u v x, MAt (w4.heap.size + 2) w7.heap.size ln g1 g2 g3 W6 (((wr.setCell ⟨g1, i, none⟩ u).setCell ⟨g2, i, none⟩ v).setCell ⟨g3, i, none⟩ x) (.cells #[.int .i64 D.n, .slice (some ⟨g1, 0, none⟩) ln dc, .slice (some ⟨g2, 0, none⟩) ln ec, .slice (some ⟨g3, 0, none⟩) ln gc] 25 (0, 0))) := hide (fun u v x => hMc.sets2 b1' b2' b3' s1' s2' s3' i u v x)
      have HMf : Hid (∀ wz, MAt (w4.heap.size + 2) w7.heap.size ln g1 g2 g3 W6 wz (.cells #[.int .i64 D.n, .slice (some ⟨g1, 0, none⟩) ln dc, .slice (some ⟨g2, 0, none⟩) ln ec, .slice (some ⟨g3, 0, none⟩) ln gc] 25 (0, 0)) → Hid (Below (w4.heap.size + 2) W6 wz ∧ wz.heap[w7.heap.size]? = some (.cells #[.int .i64 D.n, .slice (some ⟨g1, 0, none⟩) ln dc, .slice (some ⟨g2, 0, none⟩) ln ec, .slice (some ⟨g3, 0, none⟩) ln gc] 25 (0, 0)) ∧ ∀ h1 h2 h3, (some ⟨g1, 0, none⟩ : Option Addr) = some ⟨h1, 0, none⟩ → (some ⟨g2, 0, none⟩ : Option Addr) = some ⟨h2, 0, none⟩ → (some ⟨g3, 0, none⟩ : Option Addr) = some ⟨h3, 0, none⟩ → 0 < ln → MAt (w4.heap.size + 2) w7.heap.size ln h1 h2 h3 W6 wz (.cells #[.int .i64 D.n, .slice (some ⟨g1, 0, none⟩) ln dc, .slice (some ⟨g2, 0, none⟩) ln ec, .slice (some ⟨g3, 0, none⟩) ln gc] 25 (0, 0)))) := hide fun wz h => hide ⟨h.bel, h.box, fun h1 h2 h3 e1 e2 e3 _ => by
        injection e1 with e1
        injection e1 with e1 _
        injection e2 with e2
        injection e2 with e2 _
        injection e3 with e3
        injection e3 with e3 _
        subst e1 e2 e3
        exact h⟩
      clear HMq hMc HMA
      go_wp2
      go_region
      all_goals
        go_wp2
        go_roundg g'
        case rel => exact ⟨i + 1, by omega, by go_num, unhide HMf _ (by first | exact (unhide HMs _ _ _).drew | exact unhide HMs _ _ _)⟩
        case measure => omega
    | zero =>
    have hie : i = ln := by omega
    rw [hie]
    clear hie hig
    have hb8 := (unhide HMq).1
    clear HMq HMA
    go_upto_region 9 with fail
    go_cut [11] (fun s11 wx => ∃ oa oc, s11 = .slice oa m oc ∧ Hid ((0 < m → ∃ g, oa = some ⟨g, 0, none⟩ ∧ w4.heap.size + 2 ≤ g ∧ Open' wx g 0 m) ∧ Below (w4.heap.size + 2) W6 wx ∧ m ≤ 48))
    case first =>
      have hbr := hb8.drew
      refine wp_region_G (fun w' => w'.cell? ⟨w4.heap.size, 0, none⟩ = some (.int .i64 q.n) ∧ w'.cell? ⟨w4.heap.size, 1, none⟩ = some (.slice ta ln tc) ∧ w'.cell? ⟨w4.heap.size, 2, none⟩ = some (.slice na ln nc) ∧ w'.cell? ⟨w4.heap.size, 3, none⟩ = some (.slice ca ln cc)) (fun _ => false) (by kernel_rfl) (unhide HBX _ hbr).1 (fun hHeld => ?_)
      generalize wr.drew = wq at *
      refine wpAnyG_take (v := ?_) 0 (by rfl) (by kernel_rfl) (by kernel_rfl) (by kernel_rfl) (by kernel_rfl) (fun _ _ _ h => h) (Or.inl ⟨by rfl, ?_⟩) (by assumption) ?_
      rotate_left
      · (intro w' hSw; (try dsimp only at hSw); (try simp only [List.getElem_toArray, List.getElem_cons_zero]); go_simp; try (with_reducible rfl))
      simp only [Act.put, List.getElem_toArray, List.getElem_cons_zero, List.setIfInBounds_toArray, List.set_cons_zero, List.set_cons_succ]
      refine wpAnyG_take (v := ?_) 1 (by rfl) (by kernel_rfl) (by kernel_rfl) (by kernel_rfl) (by kernel_rfl) (fun _ _ _ h => h) (Or.inl ⟨by rfl, ?_⟩) (by assumption) ?_
      rotate_left
      · (intro w' hSw; (try dsimp only at hSw); (try simp only [List.getElem_toArray, List.getElem_cons_succ, List.getElem_cons_zero]); go_simp; try (with_reducible rfl))
      simp only [Act.put, List.getElem_toArray, List.getElem_cons_succ, List.getElem_cons_zero, List.setIfInBounds_toArray, List.set_cons_zero, List.set_cons_succ]
      refine wpAnyG_take (v := ?_) 2 (by rfl) (by kernel_rfl) (by kernel_rfl) (by kernel_rfl) (by kernel_rfl) (fun _ _ _ h => h) (Or.inl ⟨by rfl, ?_⟩) (by assumption) ?_
      rotate_left
      · (intro w' hSw; (try dsimp only at hSw); (try simp only [List.getElem_toArray, List.getElem_cons_succ, List.getElem_cons_zero]); go_simp; try (with_reducible rfl))
      simp only [Act.put, List.getElem_toArray, List.getElem_cons_succ, List.getElem_cons_zero, List.setIfInBounds_toArray, List.set_cons_zero, List.set_cons_succ]
      refine wpAnyG_take (v := ?_) 3 (by rfl) (by kernel_rfl) (by kernel_rfl) (by kernel_rfl) (by kernel_rfl) (fun _ _ _ h => h) (Or.inl ⟨by rfl, ?_⟩) (by assumption) ?_
      rotate_left
      · (intro w' hSw; (try dsimp only at hSw); (try simp only [List.getElem_toArray, List.getElem_cons_succ, List.getElem_cons_zero]); go_simp; try (with_reducible rfl))
      simp only [Act.put, List.getElem_toArray, List.getElem_cons_succ, List.getElem_cons_zero, List.setIfInBounds_toArray, List.set_cons_zero, List.set_cons_succ]
      refine wpAnyG_take (v := ?_) 5 (by rfl) (by kernel_rfl) (by kernel_rfl) (by kernel_rfl) (by kernel_rfl) (fun _ _ _ h => h) (Or.inl ⟨by rfl, ?_⟩) (by assumption) ?_
      rotate_left
      · (intro w' hSw; (try dsimp only at hSw); (try simp only [List.getElem_toArray, List.getElem_cons_succ, List.getElem_cons_zero]); go_simp; try (with_reducible rfl))
      simp only [Act.put, List.getElem_toArray, List.getElem_cons_succ, List.getElem_cons_zero, List.setIfInBounds_toArray, List.set_cons_zero, List.set_cons_succ]
      refine wpAnyG_take (v := ?_) 6 (by rfl) (by kernel_rfl) (by kernel_rfl) (by kernel_rfl) (by kernel_rfl) (fun _ _ _ h => h) (Or.inl ⟨by rfl, ?_⟩) (by assumption) ?_
      rotate_left
      · (intro w' hSw; (try dsimp only at hSw); (try simp only [List.getElem_toArray, List.getElem_cons_succ, List.getElem_cons_zero]); go_simp; try (with_reducible rfl))
      simp only [Act.put, List.getElem_toArray, List.getElem_cons_succ, List.getElem_cons_zero, List.setIfInBounds_toArray, List.set_cons_zero, List.set_cons_succ]
      refine wpAnyG_take (v := ?_) 7 (by rfl) (by kernel_rfl) (by kernel_rfl) (by kernel_rfl) (by kernel_rfl) (fun _ _ _ h => h) (Or.inl ⟨by rfl, ?_⟩) (by assumption) ?_
      rotate_left
      · (intro w' hSw; (try dsimp only at hSw); (try simp only [List.getElem_toArray, List.getElem_cons_succ, List.getElem_cons_zero]); go_simp; try (with_reducible rfl))
      simp only [Act.put, List.getElem_toArray, List.getElem_cons_succ, List.getElem_cons_zero, List.setIfInBounds_toArray, List.set_cons_zero, List.set_cons_succ]
      refine wpAnyG_ready [4] (by kernel_rfl) (by simp) ?_
      refine AllReadyG.cons 4 (by rfl) (fun K hK => ?_) ?_
      · simp only [List.getElem_toArray, List.getElem_cons_succ, List.getElem_cons_zero]
        go_simp
        go_at_call 11
        refine (unhide HWs _).mono ?_
        rintro e w9 ⟨rfl, h9⟩
        have h9' := h9.symm
        clear h9
        subst h9'
        refine hK.out _ _ (unhide HBX _ hbr).1 (fun _ => ?_)
        clear hK K
        try simp only [Act.put, List.setIfInBounds_toArray, List.set_cons_zero, List.set_cons_succ]
        refine wpAnyG_ready [8] (by kernel_rfl) (by simp) ?_
        refine AllReadyG.cons 8 (by rfl) (fun K hK => ?_) ?_
        · simp only [List.getElem_toArray, List.getElem_cons_succ, List.getElem_cons_zero]
          go_simp
          go_at_call 11
          refine (unhide HWt _).mono ?_
          rintro e w9 ⟨rfl, h9⟩
          have h9' := h9.symm
          clear h9
          subst h9'
          refine hK.out _ _ (unhide HBX _ hbr).1 (fun _ => ?_)
          clear hK K
          try simp only [Act.put, List.setIfInBounds_toArray, List.set_cons_zero, List.set_cons_succ]
          refine wpAnyG_ready [9] (by kernel_rfl) (by simp) ?_
          refine AllReadyG.cons 9 (by rfl) (fun K hK => ?_) ?_
          · simp only [List.getElem_toArray, List.getElem_cons_succ, List.getElem_cons_zero]
            go_simp
            go_at_call 12
            refine (unhide HSp1 _ hbr).mono ?_
            rintro e wS ⟨oa, oc, rfl, HOs, hlS, hmS⟩
            have hbS := unhide HTR _ _ hbr hlS
            refine hK.out _ _ (unhide HBX _ hbS).1 (fun _ => ?_)
            clear hK K
            try simp only [Act.put, List.setIfInBounds_toArray, List.set_cons_zero, List.set_cons_succ]
            refine wpAnyG_take (v := ?_) 10 (by rfl) (by kernel_rfl) (by kernel_rfl) (by kernel_rfl) (by kernel_rfl) (fun _ _ _ h => h) (Or.inl ⟨by rfl, ?_⟩) (by assumption) ?_
            rotate_left
            · (intro w' hSw; (try dsimp only at hSw); (try simp only [List.getElem_toArray, List.getElem_cons_succ, List.getElem_cons_zero]); go_simp; try (with_reducible rfl))
            simp only [Act.put, List.getElem_toArray, List.getElem_cons_succ, List.getElem_cons_zero, List.setIfInBounds_toArray, List.set_cons_zero, List.set_cons_succ]
            refine wpAnyG_take (v := ?_) 11 (by rfl) (by kernel_rfl) (by kernel_rfl) (by kernel_rfl) (by kernel_rfl) (fun _ _ _ h => h) (Or.inl ⟨by rfl, ?_⟩) (by assumption) ?_
            rotate_left
            · (intro w' hSw; (try dsimp only at hSw); (try simp only [List.getElem_toArray, List.getElem_cons_succ, List.getElem_cons_zero]); go_simp; try (with_reducible rfl))
            simp only [Act.put, List.getElem_toArray, List.getElem_cons_succ, List.getElem_cons_zero, List.setIfInBounds_toArray, List.set_cons_zero, List.set_cons_succ]
            refine wpAnyG_take (v := ?_) 12 (by rfl) (by kernel_rfl) (by kernel_rfl) (by kernel_rfl) (by kernel_rfl) (fun _ _ _ h => h) (Or.inl ⟨by rfl, ?_⟩) (by assumption) ?_
            rotate_left
            · (intro w' hSw; (try dsimp only at hSw); (try simp only [List.getElem_toArray, List.getElem_cons_succ, List.getElem_cons_zero]); go_simp; try (with_reducible rfl))
            simp only [Act.put, List.getElem_toArray, List.getElem_cons_succ, List.getElem_cons_zero, List.setIfInBounds_toArray, List.set_cons_zero, List.set_cons_succ]
            refine wpAnyG_take (v := ?_) 13 (by rfl) (by kernel_rfl) (by kernel_rfl) (by kernel_rfl) (by kernel_rfl) (fun _ _ _ h => h) (Or.inl ⟨by rfl, ?_⟩) (by assumption) ?_
            rotate_left
            · (intro w' hSw; (try dsimp only at hSw); (try simp only [List.getElem_toArray, List.getElem_cons_succ, List.getElem_cons_zero]); go_simp; try (with_reducible rfl))
            simp only [Act.put, List.getElem_toArray, List.getElem_cons_succ, List.getElem_cons_zero, List.setIfInBounds_toArray, List.set_cons_zero, List.set_cons_succ]
            refine wpAnyG_take (v := ?_) 14 (by rfl) (by kernel_rfl) (by kernel_rfl) (by kernel_rfl) (by kernel_rfl) (fun _ _ _ h => h) (Or.inl ⟨by rfl, ?_⟩) (by assumption) ?_
            rotate_left
            · (intro w' hSw; (try dsimp only at hSw); (try simp only [List.getElem_toArray, List.getElem_cons_succ, List.getElem_cons_zero]); go_simp; try (with_reducible rfl))
            simp only [Act.put, List.getElem_toArray, List.getElem_cons_succ, List.getElem_cons_zero, List.setIfInBounds_toArray, List.set_cons_zero, List.set_cons_succ]
            refine wpAnyG_take (v := ?_) 15 (by rfl) (by kernel_rfl) (by kernel_rfl) (by kernel_rfl) (by kernel_rfl) (fun _ _ _ h => h) (Or.inl ⟨by rfl, ?_⟩) (by assumption) ?_
            rotate_left
            · (intro w' hSw; (try dsimp only at hSw); (try simp only [List.getElem_toArray, List.getElem_cons_succ, List.getElem_cons_zero]); go_simp; try (with_reducible rfl))
            simp only [Act.put, List.getElem_toArray, List.getElem_cons_succ, List.getElem_cons_zero, List.setIfInBounds_toArray, List.set_cons_zero, List.set_cons_succ]
            refine wpAnyG_take (v := ?_) 16 (by rfl) (by kernel_rfl) (by kernel_rfl) (by kernel_rfl) (by kernel_rfl) (fun _ _ _ h => h) (Or.inl ⟨by rfl, ?_⟩) (by assumption) ?_
            rotate_left
            · (intro w' hSw; (try dsimp only at hSw); (try simp only [List.getElem_toArray, List.getElem_cons_succ, List.getElem_cons_zero]); go_simp; try (with_reducible rfl))
            simp only [Act.put, List.getElem_toArray, List.getElem_cons_succ, List.getElem_cons_zero, List.setIfInBounds_toArray, List.set_cons_zero, List.set_cons_succ]
            refine wpAnyG_take (v := ?_) 17 (by rfl) (by kernel_rfl) (by kernel_rfl) (by kernel_rfl) (by kernel_rfl) (fun _ _ _ h => h) (Or.inl ⟨by rfl, ?_⟩) (by assumption) ?_
            rotate_left
            · (intro w' hSw; (try dsimp only at hSw); (try simp only [List.getElem_toArray, List.getElem_cons_succ, List.getElem_cons_zero]); go_simp; try (with_reducible rfl))
            simp only [Act.put, List.getElem_toArray, List.getElem_cons_succ, List.getElem_cons_zero, List.setIfInBounds_toArray, List.set_cons_zero, List.set_cons_succ]
            refine wpAnyG_take (v := ?_) 18 (by rfl) (by kernel_rfl) (by kernel_rfl) (by kernel_rfl) (by kernel_rfl) (fun _ _ _ h => h) (Or.inl ⟨by rfl, ?_⟩) (by assumption) ?_
            rotate_left
            · (intro w' hSw; (try dsimp only at hSw); (try simp only [List.getElem_toArray, List.getElem_cons_succ, List.getElem_cons_zero]); go_simp; try (with_reducible rfl))
            simp only [Act.put, List.getElem_toArray, List.getElem_cons_succ, List.getElem_cons_zero, List.setIfInBounds_toArray, List.set_cons_zero, List.set_cons_succ]
            refine wpAnyG_take (v := ?_) 19 (by rfl) (by kernel_rfl) (by kernel_rfl) (by kernel_rfl) (by kernel_rfl) (fun _ _ _ h => h) (Or.inl ⟨by rfl, ?_⟩) (by assumption) ?_
            rotate_left
            · (intro w' hSw; (try dsimp only at hSw); (try simp only [List.getElem_toArray, List.getElem_cons_succ, List.getElem_cons_zero]); go_simp; try (with_reducible rfl))
            simp only [Act.put, List.getElem_toArray, List.getElem_cons_succ, List.getElem_cons_zero, List.setIfInBounds_toArray, List.set_cons_zero, List.set_cons_succ]
            refine wpAnyG_take (v := ?_) 20 (by rfl) (by kernel_rfl) (by kernel_rfl) (by kernel_rfl) (by kernel_rfl) (fun _ _ _ h => h) (Or.inl ⟨by rfl, ?_⟩) (by assumption) ?_
            rotate_left
            · (intro w' hSw; (try dsimp only at hSw); (try simp only [List.getElem_toArray, List.getElem_cons_succ, List.getElem_cons_zero]); go_simp; try (with_reducible rfl))
            simp only [Act.put, List.getElem_toArray, List.getElem_cons_succ, List.getElem_cons_zero, List.setIfInBounds_toArray, List.set_cons_zero, List.set_cons_succ]
            refine wpAnyG_done (by kernel_rfl) ?_ _
            refine NoPanic.normal ?_
            go_wp2
            go_meet
            exact ⟨_, _, rfl, hide ⟨unhide HOs, hbS, hmS⟩⟩
          exact AllReadyG.nil
        exact AllReadyG.nil
      exact AllReadyG.nil
    case rest =>
      obtain ⟨wP, rfl⟩ : ∃ wP, wP = wc := ⟨_, rfl⟩
      obtain ⟨oa, oc, rfl, HO⟩ := hcut
      have hm48 := (unhide HO).2.2
      have HO0 : Hid (Below (w4.heap.size + 2) W6 wP ∧ ∀ g, oa = some ⟨g, 0, none⟩ → 0 < m → Open' wP g 0 m) := hide ⟨(unhide HO).2.1, fun g e h0 => by
        obtain ⟨g', e1, e2, e3⟩ := (unhide HO).1 h0
        rw [e] at e1
        injection e1 with e1
        injection e1 with e1 _
        subst e1
        exact e3⟩
      have HOg : Hid (0 < m → ∃ g, oa = some ⟨g, 0, none⟩ ∧ w4.heap.size + 2 ≤ g) := hide fun h0 => by
        obtain ⟨g', e1, e2, e3⟩ := (unhide HO).1 h0
        exact ⟨g', e1, e2⟩
      clear HO hb8
      go_wp2
      go_loopg [16] m (fun g s16 wr => ∃ i : Nat, i + g = m ∧ s16 = .int .i64 (i : Int) ∧ Hid (Below (w4.heap.size + 2) W6 wr ∧ ∀ g, oa = some ⟨g, 0, none⟩ → 0 < m → Open' wr g 0 m))
      case atStart => exact ⟨0, by omega, rfl, HO0⟩
      case round =>
        clear HO0
        obtain ⟨i, hig, rfl, HI⟩ := hrel
        cases gk with
        | succ g' =>
          have hil : i < m := by omega
          have hiI : (i : Int) < (m : Int) := by omega
          obtain ⟨fg, rfl, hfg⟩ := unhide HOg (by omega)
          obtain ⟨vi, ci, fi⟩ := (unhide HI).2 fg rfl (by omega) i hil
          rw [Nat.zero_add] at ci fi
          have HA2 : Hid (∀ v, Below (w4.heap.size + 2) W6 (wr.setCell ⟨fg, i, none⟩ v) ∧ ∀ g, (some ⟨fg, 0, none⟩ : Option Addr) = some ⟨g, 0, none⟩ → 0 < m → Open' (wr.setCell ⟨fg, i, none⟩ v) g 0 m) := hide fun v => ⟨(unhide HI).1.setCell (by exact hfg) v, fun g e h0 => ((unhide HI).2 g e h0).set _ _⟩
          clear HI
          go_wp2
          go_roundg g'
          case rel => exact ⟨i + 1, by omega, by go_num, hide (unhide HA2 _)⟩
          case measure => omega
        | zero =>
          have hie : i = m := by omega
          rw [hie]
          clear hie hig
          have HbE := hide (unhide HI).1
          clear HI
          go_upto_region 14 with fail
          have hbE := (unhide HbE).drew
          refine wp_region_G (fun w' => (w'.cell? ⟨w4.heap.size, 0, none⟩ = some (.int .i64 q.n) ∧ w'.cell? ⟨w4.heap.size, 1, none⟩ = some (.slice ta ln tc) ∧ w'.cell? ⟨w4.heap.size, 2, none⟩ = some (.slice na ln nc) ∧ w'.cell? ⟨w4.heap.size, 3, none⟩ = some (.slice ca ln cc)) ∧ w'.cell? ⟨w4.heap.size + 1, 0, none⟩ = some (.int .i64 q.n) ∧ w'.cell? ⟨w4.heap.size + 1, 1, none⟩ = some (.slice ta2 ln tc2) ∧ w'.cell? ⟨w4.heap.size + 1, 2, none⟩ = some (.slice na2 ln nc2) ∧ w'.cell? ⟨w4.heap.size + 1, 3, none⟩ = some (.slice ca2 ln cc2)) (fun _ => false) (by kernel_rfl) ⟨(unhide HBX _ hbE).1, (unhide HBX _ hbE).2.1⟩ (fun hHeld => ?_)
          generalize wr.drew = wq at *
          refine wpAnyG_take (v := ?_) 0 (by rfl) (by kernel_rfl) (by kernel_rfl) (by kernel_rfl) (by kernel_rfl) (fun _ _ _ h => h) (Or.inl ⟨by rfl, ?_⟩) (by assumption) ?_
          rotate_left
          · (intro w' hSw; (try dsimp only at hSw); (try simp only [List.getElem_toArray, List.getElem_cons_zero]); go_simp; try (with_reducible rfl))
          simp only [Act.put, List.getElem_toArray, List.getElem_cons_zero, List.setIfInBounds_toArray, List.set_cons_zero, List.set_cons_succ]
          refine wpAnyG_take (v := ?_) 1 (by rfl) (by kernel_rfl) (by kernel_rfl) (by kernel_rfl) (by kernel_rfl) (fun _ _ _ h => h) (Or.inl ⟨by rfl, ?_⟩) (by assumption) ?_
          rotate_left
          · (intro w' hSw; (try dsimp only at hSw); (try simp only [List.getElem_toArray, List.getElem_cons_succ, List.getElem_cons_zero]); go_simp; try (with_reducible rfl))
          simp only [Act.put, List.getElem_toArray, List.getElem_cons_succ, List.getElem_cons_zero, List.setIfInBounds_toArray, List.set_cons_zero, List.set_cons_succ]
          refine wpAnyG_ready [2] (by kernel_rfl) (by simp) ?_
          refine AllReadyG.cons 2 (by rfl) (fun K hK => ?_) ?_
          · simp only [List.getElem_toArray, List.getElem_cons_succ, List.getElem_cons_zero]
            go_simp
            go_at_call 20
            refine (unhide HSm _ hbE).mono ?_
            rintro e wA ⟨rfl, hlA⟩
            have hbA := unhide HTR _ _ hbE hlA
            refine hK.out _ _ ⟨(unhide HBX _ hbA).1, (unhide HBX _ hbA).2.1⟩ (fun _ => ?_)
            clear hK K
            try simp only [Act.put, List.setIfInBounds_toArray, List.set_cons_zero, List.set_cons_succ]
            refine wpAnyG_take (v := ?_) 3 (by rfl) (by kernel_rfl) (by kernel_rfl) (by kernel_rfl) (by kernel_rfl) (fun _ _ _ h => h) (Or.inl ⟨by rfl, ?_⟩) (by assumption) ?_
            rotate_left
            · (intro w' hSw; (try dsimp only at hSw); (try simp only [List.getElem_toArray, List.getElem_cons_succ, List.getElem_cons_zero]); go_simp; try (with_reducible rfl))
            simp only [Act.put, List.getElem_toArray, List.getElem_cons_succ, List.getElem_cons_zero, List.setIfInBounds_toArray, List.set_cons_zero, List.set_cons_succ]
            refine wpAnyG_take (v := ?_) 4 (by rfl) (by kernel_rfl) (by kernel_rfl) (by kernel_rfl) (by kernel_rfl) (fun _ _ _ h => h) (Or.inl ⟨by rfl, ?_⟩) (by assumption) ?_
            rotate_left
            · (intro w' hSw; (try dsimp only at hSw); (try simp only [List.getElem_toArray, List.getElem_cons_succ, List.getElem_cons_zero]); go_simp; try (with_reducible rfl))
            simp only [Act.put, List.getElem_toArray, List.getElem_cons_succ, List.getElem_cons_zero, List.setIfInBounds_toArray, List.set_cons_zero, List.set_cons_succ]
            refine wpAnyG_take (v := ?_) 6 (by rfl) (by kernel_rfl) (by kernel_rfl) (by kernel_rfl) (by kernel_rfl) (fun _ _ _ h => h) (Or.inl ⟨by rfl, ?_⟩) (by assumption) ?_
            rotate_left
            · (intro w' hSw; (try dsimp only at hSw); (try simp only [List.getElem_toArray, List.getElem_cons_succ, List.getElem_cons_zero]); go_simp; try (with_reducible rfl))
            simp only [Act.put, List.getElem_toArray, List.getElem_cons_succ, List.getElem_cons_zero, List.setIfInBounds_toArray, List.set_cons_zero, List.set_cons_succ]
            refine wpAnyG_ready [5] (by kernel_rfl) (by simp) ?_
            refine AllReadyG.cons 5 (by rfl) (fun K hK => ?_) ?_
            · simp only [List.getElem_toArray, List.getElem_cons_succ, List.getElem_cons_zero]
              go_simp
              go_at_call 15
              refine (unhide HMk _ hbA).mono ?_
              rintro e wB ⟨vA, tA, nA, cA, rfl, hNa, hlB⟩
              have hbB := unhide HTR _ _ hbA hlB
              have hMa := hNa.netI
              refine hK.out _ _ ⟨(unhide HBX _ hbB).1, (unhide HBX _ hbB).2.1⟩ (fun _ => ?_)
              clear hK K
              try simp only [Act.put, List.setIfInBounds_toArray, List.set_cons_zero, List.set_cons_succ]
              refine wpAnyG_ready [7] (by kernel_rfl) (by simp) ?_
              refine AllReadyG.cons 7 (by rfl) (fun K hK => ?_) ?_
              · simp only [List.getElem_toArray, List.getElem_cons_succ, List.getElem_cons_zero]
                go_simp
                go_at_call 21
                refine (unhide HMr _ hbB).mono ?_
                rintro e wC ⟨vB, tB, nB, cB, rfl, hMb, hlC⟩
                have hbC := unhide HTR _ _ hbB hlC
                replace hMa := hMa.below hlC
                refine hK.out _ _ ⟨(unhide HBX _ hbC).1, (unhide HBX _ hbC).2.1⟩ (fun _ => ?_)
                clear hK K
                try simp only [Act.put, List.setIfInBounds_toArray, List.set_cons_zero, List.set_cons_succ]
                refine wpAnyG_ready [8] (by kernel_rfl) (by simp) ?_
                refine AllReadyG.cons 8 (by rfl) (fun K hK => ?_) ?_
                · simp only [List.getElem_toArray, List.getElem_cons_succ, List.getElem_cons_zero]
                  go_simp
                  go_at_call 20
                  refine (unhide HSd _ _ _ _ _ _ _ _ _ hMa hMb).mono ?_
                  rintro e wD ⟨rfl, hlD⟩
                  have hbD := unhide HTR _ _ hbC hlD
                  refine hK.out _ _ ⟨(unhide HBX _ hbD).1, (unhide HBX _ hbD).2.1⟩ (fun _ => ?_)
                  clear hK K
                  try simp only [Act.put, List.setIfInBounds_toArray, List.set_cons_zero, List.set_cons_succ]
                  refine wpAnyG_take (v := ?_) 9 (by rfl) (by kernel_rfl) (by kernel_rfl) (by kernel_rfl) (by kernel_rfl) (fun _ _ _ h => h) (Or.inl ⟨by rfl, ?_⟩) (by assumption) ?_
                  rotate_left
                  · (intro w' hSw; (try dsimp only at hSw); (try simp only [List.getElem_toArray, List.getElem_cons_succ, List.getElem_cons_zero]); go_simp; try (with_reducible rfl))
                  simp only [Act.put, List.getElem_toArray, List.getElem_cons_succ, List.getElem_cons_zero, List.setIfInBounds_toArray, List.set_cons_zero, List.set_cons_succ]
                  refine wpAnyG_take (v := ?_) 10 (by rfl) (by kernel_rfl) (by kernel_rfl) (by kernel_rfl) (by kernel_rfl) (fun _ _ _ h => h) (Or.inl ⟨by rfl, ?_⟩) (by assumption) ?_
                  rotate_left
                  · (intro w' hSw; (try dsimp only at hSw); (try simp only [List.getElem_toArray, List.getElem_cons_succ, List.getElem_cons_zero]); go_simp; try (with_reducible rfl))
                  simp only [Act.put, List.getElem_toArray, List.getElem_cons_succ, List.getElem_cons_zero, List.setIfInBounds_toArray, List.set_cons_zero, List.set_cons_succ]
                  refine wpAnyG_done (by kernel_rfl) ?_ _
                  refine NoPanic.normal ?_
                  go_wp2
                  rw [unhide HP]
                  exact ⟨by rfl, (unhide HBX _ hbD).2.2.2.2.1⟩
                exact AllReadyG.nil
              exact AllReadyG.nil
            exact AllReadyG.nil
          exact AllReadyG.nil
end Go.Proofs.Ytcdpgiklmonabab


