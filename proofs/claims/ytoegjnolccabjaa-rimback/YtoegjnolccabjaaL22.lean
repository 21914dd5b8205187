/- What the proof needs, part 22. -/
import Derived.Test.YtoegjnolccabjaaL21
/- A net seen from behind, flows the other way about. -/
namespace Go.Proofs.Ytoegjnolccabjaa
open Go Go.RowKit

theorem Sp.PlaneQ.seen {q : Sp.Net} {i : Nat} (h : Sp.PlaneQ q i) : Sp.PlaneQ (Sp.seen q) i := by
  refine ⟨h.ev, h.le, h.n0, h.n1, by show (Sp.turnL q.next).length = _; rw [Sp.turnL_len, h.nx]; rfl, h.cp, h.pm.turn, h.tb, h.cb, fun i hi => ?_⟩
  have hi' : i < q.next.length := by
    have h1 : (Sp.seen q).next.length = (Sp.turnL q.next).length := rfl
    rw [h1, Sp.turnL_len] at hi
    exact hi
  have hj : Sp.fn (Sp.turnL q.next) i < q.next.length := by
    have := h.pm.turn.fnP.mp i (by rw [Sp.turnL_len]; exact hi')
    rw [Sp.turnL_len] at this
    exact this
  have h2 := h.tn _ hj
  have h3 := Sp.fn_turn' h.pm hi'
  have h4 : (q.next.getD (Sp.fn (Sp.turnL q.next) i) 0).toNat = i := h3
  rw [h4] at h2
  exact h2.symm
theorem Sp.DualQ.seen {q : Sp.Net} (h : Sp.DualQ q) : Sp.DualQ (Sp.seen q) :=
  ⟨⟨by show (Sp.turnL q.next).length = _; rw [Sp.turnL_len, h.link.nx]; rfl, h.link.cp, h.link.le, h.link.ev, h.link.pm.turn⟩, h.le, h.l0, h.n0, h.n1, h.tb, h.cb, h.pl.seen h.link.pm h.link.nx h.link.ev⟩
theorem Sp.seen_one : Sp.seen ⟨1, [], [], []⟩ = ⟨1, [], [], []⟩ := rfl
theorem Sp.rimQ_seen (ns : List Int) : Sp.RimQ (Sp.seen (Sp.plane ns)) := by
  rcases Sp.dualQ_plane ns with e | h
  · rw [e, Sp.seen_one]; exact q1_rim
  · have hw := (Sp.plane_ok ns).seen.walk (by omega)
    exact Sp.RimQ.of_dual h.seen hw (Sp.check_plain hw h.seen.n0 h.seen.link.pm h.seen.cb h.seen.l0 h.seen.pl)
theorem Sp.Cir.seen {q : Sp.Net} (hl : Sp.LinkQ q) (h : Sp.Cir q) : Sp.Cir (Sp.seen q) := by
  intro g ha hv
  obtain ⟨H, h1, h2⟩ := h g ha hv
  have hb : (Sp.behindL q.next).length = q.tail.length := by rw [Sp.behindL_len, hl.nx]
  have hp := hl.pm.behind (by rw [hl.nx]; exact hl.ev)
  refine ⟨fun x => - H (Sp.oth x), fun x hx => ?_, fun d hd => ?_⟩
  · have hx' : x < q.tail.length := hx
    obtain ⟨z, hz, e⟩ := Sp.perm_onto hp (d := Sp.oth x) (by rw [hb]; exact oth_lt hx' hl.ev)
    rw [hb] at hz
    obtain ⟨t1, -⟩ := fn_tb hl.pm (by rw [hl.nx]; exact hl.ev) (x := z) (by rw [hl.nx]; exact hz)
    rw [e, oth_oth] at t1
    have t2 : Sp.fn (Sp.behindL (Sp.seen q).next) x = Sp.oth z := t1
    have t3 := h1 z hz
    rw [e] at t3
    show -H (Sp.oth (Sp.fn (Sp.behindL (Sp.seen q).next) x)) = -H (Sp.oth x)
    rw [t2, oth_oth, t3]
  · have h3 := h2 d hd
    show g d = -H (Sp.oth (Sp.oth d)) - -H (Sp.oth d)
    rw [oth_oth]
    omega
theorem Sp.DualQ.shared_to {q : Sp.Net} (h : Sp.DualQ q) {s t : Int} (hs : (Sp.shared q s t).2 = true) : (Sp.shared (Sp.seen q) s t).2 = true := by
  have hd := h.seen
  unfold Sp.shared at hs ⊢
  by_cases e : s = t
  · rw [if_pos e] at hs; cases hs
  · rw [if_neg e] at hs ⊢
    obtain ⟨c, -, -, -, ⟨d1, a1, a2, a3⟩, ⟨d2, b1, b2, b3⟩, -⟩ := Sp.sharedGo_true (max (Sp.faces2 q).2 1) 0 _ (Prod.ext rfl hs)
    have hb : (Sp.behindL q.next).length = q.tail.length := by rw [Sp.behindL_len, h.link.nx]
    have hev := h.link.ev
    have pre : ∀ d, d < q.tail.length → ∃ p, p < q.tail.length ∧ Sp.fn (Sp.behindL q.next) p = d ∧ q.tail.getD (Sp.oth p) 0 = q.tail.getD d 0 := fun d hdl => by
      obtain ⟨p, hp, e⟩ := Sp.perm_onto h.fp (d := d) (by rw [hb]; exact hdl)
      rw [hb] at hp
      have ho := oth_lt hp hev
      refine ⟨p, hp, e, ?_⟩
      rw [fn_behind _ _ (by rw [h.link.nx]; exact hp)] at e
      rw [← e, h.tailN ho]
    obtain ⟨p1, p1l, p1e, p1t⟩ := pre d1 a1
    obtain ⟨p2, p2l, p2e, p2t⟩ := pre d2 b1
    have hl1 : (Sp.faces2 q).1.getD p1 0 = (Sp.faces2 q).1.getD p2 0 := by
      have i1 := h.cls.inv p1 p1l
      have i2 := h.cls.inv p2 p2l
      rw [p1e] at i1
      rw [p2e] at i2
      have f1 := h.fb p1l
      have f2 := h.fb p2l
      have f3 := h.fb a1
      have f4 := h.fb b1
      have i1' : ((Sp.faces2 q).1.getD d1 0).toNat = ((Sp.faces2 q).1.getD p1 0).toNat := i1
      have i2' : ((Sp.faces2 q).1.getD d2 0).toNat = ((Sp.faces2 q).1.getD p2 0).toNat := i2
      omega
    obtain ⟨m, hm⟩ := h.cls.sep p1 p2 p1l p2l (by rw [hl1])
    have ho := orb_turn h.fp (g := Sp.fn (Sp.behindL (Sp.turnL q.next))) (fun x hx => (fn_tb h.link.pm (by rw [h.link.nx]; exact hev) (x := x) (by rw [h.link.nx]; rw [hb] at hx; exact hx)).1) (i := p1) (by rw [hb]; exact p1l) m
    rw [hm] at ho
    have o1 := oth_lt p1l hev
    have o2 := oth_lt p2l hev
    have hlab := hd.cls.orb hd.mp (i := Sp.oth p2) (j := Sp.oth p1) o2 ho
    have g1 := hd.fb (i := Sp.oth p1) o1
    have g2 := hd.fb (i := Sp.oth p2) o2
    have hlab' : ((Sp.faces2 (Sp.seen q)).1.getD (Sp.oth p2) 0).toNat = ((Sp.faces2 (Sp.seen q)).1.getD (Sp.oth p1) 0).toNat := hlab
    have hk := hd.k1
    exact Sp.sharedGo_some _ 0 ((Sp.faces2 (Sp.seen q)).1.getD (Sp.oth p1) 0).toNat (by omega) (by omega) ⟨Sp.oth p1, o1, by rw [← a2, ← p1t]; rfl, by omega⟩ ⟨Sp.oth p2, o2, by rw [← b2, ← p2t]; rfl, by omega⟩
theorem Sp.seen_seen {q : Sp.Net} (hp : Sp.Perm q.next) : Sp.seen (Sp.seen q) = q := by
  unfold Sp.seen
  show (⟨q.n, q.tail, Sp.turnL (Sp.turnL q.next), q.cap⟩ : Sp.Net) = q
  rw [Sp.turn_twice hp]
theorem Sp.DualQ.shared_seen {q : Sp.Net} (h : Sp.DualQ q) (s t : Int) : (Sp.shared (Sp.seen q) s t).2 = (Sp.shared q s t).2 := by
  rw [Bool.eq_iff_iff]
  refine ⟨fun hh => ?_, fun hh => h.shared_to hh⟩
  have := h.seen.shared_to hh
  rw [Sp.seen_seen h.link.pm] at this
  exact this
theorem Sp.rimE_seen (ns : List Int) (s t : Int) : Sp.rimE (Sp.seen (Sp.plane ns)) s t = Sp.rimE (Sp.plane ns) s t := by
  rcases Sp.dualQ_plane ns with e | h
  · rw [e, Sp.seen_one]
  · unfold Sp.rimE
    rw [h.shared_seen]
    rfl
theorem Sp.rimE_back {q : Sp.Net} (C : List Int) (s t : Int) : Sp.rimE (Sp.capQ q C) t s = Sp.rimE q s t := by
  show Sp.rimE q t s = Sp.rimE q s t
  unfold Sp.rimE
  rw [Sp.shared_comm q t s]
  by_cases h1 : (0 ≤ s ∧ s < q.n) ∧ (0 ≤ t ∧ t < q.n)
  · rw [if_neg (show ¬ ¬ ((0 ≤ t ∧ t < q.n) ∧ (0 ≤ s ∧ s < q.n)) from fun k => k ⟨h1.2, h1.1⟩), if_neg (show ¬ ¬ ((0 ≤ s ∧ s < q.n) ∧ (0 ≤ t ∧ t < q.n)) from fun k => k h1)]
    by_cases h2 : s = t
    · rw [if_pos (show t = s from h2.symm), if_pos h2]
    · rw [if_neg (show ¬ t = s from fun k => h2 k.symm), if_neg h2]
  · rw [if_pos (show ¬ ((0 ≤ t ∧ t < q.n) ∧ (0 ≤ s ∧ s < q.n)) from fun k => h1 ⟨k.2, k.1⟩), if_pos h1]
/-- A flow the other way about. -/
theorem Sp.FlowQ.neg {q q' : Sp.Net} {s t : Int} {L : List Int} {x : Int} (h : Sp.FlowQ q s t L x) (ht : q'.tail = q.tail) (hev : q.tail.length % 2 = 0) (hc : ∀ d, d < q.tail.length → q.cap.getD (Sp.oth d) 0 = q'.cap.getD d 0) :
    Sp.FlowQ q' t s ((List.range q.tail.length).map fun d => - L.getD d 0) x := by
  have hL : ∀ d, d < q.tail.length → ((List.range q.tail.length).map fun d => - L.getD d 0).getD d 0 = - L.getD d 0 := fun d hd => Sp.rowD (D := fun d => - L.getD d 0) hd
  have hS : ∀ u, Sp.sumN (fun d => if q.tail.getD d 0 = u then ((List.range q.tail.length).map fun d => - L.getD d 0).getD d 0 else 0) q.tail.length = 0 - Sp.sumN (fun d => if q.tail.getD d 0 = u then L.getD d 0 else 0) q.tail.length := fun u => by
    have e := Sp.sumN_sub (fun _ => 0) (fun d => if q.tail.getD d 0 = u then L.getD d 0 else 0) q.tail.length
    rw [Sp.sumN_zero] at e
    rw [← e]
    exact Sp.sumN_congr _ fun d hd => by
      rw [hL d hd]
      split <;> omega
  refine ⟨by rw [List.length_map, List.length_range, ht], fun d hd => ?_, fun d hd => ?_, ?_, ?_, fun u us ut => ?_⟩
  · rw [ht] at hd
    rw [hL d hd, hL _ (oth_lt hd hev), h.op d hd]
  · rw [ht] at hd
    have h1 := h.le _ (oth_lt hd hev)
    rw [h.op d hd, hc d hd] at h1
    rw [hL d hd]
    exact h1
  · rw [ht, hS, h.snk]; omega
  · rw [ht, hS, h.src]; omega
  · rw [ht, hS, h.mid u ut us]; rfl
theorem Sp.RimIs.seen {q : Sp.Net} (hd : 0 < q.tail.length → Sp.DualQ q) (hq : Sp.RimQ q) (hq' : Sp.RimQ (Sp.seen q)) (hc : Sp.Cir q) {s t : Int} (hE : Sp.rimE (Sp.seen q) s t = Sp.rimE q s t) {P L P' L' : List Int} {x x' : Int} (h : Sp.RimIs q s t P L x) (h' : Sp.RimIs (Sp.seen q) s t P' L' x') : x = x' := by
  have hd' : 0 < (Sp.seen q).tail.length → Sp.DualQ (Sp.seen q) := fun k => (hd k).seen
  by_cases h0 : Sp.rimE q s t = 0
  · have f1 := (h.flow hd hq h0).1
    have f2 := (h'.flow hd' hq' (by rw [hE]; exact h0)).1
    have m1 := h.most hd hq hc h0 (L' := L') (x' := x') ⟨f2.len, f2.op, f2.le, f2.src, f2.snk, f2.mid⟩
    have m2 := h'.most hd' hq' (hc.seen hq.link) (by rw [hE]; exact h0) (L' := L) (x' := x) ⟨f1.len, f1.op, f1.le, f1.src, f1.snk, f1.mid⟩
    omega
  · rw [(h.none h0).2.2, (h'.none (by rw [hE]; exact h0)).2.2]
theorem Sp.RimIs.back {q : Sp.Net} {C : List Int} (hd : 0 < q.tail.length → Sp.DualQ q) (hd' : 0 < q.tail.length → Sp.DualQ (Sp.capQ q C)) (hq : Sp.RimQ q) (hq' : Sp.RimQ (Sp.capQ q C)) (hc : Sp.Cir q) (hC : ∀ d, d < q.tail.length → C.getD d 0 = q.cap.getD (Sp.oth d) 0) {s t : Int} {P L P' L' : List Int} {x x' : Int} (h : Sp.RimIs q s t P L x) (h' : Sp.RimIs (Sp.capQ q C) t s P' L' x') : x = x' := by
  have hE : Sp.rimE (Sp.capQ q C) t s = Sp.rimE q s t := Sp.rimE_back C s t
  have hev := hq.link.ev
  by_cases h0 : Sp.rimE q s t = 0
  · have f1 := (h.flow hd hq h0).1
    have f2 := (h'.flow hd' hq' (by rw [hE]; exact h0)).1
    have m1 := h.most hd hq hc h0 (f2.neg (q' := q) rfl hev (fun d hd => by
      show C.getD (Sp.oth d) 0 = _
      rw [hC _ (oth_lt hd hev), oth_oth]))
    have m2 := h'.most hd' hq' hc (by rw [hE]; exact h0) (f1.neg (q' := Sp.capQ q C) rfl hev (fun d hd => (hC d hd).symm))
    omega
  · rw [(h.none h0).2.2, (h'.none (by rw [hE]; exact h0)).2.2]
end Go.Proofs.Ytoegjnolccabjaa


/- The walk of the second reference's Turn. -/
namespace Go.Proofs.Ytoegjnolccabjaa
open Go Go.RowKit

set_option maxRecDepth 100000 in
set_option maxHeartbeats 4000000 in
theorem turn2_any (q : Sp.Net) (v tv nv cv : Value) (w : World) (hv : NetI w v q tv nv cv) (hw : Sp.walkB q = true) :
    Calls Try.prog 22 #[v] w fun e w' => ∃ tv nv cv, e = .returned (.agg #[.int .i64 q.n, tv, nv, cv]) ∧ OwnI w' w.heap.size tv q.tail ∧ OwnI w' w.heap.size nv (Sp.turnL q.next) ∧ OwnI w' w.heap.size cv q.cap ∧ Below w.heap.size w w' := by
  have hq := walkQ hw
  have hv' := hv
  obtain ⟨rfl, h1, h2, h3⟩ := hv
  obtain ⟨ta, tc, rfl, -, -⟩ := h1.form
  obtain ⟨na, nc, rfl, hnc, hnm⟩ := h2.form
  obtain ⟨ca, cc, rfl, -, -⟩ := h3.form
  clear h1 h2 h3
  have HV : Hid (∀ w', Below w.heap.size w w' → NetI w' (.agg #[.int .i64 q.n, .slice ta q.tail.length tc, .slice na q.next.length nc, .slice ca q.cap.length cc]) q (.slice ta q.tail.length tc) (.slice na q.next.length nc) (.slice ca q.cap.length cc)) := hide fun w' hb => hv'.below hb
  have HQ := hide hq
  have hn240 : q.next.length ≤ 240 := by rw [hq.nx]; exact hq.big
  have HR0 : Hid (Sp.turnL q.next = Sp.invGo q.next q.next.length 0 (List.replicate q.next.length 0)) := hide rfl
  obtain ⟨P, hP⟩ : ∃ P : Ending → World → Prop, P = fun e w' => ∃ tv nv cv, e = .returned (.agg #[.int .i64 q.n, tv, nv, cv]) ∧ OwnI w' w.heap.size tv q.tail ∧ OwnI w' w.heap.size nv (Sp.turnL q.next) ∧ OwnI w' w.heap.size cv q.cap ∧ Below w.heap.size w w' := ⟨_, rfl⟩
  rw [← hP]
  have HP := hide hP
  clear hv' hw hq hP
  generalize Sp.turnL q.next = R at *
  have HB0 := hide (BoxAt.start w q.n (.slice ta q.tail.length tc) (.slice na q.next.length nc) (.slice ca q.cap.length cc) 0)
  obtain ⟨W2, hW2⟩ : ∃ W2, W2 = (w.alloc (.cells #[.int .i64 q.n, .slice ta q.tail.length tc, .slice na q.next.length nc, .slice ca q.cap.length cc] 25)).alloc (.cells #[.int .i64 0, .slice none 0 0, .slice none 0 0, .slice none 0 0] 25) := ⟨_, rfl⟩
  have HB2 : Hid (BoxAt w W2 q.n (.slice ta q.tail.length tc) (.slice na q.next.length nc) (.slice ca q.cap.length cc)) := hide (by rw [hW2]; exact unhide HB0)
  have hs2 : W2.heap.size = w.heap.size + 2 := by rw [hW2]; simp
  have HS2 := hide hs2
  clear HB0 hs2
  subst hW2
  go_enter Try.func22, Try.ntmps22
  go_wp2_with (at_make; refine wpList_mk rfl _ _ rfl (w.heap.size + 2) q.next.length rfl rfl (by omega) (by simp) ?_)
  intro w5 hown5 hb5 hlt5
  have HK0 : Hid (BoxAt w w5 q.n (.slice ta q.tail.length tc) (.slice na q.next.length nc) (.slice ca q.cap.length cc) ∧ OwnI w5 (w.heap.size + 2) (.slice (some ⟨w.heap.size + 2, 0, none⟩) q.next.length q.next.length) (List.replicate q.next.length 0)) := hide ⟨(unhide HB2).below (by rw [unhide HS2]; exact hb5), hown5⟩
  clear hown5 hb5 hlt5
  generalize (w.alloc (.cells #[.int .i64 q.n, .slice ta q.tail.length tc, .slice na q.next.length nc, .slice ca q.cap.length cc] 25)).alloc (.cells #[.int .i64 0, .slice none 0 0, .slice none 0 0, .slice none 0 0] 25) = W2 at *
  go_wp2
  go_loopg [4] q.next.length (fun g s4 wr => ∃ (k : Nat) (L : List Int), k + g = q.next.length ∧ s4 = .int .i64 (k : Int) ∧ Hid (L.length = q.next.length ∧ BoxAt w wr q.n (.slice ta q.tail.length tc) (.slice na q.next.length nc) (.slice ca q.cap.length cc) ∧ OwnI wr (w.heap.size + 2) (.slice (some ⟨w.heap.size + 2, 0, none⟩) q.next.length q.next.length) L ∧ R = Sp.invGo q.next g k L))
  case atStart => exact ⟨0, _, by omega, rfl, hide ⟨List.length_replicate, (unhide HK0).1, (unhide HK0).2, unhide HR0⟩⟩
  case round =>
    obtain ⟨k, L, hkg, rfl, HI⟩ := hrel
    clear HK0 HB2
    obtain ⟨x0, x1, x2, x3, -⟩ := obj_cells (unhide HI).2.1.b1
    cases gk with
    | succ g' =>
      have hlt : k < q.next.length := by omega
      have hltI : (k : Int) < (q.next.length : Int) := by omega
      have HN := hide (unhide HV _ (unhide HI).2.1.bel).next
      obtain ⟨b, o, c, hna, hc1, -⟩ := (unhide HN).cellAt (Below.refl _ _) k hlt
      injection hna with hna1 hna2 hna3
      subst hna1 hna3
      have hbd := (unhide HQ).nb q.next[k] (List.getElem_mem hlt)
      have HG : Hid (q.next.getD k 0 = q.next[k]) := hide (Sp.getD_eq _ _ hlt)
      generalize q.next[k] = z at *
      obtain ⟨x, rfl⟩ : ∃ x : Nat, z = (x : Int) := ⟨z.toNat, by omega⟩
      have hxn : x < q.next.length := by omega
      have hxI : (x : Int) < (q.next.length : Int) := by omega
      have c1 := own_cell (unhide HI).2.2.1 x (by rw [(unhide HI).1]; exact hxn)
      have f1 := own_frozen (unhide HI).2.2.1 x
      generalize L[x]'_ = lz at *
      have HR : Hid (R = Sp.invGo q.next g' (k + 1) (L.set x k)) := hide (by rw [(unhide HI).2.2.2, Sp.invGo, unhide HG, Int.toNat_natCast])
      have HI2 : Hid ((L.set x (k : Int)).length = q.next.length ∧ BoxAt w (wr.setCell ⟨w.heap.size + 2, x, none⟩ (.int .i64 (k : Int))) q.n (.slice ta q.tail.length tc) (.slice (some ⟨b, o, none⟩) q.next.length nc) (.slice ca q.cap.length cc) ∧ OwnI (wr.setCell ⟨w.heap.size + 2, x, none⟩ (.int .i64 (k : Int))) (w.heap.size + 2) (.slice (some ⟨w.heap.size + 2, 0, none⟩) q.next.length q.next.length) (L.set x (k : Int)) ∧ R = Sp.invGo q.next g' (k + 1) (L.set x (k : Int))) := hide ⟨by rw [List.length_set]; exact (unhide HI).1, (unhide HI).2.1.other _ x (by omega) _, own_setCell (unhide HI).2.2.1 x (k : Int), unhide HR⟩
      clear hbd hna2 HN HI x0 x1 x3
      go_wp2
      go_roundg g'
      case rel => exact ⟨k + 1, L.set x k, by omega, by go_num, HI2⟩
      case measure => omega
    | zero =>
      have hke : k = q.next.length := by omega
      rw [hke] at HI ⊢
      have HF : Hid (R = L) := hide (unhide HI).2.2.2
      have HBx := hide (unhide HI).2.1
      have HOw := hide (unhide HI).2.2.1
      clear hke hkg HI x0 x1 x2 x3
      go_upto_region 6 with fail
      have hW3 := hide (unhide HBx).drew
      have HS : Hid (∀ w', Below wr.drew.heap.size wr.drew w' → w'.cell? ⟨w.heap.size, 0, none⟩ = some (.int .i64 q.n) ∧ w'.cell? ⟨w.heap.size, 1, none⟩ = some (.slice ta q.tail.length tc) ∧ w'.cell? ⟨w.heap.size, 2, none⟩ = some (.slice na q.next.length nc) ∧ w'.cell? ⟨w.heap.size, 3, none⟩ = some (.slice ca q.cap.length cc)) := hide fun w' hb => by
        obtain ⟨x0, x1, x2, x3, -⟩ := obj_cells ((unhide hW3).below hb).b1
        exact ⟨x0, x1, x2, x3⟩
      have HU : Hid (∀ w', Below wr.drew.heap.size wr.drew w' → Ints w' (.slice ta q.tail.length tc) q.tail ∧ Ints w' (.slice ca q.cap.length cc) q.cap) := hide fun w' hb => by
        have hn := unhide HV _ ((unhide hW3).below hb).bel
        exact ⟨hn.tail, hn.cap⟩
      have HLA : Hid (q.tail.length ≤ 1000000) := hide (by have := (unhide HQ).big; omega)
      have HLB : Hid (q.cap.length ≤ 1000000) := hide (by have := (unhide HQ).big; have := (unhide HQ).cp; omega)
      have hB2 : w.heap.size + 2 ≤ wr.drew.heap.size := by have := (unhide hW3).size; omega
      have HOw2 := hide (own_drew (unhide HOw))
      clear HOw HBx
      have HOw := HOw2
      clear HOw2
      refine wp_region_G (fun w' => w'.cell? ⟨w.heap.size, 0, none⟩ = some (.int .i64 q.n) ∧ w'.cell? ⟨w.heap.size, 1, none⟩ = some (.slice ta q.tail.length tc) ∧ w'.cell? ⟨w.heap.size, 2, none⟩ = some (.slice na q.next.length nc) ∧ w'.cell? ⟨w.heap.size, 3, none⟩ = some (.slice ca q.cap.length cc)) (fun i => i == 12) (by kernel_rfl) (unhide HS _ (Below.refl _ _)) (fun hHeld => ?_)
      generalize wr.drew = W3 at *
      have hb0 : Below W3.heap.size W3 W3 := Below.refl _ _
      refine wpAnyG_take (v := ?_) 0 (by rfl) (by kernel_rfl) (by kernel_rfl) (by kernel_rfl) (by kernel_rfl) (fun _ _ _ h => h) (Or.inl ⟨by rfl, ?_⟩) (by assumption) ?_
      rotate_left
      · (intro w' hSw; (try dsimp only at hSw); (try simp only [List.getElem_toArray, List.getElem_cons_zero]); go_simp; try (with_reducible rfl))
      simp only [Act.put, List.getElem_toArray, List.getElem_cons_zero, List.setIfInBounds_toArray, List.set_cons_zero, List.set_cons_succ]
      refine wpAnyG_take (v := ?_) 1 (by rfl) (by kernel_rfl) (by kernel_rfl) (by kernel_rfl) (by kernel_rfl) (fun _ _ _ h => h) (Or.inl ⟨by rfl, ?_⟩) (by assumption) ?_
      rotate_left
      · (intro w' hSw; (try dsimp only at hSw); (try simp only [List.getElem_toArray, List.getElem_cons_succ, List.getElem_cons_zero]); go_simp; try (with_reducible rfl))
      simp only [Act.put, List.getElem_toArray, List.getElem_cons_succ, List.getElem_cons_zero, List.setIfInBounds_toArray, List.set_cons_zero, List.set_cons_succ]
      refine wpAnyG_take (v := ?_) 3 (by rfl) (by kernel_rfl) (by kernel_rfl) (by kernel_rfl) (by kernel_rfl) (fun _ _ _ h => h) (Or.inl ⟨by rfl, ?_⟩) (by assumption) ?_
      rotate_left
      · (intro w' hSw; (try dsimp only at hSw); (try simp only [List.getElem_toArray, List.getElem_cons_succ, List.getElem_cons_zero]); go_simp; try (with_reducible rfl))
      simp only [Act.put, List.getElem_toArray, List.getElem_cons_succ, List.getElem_cons_zero, List.setIfInBounds_toArray, List.set_cons_zero, List.set_cons_succ]
      refine wpAnyG_take (v := ?_) 4 (by rfl) (by kernel_rfl) (by kernel_rfl) (by kernel_rfl) (by kernel_rfl) (fun _ _ _ h => h) (Or.inl ⟨by rfl, ?_⟩) (by assumption) ?_
      rotate_left
      · (intro w' hSw; (try dsimp only at hSw); (try simp only [List.getElem_toArray, List.getElem_cons_succ, List.getElem_cons_zero]); go_simp; try (with_reducible rfl))
      simp only [Act.put, List.getElem_toArray, List.getElem_cons_succ, List.getElem_cons_zero, List.setIfInBounds_toArray, List.set_cons_zero, List.set_cons_succ]
      refine wpAnyG_take (v := ?_) 6 (by rfl) (by kernel_rfl) (by kernel_rfl) (by kernel_rfl) (by kernel_rfl) (fun _ _ _ h => h) (Or.inl ⟨by rfl, ?_⟩) (by assumption) ?_
      rotate_left
      · (intro w' hSw; (try dsimp only at hSw); (try simp only [List.getElem_toArray, List.getElem_cons_succ, List.getElem_cons_zero]); go_simp; try (with_reducible rfl))
      simp only [Act.put, List.getElem_toArray, List.getElem_cons_succ, List.getElem_cons_zero, List.setIfInBounds_toArray, List.set_cons_zero, List.set_cons_succ]
      refine wpAnyG_take (v := ?_) 8 (by rfl) (by kernel_rfl) (by kernel_rfl) (by kernel_rfl) (by kernel_rfl) (fun _ _ _ h => h) (Or.inl ⟨by rfl, ?_⟩) (by assumption) ?_
      rotate_left
      · (intro w' hSw; (try dsimp only at hSw); (try simp only [List.getElem_toArray, List.getElem_cons_succ, List.getElem_cons_zero]); go_simp; try (with_reducible rfl))
      simp only [Act.put, List.getElem_toArray, List.getElem_cons_succ, List.getElem_cons_zero, List.setIfInBounds_toArray, List.set_cons_zero, List.set_cons_succ]
      refine wpAnyG_take (v := ?_) 9 (by rfl) (by kernel_rfl) (by kernel_rfl) (by kernel_rfl) (by kernel_rfl) (fun _ _ _ h => h) (Or.inl ⟨by rfl, ?_⟩) (by assumption) ?_
      rotate_left
      · (intro w' hSw; (try dsimp only at hSw); (try simp only [List.getElem_toArray, List.getElem_cons_succ, List.getElem_cons_zero]); go_simp; try (with_reducible rfl))
      simp only [Act.put, List.getElem_toArray, List.getElem_cons_succ, List.getElem_cons_zero, List.setIfInBounds_toArray, List.set_cons_zero, List.set_cons_succ]
      refine wpAnyG_ready [2, 7] (by kernel_rfl) (by simp) ?_
      refine AllReadyG.cons 2 (by rfl) (fun K hK => ?_) ?_
      · simp only [List.getElem_toArray, List.getElem_cons_succ, List.getElem_cons_zero]
        go_simp
        refine hK.out _ _ (unhide HS _ (by repeat (first | assumption | exact Below.refl _ _ | refine Below.drew ?_ | refine Below.alloc ?_ (by first | omega | (simp; done) | (simp; omega)) _))) (fun _ => ?_)
        clear hK K
        try simp only [Act.put, List.setIfInBounds_toArray, List.set_cons_zero, List.set_cons_succ]
        refine wpAnyG_ready [5, 7] (by kernel_rfl) (by simp) ?_
        refine AllReadyG.cons 5 (by rfl) (fun K hK => ?_) ?_
        · simp only [List.getElem_toArray, List.getElem_cons_succ, List.getElem_cons_zero]
          refine if_wanted (by rfl) (wp_app2 (w := (W3).alloc (.cells #[] 3)) _ _ (by rfl) W3.heap.size _ _ [] q.tail (by rfl) (by rfl) (own_lit (W3) W3.heap.size (W3.heap.size) 0 [] (by simp) rfl (by first | omega | (simp; done) | (simp; omega)) (by simp)) (unhide HU _ (by repeat (first | assumption | exact Below.refl _ _ | refine Below.drew ?_ | refine Below.alloc ?_ (by first | omega | (simp; done) | (simp; omega)) _))).1 q.tail.length (by simp) (unhide HLA) (by first | omega | (simp; done) | (simp; omega)) ?_)
          intro a5 c5 w5 hown5 hb5 hgr5 hloc5
          have hbb5 : Below W3.heap.size W3 w5 := Below.trans (by repeat (first | assumption | exact Below.refl _ _ | refine Below.drew ?_ | refine Below.alloc ?_ (by first | omega | (simp; done) | (simp; omega)) _)) hb5
          have hsz5 := hb5.size
          try simp only [World.size_alloc] at hsz5
          have hlt5 := fun k' hk' => (hown5.lt k' hk').2
          refine hK.out _ _ (unhide HS _ (by repeat (first | assumption | exact Below.refl _ _ | refine Below.drew ?_ | refine Below.alloc ?_ (by first | omega | (simp; done) | (simp; omega)) _))) (fun _ => ?_)
          clear hK K
          try simp only [Act.put, List.setIfInBounds_toArray, List.set_cons_zero, List.set_cons_succ]
          refine wpAnyG_ready [7] (by kernel_rfl) (by simp) ?_
          refine AllReadyG.cons 7 (by rfl) (fun K hK => ?_) ?_
          · simp only [List.getElem_toArray, List.getElem_cons_succ, List.getElem_cons_zero]
            go_simp
            refine hK.out _ _ (unhide HS _ (by repeat (first | assumption | exact Below.refl _ _ | refine Below.drew ?_ | refine Below.alloc ?_ (by first | omega | (simp; done) | (simp; omega)) _))) (fun _ => ?_)
            clear hK K
            try simp only [Act.put, List.setIfInBounds_toArray, List.set_cons_zero, List.set_cons_succ]
            refine wpAnyG_ready [10] (by kernel_rfl) (by simp) ?_
            refine AllReadyG.cons 10 (by rfl) (fun K hK => ?_) ?_
            · simp only [List.getElem_toArray, List.getElem_cons_succ, List.getElem_cons_zero]
              refine if_wanted (by rfl) (wp_app2 (w := (w5).alloc (.cells #[] 3)) _ _ (by rfl) W3.heap.size _ _ [] q.cap (by rfl) (by rfl) (own_lit (w5) W3.heap.size (w5.heap.size) 0 [] (by simp) rfl (by first | omega | (simp; done) | (simp; omega)) (by simp)) (unhide HU _ (by repeat (first | assumption | exact Below.refl _ _ | refine Below.drew ?_ | refine Below.alloc ?_ (by first | omega | (simp; done) | (simp; omega)) _))).2 q.cap.length (by simp) (unhide HLB) (by first | omega | (simp; done) | (simp; omega)) ?_)
              intro a6 c6 w6 hown6 hb6 hgr6 hloc6
              have hbb6 : Below W3.heap.size W3 w6 := Below.trans (by repeat (first | assumption | exact Below.refl _ _ | refine Below.drew ?_ | refine Below.alloc ?_ (by first | omega | (simp; done) | (simp; omega)) _)) hb6
              have hsz6 := hb6.size
              try simp only [World.size_alloc] at hsz6
              have hlt6 := fun k' hk' => (hown6.lt k' hk').2
              have hk6 := own_grown (World.ownsRow.alloc (hown5) _) hgr6 (by intro e; have e1 := hlt5 _ e; (try dsimp only at e1); rcases hloc5 with h | h <;> (rw [h] at e; have e2 := Option.some.inj e; (try dsimp only at e2) <;> (try simp only [World.size_alloc] at e2) <;> omega))
              refine hK.out _ _ (unhide HS _ (by repeat (first | assumption | exact Below.refl _ _ | refine Below.drew ?_ | refine Below.alloc ?_ (by first | omega | (simp; done) | (simp; omega)) _))) (fun _ => ?_)
              clear hK K
              try simp only [Act.put, List.setIfInBounds_toArray, List.set_cons_zero, List.set_cons_succ]
              have hBX : BoxAt w (w6) q.n (.slice ta q.tail.length tc) (.slice na q.next.length nc) (.slice ca q.cap.length cc) := (unhide hW3).below (by repeat (first | assumption | exact Below.refl _ _ | refine Below.drew ?_ | refine Below.alloc ?_ (by first | omega | (simp; done) | (simp; omega)) _))
              have hTf := own_base (hk6) hB2
              have hCf := own_base (hown6) hB2
              have hNf : OwnI (w6) (w.heap.size + 2) (.slice (some ⟨w.heap.size + 2, 0, none⟩) q.next.length q.next.length) L := own_below (unhide HOw) (by repeat (first | assumption | exact Below.refl _ _ | refine Below.drew ?_ | refine Below.alloc ?_ (by first | omega | (simp; done) | (simp; omega)) _))
              obtain ⟨y0, y1, y2, y3, f0, f1, f2, f3⟩ := obj_cells hBX.b2
              refine wpAnyG_take (v := ?_) 11 (by rfl) (by kernel_rfl) (by kernel_rfl) (by kernel_rfl) (by kernel_rfl) (fun _ _ _ h => h) (Or.inl ⟨by rfl, ?_⟩) (by assumption) ?_
              rotate_left
              · (intro w' hSw; (try dsimp only at hSw); (try simp only [List.getElem_toArray, List.getElem_cons_succ, List.getElem_cons_zero]); go_simp; try (with_reducible rfl))
              simp only [Act.put, List.getElem_toArray, List.getElem_cons_succ, List.getElem_cons_zero, List.setIfInBounds_toArray, List.set_cons_zero, List.set_cons_succ]
              refine wpAnyG_ready [12] (by kernel_rfl) (by simp) ?_
              refine AllReadyG.last 12 (by rfl) (by kernel_rfl) (fun K hK => ?_) ?_
              · simp only [List.getElem_toArray, List.getElem_cons_succ, List.getElem_cons_zero]
                go_simp
                refine hK.out _ _ ?_
                clear hK K
                try simp only [Act.put, List.setIfInBounds_toArray, List.set_cons_zero, List.set_cons_succ]
                refine wpAnyG_done (by kernel_rfl) ?_ _
                refine NoPanic.normal ?_
                go_wp2
                have hfin := box_done hBX q.n (.slice a5 q.tail.length c5) (.slice (some ⟨w.heap.size + 2, 0, none⟩) q.next.length q.next.length) (.slice a6 q.cap.length c6)
                have HT' := four_own hTf (show w.heap.size + 1 < w.heap.size + 2 by omega) q.n (.slice a5 q.tail.length c5) (.slice (some ⟨w.heap.size + 2, 0, none⟩) q.next.length q.next.length) (.slice a6 q.cap.length c6)
                have HN' := four_own hNf (show w.heap.size + 1 < w.heap.size + 2 by omega) q.n (.slice a5 q.tail.length c5) (.slice (some ⟨w.heap.size + 2, 0, none⟩) q.next.length q.next.length) (.slice a6 q.cap.length c6)
                have HC' := four_own hCf (show w.heap.size + 1 < w.heap.size + 2 by omega) q.n (.slice a5 q.tail.length c5) (.slice (some ⟨w.heap.size + 2, 0, none⟩) q.next.length q.next.length) (.slice a6 q.cap.length c6)
                have hbl' := four_below hBX.bel w.heap.size rfl q.n (.slice a5 q.tail.length c5) (.slice (some ⟨w.heap.size + 2, 0, none⟩) q.next.length q.next.length) (.slice a6 q.cap.length c6)
                clear y0 y1 y2 y3 f0 f1 f2 f3
                generalize ((((w6).setCell ⟨w.heap.size + 1, 0, none⟩ (.int .i64 q.n)).setCell ⟨w.heap.size + 1, 1, none⟩ (.slice a5 q.tail.length c5)).setCell ⟨w.heap.size + 1, 2, none⟩ (.slice (some ⟨w.heap.size + 2, 0, none⟩) q.next.length q.next.length)).setCell ⟨w.heap.size + 1, 3, none⟩ (.slice a6 q.cap.length c6) = WF at *
                obtain ⟨r0, r1, r2, r3, -, -, -, -⟩ := obj_cells hfin
                refine bodyPost_ret (v := .agg #[.int .i64 q.n, .slice a5 q.tail.length c5, .slice (some ⟨w.heap.size + 2, 0, none⟩) q.next.length q.next.length, .slice a6 q.cap.length c6]) (by simp [results, Try.results22, go_sem, r0, r1, r2, r3]) rfl ?_
                rw [unhide HP]
                exact ⟨_, _, _, rfl, own_base HT' (by omega), by rw [unhide HF]; exact own_base HN' (by omega), own_base HC' (by omega), hbl'⟩
              exact AllReadyG.nil
            exact AllReadyG.nil
          exact AllReadyG.nil
        refine AllReadyG.cons 7 (by rfl) (fun K hK => ?_) ?_
        · simp only [List.getElem_toArray, List.getElem_cons_succ, List.getElem_cons_zero]
          go_simp
          refine hK.out _ _ (unhide HS _ (by repeat (first | assumption | exact Below.refl _ _ | refine Below.drew ?_ | refine Below.alloc ?_ (by first | omega | (simp; done) | (simp; omega)) _))) (fun _ => ?_)
          clear hK K
          try simp only [Act.put, List.setIfInBounds_toArray, List.set_cons_zero, List.set_cons_succ]
          refine wpAnyG_ready [5] (by kernel_rfl) (by simp) ?_
          refine AllReadyG.cons 5 (by rfl) (fun K hK => ?_) ?_
          · simp only [List.getElem_toArray, List.getElem_cons_succ, List.getElem_cons_zero]
            refine if_wanted (by rfl) (wp_app2 (w := ((W3).alloc (.cells #[] 3)).alloc (.cells #[] 3)) _ _ (by rfl) W3.heap.size _ _ [] q.tail (by rfl) (by rfl) (World.ownsRow.alloc (own_lit (W3) W3.heap.size (W3.heap.size) 0 [] (by simp) rfl (by first | omega | (simp; done) | (simp; omega)) (by simp)) _) (unhide HU _ (by repeat (first | assumption | exact Below.refl _ _ | refine Below.drew ?_ | refine Below.alloc ?_ (by first | omega | (simp; done) | (simp; omega)) _))).1 q.tail.length (by simp) (unhide HLA) (by first | omega | (simp; done) | (simp; omega)) ?_)
            intro a7 c7 w7 hown7 hb7 hgr7 hloc7
            have hbb7 : Below W3.heap.size W3 w7 := Below.trans (by repeat (first | assumption | exact Below.refl _ _ | refine Below.drew ?_ | refine Below.alloc ?_ (by first | omega | (simp; done) | (simp; omega)) _)) hb7
            have hsz7 := hb7.size
            try simp only [World.size_alloc] at hsz7
            have hlt7 := fun k' hk' => (hown7.lt k' hk').2
            have hk7 := own_grown (own_lit ((W3).alloc (.cells #[] 3)) W3.heap.size (W3.heap.size + 1) 0 [] (by simp) rfl (by first | omega | (simp; done) | (simp; omega)) (by simp)) hgr7 (by intro e; have e2 := Option.some.inj e; (try dsimp only at e2) <;> (try simp only [World.size_alloc] at e2) <;> omega)
            refine hK.out _ _ (unhide HS _ (by repeat (first | assumption | exact Below.refl _ _ | refine Below.drew ?_ | refine Below.alloc ?_ (by first | omega | (simp; done) | (simp; omega)) _))) (fun _ => ?_)
            clear hK K
            try simp only [Act.put, List.setIfInBounds_toArray, List.set_cons_zero, List.set_cons_succ]
            refine wpAnyG_ready [10] (by kernel_rfl) (by simp) ?_
            refine AllReadyG.cons 10 (by rfl) (fun K hK => ?_) ?_
            · simp only [List.getElem_toArray, List.getElem_cons_succ, List.getElem_cons_zero]
              refine if_wanted (by rfl) (wp_app2 (w := w7) _ _ (by rfl) W3.heap.size _ _ [] q.cap (by rfl) (by rfl) (hk7) (unhide HU _ (by repeat (first | assumption | exact Below.refl _ _ | refine Below.drew ?_ | refine Below.alloc ?_ (by first | omega | (simp; done) | (simp; omega)) _))).2 q.cap.length (by simp) (unhide HLB) (by first | omega | (simp; done) | (simp; omega)) ?_)
              intro a8 c8 w8 hown8 hb8 hgr8 hloc8
              have hbb8 : Below W3.heap.size W3 w8 := Below.trans (by repeat (first | assumption | exact Below.refl _ _ | refine Below.drew ?_ | refine Below.alloc ?_ (by first | omega | (simp; done) | (simp; omega)) _)) hb8
              have hsz8 := hb8.size
              try simp only [World.size_alloc] at hsz8
              have hlt8 := fun k' hk' => (hown8.lt k' hk').2
              have hk8 := own_grown (hown7) hgr8 (by intro e; have e1 := hlt7 _ e; (try dsimp only at e1); rcases hloc7 with h | h <;> (rw [h] at e; have e2 := Option.some.inj e; (try dsimp only at e2) <;> (try simp only [World.size_alloc] at e2) <;> omega))
              refine hK.out _ _ (unhide HS _ (by repeat (first | assumption | exact Below.refl _ _ | refine Below.drew ?_ | refine Below.alloc ?_ (by first | omega | (simp; done) | (simp; omega)) _))) (fun _ => ?_)
              clear hK K
              try simp only [Act.put, List.setIfInBounds_toArray, List.set_cons_zero, List.set_cons_succ]
              have hBX : BoxAt w (w8) q.n (.slice ta q.tail.length tc) (.slice na q.next.length nc) (.slice ca q.cap.length cc) := (unhide hW3).below (by repeat (first | assumption | exact Below.refl _ _ | refine Below.drew ?_ | refine Below.alloc ?_ (by first | omega | (simp; done) | (simp; omega)) _))
              have hTf := own_base (hk8) hB2
              have hCf := own_base (hown8) hB2
              have hNf : OwnI (w8) (w.heap.size + 2) (.slice (some ⟨w.heap.size + 2, 0, none⟩) q.next.length q.next.length) L := own_below (unhide HOw) (by repeat (first | assumption | exact Below.refl _ _ | refine Below.drew ?_ | refine Below.alloc ?_ (by first | omega | (simp; done) | (simp; omega)) _))
              obtain ⟨y0, y1, y2, y3, f0, f1, f2, f3⟩ := obj_cells hBX.b2
              refine wpAnyG_take (v := ?_) 11 (by rfl) (by kernel_rfl) (by kernel_rfl) (by kernel_rfl) (by kernel_rfl) (fun _ _ _ h => h) (Or.inl ⟨by rfl, ?_⟩) (by assumption) ?_
              rotate_left
              · (intro w' hSw; (try dsimp only at hSw); (try simp only [List.getElem_toArray, List.getElem_cons_succ, List.getElem_cons_zero]); go_simp; try (with_reducible rfl))
              simp only [Act.put, List.getElem_toArray, List.getElem_cons_succ, List.getElem_cons_zero, List.setIfInBounds_toArray, List.set_cons_zero, List.set_cons_succ]
              refine wpAnyG_ready [12] (by kernel_rfl) (by simp) ?_
              refine AllReadyG.last 12 (by rfl) (by kernel_rfl) (fun K hK => ?_) ?_
              · simp only [List.getElem_toArray, List.getElem_cons_succ, List.getElem_cons_zero]
                go_simp
                refine hK.out _ _ ?_
                clear hK K
                try simp only [Act.put, List.setIfInBounds_toArray, List.set_cons_zero, List.set_cons_succ]
                refine wpAnyG_done (by kernel_rfl) ?_ _
                refine NoPanic.normal ?_
                go_wp2
                have hfin := box_done hBX q.n (.slice a7 q.tail.length c7) (.slice (some ⟨w.heap.size + 2, 0, none⟩) q.next.length q.next.length) (.slice a8 q.cap.length c8)
                have HT' := four_own hTf (show w.heap.size + 1 < w.heap.size + 2 by omega) q.n (.slice a7 q.tail.length c7) (.slice (some ⟨w.heap.size + 2, 0, none⟩) q.next.length q.next.length) (.slice a8 q.cap.length c8)
                have HN' := four_own hNf (show w.heap.size + 1 < w.heap.size + 2 by omega) q.n (.slice a7 q.tail.length c7) (.slice (some ⟨w.heap.size + 2, 0, none⟩) q.next.length q.next.length) (.slice a8 q.cap.length c8)
                have HC' := four_own hCf (show w.heap.size + 1 < w.heap.size + 2 by omega) q.n (.slice a7 q.tail.length c7) (.slice (some ⟨w.heap.size + 2, 0, none⟩) q.next.length q.next.length) (.slice a8 q.cap.length c8)
                have hbl' := four_below hBX.bel w.heap.size rfl q.n (.slice a7 q.tail.length c7) (.slice (some ⟨w.heap.size + 2, 0, none⟩) q.next.length q.next.length) (.slice a8 q.cap.length c8)
                clear y0 y1 y2 y3 f0 f1 f2 f3
                generalize ((((w8).setCell ⟨w.heap.size + 1, 0, none⟩ (.int .i64 q.n)).setCell ⟨w.heap.size + 1, 1, none⟩ (.slice a7 q.tail.length c7)).setCell ⟨w.heap.size + 1, 2, none⟩ (.slice (some ⟨w.heap.size + 2, 0, none⟩) q.next.length q.next.length)).setCell ⟨w.heap.size + 1, 3, none⟩ (.slice a8 q.cap.length c8) = WF at *
                obtain ⟨r0, r1, r2, r3, -, -, -, -⟩ := obj_cells hfin
                refine bodyPost_ret (v := .agg #[.int .i64 q.n, .slice a7 q.tail.length c7, .slice (some ⟨w.heap.size + 2, 0, none⟩) q.next.length q.next.length, .slice a8 q.cap.length c8]) (by simp [results, Try.results22, go_sem, r0, r1, r2, r3]) rfl ?_
                rw [unhide HP]
                exact ⟨_, _, _, rfl, own_base HT' (by omega), by rw [unhide HF]; exact own_base HN' (by omega), own_base HC' (by omega), hbl'⟩
              exact AllReadyG.nil
            exact AllReadyG.nil
          exact AllReadyG.nil
        exact AllReadyG.nil
      refine AllReadyG.cons 7 (by rfl) (fun K hK => ?_) ?_
      · simp only [List.getElem_toArray, List.getElem_cons_succ, List.getElem_cons_zero]
        go_simp
        refine hK.out _ _ (unhide HS _ (by repeat (first | assumption | exact Below.refl _ _ | refine Below.drew ?_ | refine Below.alloc ?_ (by first | omega | (simp; done) | (simp; omega)) _))) (fun _ => ?_)
        clear hK K
        try simp only [Act.put, List.setIfInBounds_toArray, List.set_cons_zero, List.set_cons_succ]
        refine wpAnyG_ready [2] (by kernel_rfl) (by simp) ?_
        refine AllReadyG.cons 2 (by rfl) (fun K hK => ?_) ?_
        · simp only [List.getElem_toArray, List.getElem_cons_succ, List.getElem_cons_zero]
          go_simp
          refine hK.out _ _ (unhide HS _ (by repeat (first | assumption | exact Below.refl _ _ | refine Below.drew ?_ | refine Below.alloc ?_ (by first | omega | (simp; done) | (simp; omega)) _))) (fun _ => ?_)
          clear hK K
          try simp only [Act.put, List.setIfInBounds_toArray, List.set_cons_zero, List.set_cons_succ]
          refine wpAnyG_ready [5] (by kernel_rfl) (by simp) ?_
          refine AllReadyG.cons 5 (by rfl) (fun K hK => ?_) ?_
          · simp only [List.getElem_toArray, List.getElem_cons_succ, List.getElem_cons_zero]
            refine if_wanted (by rfl) (wp_app2 (w := ((W3).alloc (.cells #[] 3)).alloc (.cells #[] 3)) _ _ (by rfl) W3.heap.size _ _ [] q.tail (by rfl) (by rfl) (own_lit ((W3).alloc (.cells #[] 3)) W3.heap.size (W3.heap.size + 1) 0 [] (by simp) rfl (by first | omega | (simp; done) | (simp; omega)) (by simp)) (unhide HU _ (by repeat (first | assumption | exact Below.refl _ _ | refine Below.drew ?_ | refine Below.alloc ?_ (by first | omega | (simp; done) | (simp; omega)) _))).1 q.tail.length (by simp) (unhide HLA) (by first | omega | (simp; done) | (simp; omega)) ?_)
            intro a9 c9 w9 hown9 hb9 hgr9 hloc9
            have hbb9 : Below W3.heap.size W3 w9 := Below.trans (by repeat (first | assumption | exact Below.refl _ _ | refine Below.drew ?_ | refine Below.alloc ?_ (by first | omega | (simp; done) | (simp; omega)) _)) hb9
            have hsz9 := hb9.size
            try simp only [World.size_alloc] at hsz9
            have hlt9 := fun k' hk' => (hown9.lt k' hk').2
            have hk9 := own_grown (World.ownsRow.alloc (own_lit (W3) W3.heap.size (W3.heap.size) 0 [] (by simp) rfl (by first | omega | (simp; done) | (simp; omega)) (by simp)) _) hgr9 (by intro e; have e2 := Option.some.inj e; (try dsimp only at e2) <;> (try simp only [World.size_alloc] at e2) <;> omega)
            refine hK.out _ _ (unhide HS _ (by repeat (first | assumption | exact Below.refl _ _ | refine Below.drew ?_ | refine Below.alloc ?_ (by first | omega | (simp; done) | (simp; omega)) _))) (fun _ => ?_)
            clear hK K
            try simp only [Act.put, List.setIfInBounds_toArray, List.set_cons_zero, List.set_cons_succ]
            refine wpAnyG_ready [10] (by kernel_rfl) (by simp) ?_
            refine AllReadyG.cons 10 (by rfl) (fun K hK => ?_) ?_
            · simp only [List.getElem_toArray, List.getElem_cons_succ, List.getElem_cons_zero]
              refine if_wanted (by rfl) (wp_app2 (w := w9) _ _ (by rfl) W3.heap.size _ _ [] q.cap (by rfl) (by rfl) (hk9) (unhide HU _ (by repeat (first | assumption | exact Below.refl _ _ | refine Below.drew ?_ | refine Below.alloc ?_ (by first | omega | (simp; done) | (simp; omega)) _))).2 q.cap.length (by simp) (unhide HLB) (by first | omega | (simp; done) | (simp; omega)) ?_)
              intro a10 c10 w10 hown10 hb10 hgr10 hloc10
              have hbb10 : Below W3.heap.size W3 w10 := Below.trans (by repeat (first | assumption | exact Below.refl _ _ | refine Below.drew ?_ | refine Below.alloc ?_ (by first | omega | (simp; done) | (simp; omega)) _)) hb10
              have hsz10 := hb10.size
              try simp only [World.size_alloc] at hsz10
              have hlt10 := fun k' hk' => (hown10.lt k' hk').2
              have hk10 := own_grown (hown9) hgr10 (by intro e; have e1 := hlt9 _ e; (try dsimp only at e1); rcases hloc9 with h | h <;> (rw [h] at e; have e2 := Option.some.inj e; (try dsimp only at e2) <;> (try simp only [World.size_alloc] at e2) <;> omega))
              refine hK.out _ _ (unhide HS _ (by repeat (first | assumption | exact Below.refl _ _ | refine Below.drew ?_ | refine Below.alloc ?_ (by first | omega | (simp; done) | (simp; omega)) _))) (fun _ => ?_)
              clear hK K
              try simp only [Act.put, List.setIfInBounds_toArray, List.set_cons_zero, List.set_cons_succ]
              have hBX : BoxAt w (w10) q.n (.slice ta q.tail.length tc) (.slice na q.next.length nc) (.slice ca q.cap.length cc) := (unhide hW3).below (by repeat (first | assumption | exact Below.refl _ _ | refine Below.drew ?_ | refine Below.alloc ?_ (by first | omega | (simp; done) | (simp; omega)) _))
              have hTf := own_base (hk10) hB2
              have hCf := own_base (hown10) hB2
              have hNf : OwnI (w10) (w.heap.size + 2) (.slice (some ⟨w.heap.size + 2, 0, none⟩) q.next.length q.next.length) L := own_below (unhide HOw) (by repeat (first | assumption | exact Below.refl _ _ | refine Below.drew ?_ | refine Below.alloc ?_ (by first | omega | (simp; done) | (simp; omega)) _))
              obtain ⟨y0, y1, y2, y3, f0, f1, f2, f3⟩ := obj_cells hBX.b2
              refine wpAnyG_take (v := ?_) 11 (by rfl) (by kernel_rfl) (by kernel_rfl) (by kernel_rfl) (by kernel_rfl) (fun _ _ _ h => h) (Or.inl ⟨by rfl, ?_⟩) (by assumption) ?_
              rotate_left
              · (intro w' hSw; (try dsimp only at hSw); (try simp only [List.getElem_toArray, List.getElem_cons_succ, List.getElem_cons_zero]); go_simp; try (with_reducible rfl))
              simp only [Act.put, List.getElem_toArray, List.getElem_cons_succ, List.getElem_cons_zero, List.setIfInBounds_toArray, List.set_cons_zero, List.set_cons_succ]
              refine wpAnyG_ready [12] (by kernel_rfl) (by simp) ?_
              refine AllReadyG.last 12 (by rfl) (by kernel_rfl) (fun K hK => ?_) ?_
              · simp only [List.getElem_toArray, List.getElem_cons_succ, List.getElem_cons_zero]
                go_simp
                refine hK.out _ _ ?_
                clear hK K
                try simp only [Act.put, List.setIfInBounds_toArray, List.set_cons_zero, List.set_cons_succ]
                refine wpAnyG_done (by kernel_rfl) ?_ _
                refine NoPanic.normal ?_
                go_wp2
                have hfin := box_done hBX q.n (.slice a9 q.tail.length c9) (.slice (some ⟨w.heap.size + 2, 0, none⟩) q.next.length q.next.length) (.slice a10 q.cap.length c10)
                have HT' := four_own hTf (show w.heap.size + 1 < w.heap.size + 2 by omega) q.n (.slice a9 q.tail.length c9) (.slice (some ⟨w.heap.size + 2, 0, none⟩) q.next.length q.next.length) (.slice a10 q.cap.length c10)
                have HN' := four_own hNf (show w.heap.size + 1 < w.heap.size + 2 by omega) q.n (.slice a9 q.tail.length c9) (.slice (some ⟨w.heap.size + 2, 0, none⟩) q.next.length q.next.length) (.slice a10 q.cap.length c10)
                have HC' := four_own hCf (show w.heap.size + 1 < w.heap.size + 2 by omega) q.n (.slice a9 q.tail.length c9) (.slice (some ⟨w.heap.size + 2, 0, none⟩) q.next.length q.next.length) (.slice a10 q.cap.length c10)
                have hbl' := four_below hBX.bel w.heap.size rfl q.n (.slice a9 q.tail.length c9) (.slice (some ⟨w.heap.size + 2, 0, none⟩) q.next.length q.next.length) (.slice a10 q.cap.length c10)
                clear y0 y1 y2 y3 f0 f1 f2 f3
                generalize ((((w10).setCell ⟨w.heap.size + 1, 0, none⟩ (.int .i64 q.n)).setCell ⟨w.heap.size + 1, 1, none⟩ (.slice a9 q.tail.length c9)).setCell ⟨w.heap.size + 1, 2, none⟩ (.slice (some ⟨w.heap.size + 2, 0, none⟩) q.next.length q.next.length)).setCell ⟨w.heap.size + 1, 3, none⟩ (.slice a10 q.cap.length c10) = WF at *
                obtain ⟨r0, r1, r2, r3, -, -, -, -⟩ := obj_cells hfin
                refine bodyPost_ret (v := .agg #[.int .i64 q.n, .slice a9 q.tail.length c9, .slice (some ⟨w.heap.size + 2, 0, none⟩) q.next.length q.next.length, .slice a10 q.cap.length c10]) (by simp [results, Try.results22, go_sem, r0, r1, r2, r3]) rfl ?_
                rw [unhide HP]
                exact ⟨_, _, _, rfl, own_base HT' (by omega), by rw [unhide HF]; exact own_base HN' (by omega), own_base HC' (by omega), hbl'⟩
              exact AllReadyG.nil
            exact AllReadyG.nil
          exact AllReadyG.nil
        exact AllReadyG.nil
      exact AllReadyG.nil
end Go.Proofs.Ytoegjnolccabjaa


