/- The walk of the law NetApart. -/
import Derived.Test.YtdbloaigbjfadaaDoorNE1
namespace Go.Proofs.YtdbloaigbjfadaaDoor
open Go Go.RowKit

/-- Two nets that lie in blocks of their own, one behind the other. -/
theorem two_boxes (w w' : World) (n m : Int) (a b c a' b' c' : Value) (hb : Below (w.heap.size + 2) ((w.alloc (.cells #[.int .i64 n, a, b, c] 34)).alloc (.cells #[.int .i64 m, a', b', c'] 34)) w') :
    w'.cell? ⟨w.heap.size, 0, none⟩ = some (.int .i64 n) ∧ w'.cell? ⟨w.heap.size, 1, none⟩ = some a ∧ w'.cell? ⟨w.heap.size, 2, none⟩ = some b ∧ w'.cell? ⟨w.heap.size, 3, none⟩ = some c ∧
    w'.cell? ⟨w.heap.size + 1, 0, none⟩ = some (.int .i64 m) ∧ w'.cell? ⟨w.heap.size + 1, 1, none⟩ = some a' ∧ w'.cell? ⟨w.heap.size + 1, 2, none⟩ = some b' ∧ w'.cell? ⟨w.heap.size + 1, 3, none⟩ = some c' := by
  have h1 := MakeAt.start2 w n m a b c a' b' c'
  obtain ⟨x0, x1, x2, x3, -⟩ := obj_cells h1.1
  obtain ⟨y0, y1, y2, y3, -⟩ := obj_cells h1.2
  exact ⟨(hb.cell (by show w.heap.size < _; omega)).trans x0, (hb.cell (by show w.heap.size < _; omega)).trans x1, (hb.cell (by show w.heap.size < _; omega)).trans x2, (hb.cell (by show w.heap.size < _; omega)).trans x3,
    (hb.cell (by show w.heap.size + 1 < _; omega)).trans y0, (hb.cell (by show w.heap.size + 1 < _; omega)).trans y1, (hb.cell (by show w.heap.size + 1 < _; omega)).trans y2, (hb.cell (by show w.heap.size + 1 < _; omega)).trans y3⟩
set_option maxRecDepth 100000 in
set_option maxHeartbeats 1000000 in
theorem netApart_any (size other : Int) (ns ms : List Int) (x y : Value) (w : World) (hx : Ints w x ns) (hi64 : ∀ y ∈ ns, -9223372036854775808 ≤ y ∧ y ≤ 9223372036854775807) (hy : Ints w y ms) (hj64 : ∀ y ∈ ms, -9223372036854775808 ≤ y ∧ y ≤ 9223372036854775807) (hr : Rt w) :
    Calls Tryd.prog 6 #[.int .i64 size, x, .int .i64 other, y] w fun e w' => e = .returned (.bool true) ∧ Below w.heap.size w w' := by
  have HK := hide (known_any w hr)
  have HM1 := hide (fun w' (hb : Below w.heap.size w w') => make_any size ns x w' (hx.below hb) hx.len hi64)
  have HM2 := hide (fun w' (hb : Below w.heap.size w w') => make_any other ms y w' (hy.below hb) hy.len hj64)
  have Hr := hide hr; clear hr
  obtain ⟨ax, cx, rfl, -, -⟩ := hx.form
  obtain ⟨ay, cy, rfl, -, -⟩ := hy.form
  clear hx hi64 hy hj64
  obtain ⟨pw, pn8, pt40⟩ := Sp.make_whole size ns
  obtain ⟨qw, qn8, qt40⟩ := Sp.make_whole other ms
  generalize Sp.make size ns = p at *
  generalize Sp.make other ms = q at *
  have HA := hide (Sp.text_apart p q pw qw (Sp.text_short p pw pn8 pt40) (Sp.text_short q qw qn8 qt40))
  have Hp := hide pw
  have Hq := hide qw
  have pn0 := pw.lists.n0
  have qn0 := qw.lists.n0
  clear pw qw
  go_enter Tryd.func6, Tryd.ntmps6
  go_wp2_with fail
  refine (unhide HK).mono ?_
  rintro e w1 ⟨rfl, hb1⟩
  clear HK
  go_wp2_with fail
  refine (unhide HM1 _ hb1).mono ?_
  rintro e w2 ⟨u, tu, nu, cu, rfl, hU, hb2⟩
  have hb2' : Below w.heap.size w w2 := hb1.trans (hb2.mono hb1.size)
  obtain ⟨rfl, u1, u2, u3, -, -, -⟩ := hU
  have HU2 := hide (NetI.mk rfl u1.ints u2.ints u3.ints : NetI w2 (.agg #[.int .i64 p.n, tu, nu, cu]) p tu nu cu)
  obtain ⟨ta, tc, rfl, -, -⟩ := u1.ints.form
  obtain ⟨na, nc, rfl, -, -⟩ := u2.ints.form
  obtain ⟨ca, cc, rfl, -, -⟩ := u3.ints.form
  clear u1 u2 u3 hb1 hb2 HM1
  go_wp2_with fail
  refine (unhide HM2 _ hb2').mono ?_
  rintro e w3 ⟨v, tv, nv, cv, rfl, hV, hb3⟩
  have hb3' : Below w.heap.size w w3 := hb2'.trans (hb3.mono hb2'.size)
  obtain ⟨rfl, u1, u2, u3, -, -, -⟩ := hV
  have HV3 := hide (NetI.mk rfl u1.ints u2.ints u3.ints : NetI w3 (.agg #[.int .i64 q.n, tv, nv, cv]) q tv nv cv)
  have HU3 := hide ((unhide HU2).below hb3)
  obtain ⟨ta', tc', rfl, -, -⟩ := u1.ints.form
  obtain ⟨na', nc', rfl, -, -⟩ := u2.ints.form
  obtain ⟨ca', cc', rfl, -, -⟩ := u3.ints.form
  clear u1 u2 u3 hb3 hb2' HM2 HU2
  go_wp2
  have HBX := hide (two_boxes w3 · p.n q.n (.slice ta p.tail.length tc) (.slice na p.next.length nc) (.slice ca p.cap.length cc) (.slice ta' q.tail.length tc') (.slice na' q.next.length nc') (.slice ca' q.cap.length cc'))
  have hbX : Below w3.heap.size w3 ((w3.alloc (.cells #[.int .i64 p.n, .slice ta p.tail.length tc, .slice na p.next.length nc, .slice ca p.cap.length cc] 34)).alloc (.cells #[.int .i64 q.n, .slice ta' q.tail.length tc', .slice na' q.next.length nc', .slice ca' q.cap.length cc'] 34)) := ((Below.refl _ _).alloc (Nat.le_refl _) _).alloc (by simp) _
  have hszX : ((w3.alloc (.cells #[.int .i64 p.n, .slice ta p.tail.length tc, .slice na p.next.length nc, .slice ca p.cap.length cc] 34)).alloc (.cells #[.int .i64 q.n, .slice ta' q.tail.length tc', .slice na' q.next.length nc', .slice ca' q.cap.length cc'] 34)).heap.size = w3.heap.size + 2 := by simp
  generalize (w3.alloc (.cells #[.int .i64 p.n, .slice ta p.tail.length tc, .slice na p.next.length nc, .slice ca p.cap.length cc] 34)).alloc (.cells #[.int .i64 q.n, .slice ta' q.tail.length tc', .slice na' q.next.length nc', .slice ca' q.cap.length cc'] 34) = WX at *
  have HW : Hid (∀ w', Below (w3.heap.size + 2) WX w' → Below w3.heap.size w3 w' ∧ Below w.heap.size w w' ∧ w3.heap.size + 2 ≤ w'.heap.size) := hide fun w' hb => by
    have h1 := hbX.trans (hb.mono (by omega))
    have := hb.size
    exact ⟨h1, hb3'.trans (h1.mono hb3'.size), by omega⟩
  have HT1 : Hid (∀ w', Below (w3.heap.size + 2) WX w' → Calls Tryd.prog 22 #[.agg #[.int .i64 p.n, .slice ta p.tail.length tc, .slice na p.next.length nc, .slice ca p.cap.length cc]] w' fun e w'' => e = .returned (.string ⟨(Sp.textOf p).toArray⟩) ∧ Below (w3.heap.size + 2) WX w'') := hide fun w' hb => by
    refine (text_any p _ _ _ _ w' ((unhide HU3).below (unhide HW _ hb).1) (unhide Hp).lists (unhide Hp).next ((unhide Hr).below (unhide HW _ hb).2.1 (Nat.le_refl _))).mono ?_
    rintro e w'' ⟨s, rfl, hs, hb'⟩
    exact ⟨by rw [ba_ext (unhide hs)], hb.trans (hb'.mono (unhide HW _ hb).2.2)⟩
  have HT2 : Hid (∀ w', Below (w3.heap.size + 2) WX w' → Calls Tryd.prog 22 #[.agg #[.int .i64 q.n, .slice ta' q.tail.length tc', .slice na' q.next.length nc', .slice ca' q.cap.length cc']] w' fun e w'' => e = .returned (.string ⟨(Sp.textOf q).toArray⟩) ∧ Below (w3.heap.size + 2) WX w'') := hide fun w' hb => by
    refine (text_any q _ _ _ _ w' ((unhide HV3).below (unhide HW _ hb).1) (unhide Hq).lists (unhide Hq).next ((unhide Hr).below (unhide HW _ hb).2.1 (Nat.le_refl _))).mono ?_
    rintro e w'' ⟨s, rfl, hs, hb'⟩
    exact ⟨by rw [ba_ext (unhide hs)], hb.trans (hb'.mono (unhide HW _ hb).2.2)⟩
  have HSm : Hid (∀ w', Below (w3.heap.size + 2) WX w' → Calls Tryd.prog 21 #[.agg #[.int .i64 p.n, .slice ta p.tail.length tc, .slice na p.next.length nc, .slice ca p.cap.length cc], .agg #[.int .i64 q.n, .slice ta' q.tail.length tc', .slice na' q.next.length nc', .slice ca' q.cap.length cc']] w' fun e w'' => e = .returned (.bool (netEq p q)) ∧ Below (w3.heap.size + 2) WX w'') := hide fun w' hb => by
    have p1 := (unhide Hp).lists.nl
    have p2 := (unhide Hp).lists.cl
    have q1 := (unhide Hq).lists.nl
    have q2 := (unhide Hq).lists.cl
    refine (same_any p q _ _ _ _ _ _ _ _ w' ((unhide HU3).below (unhide HW _ hb).1) ((unhide HV3).below (unhide HW _ hb).1) (by omega) (by omega)).mono ?_
    rintro e w'' ⟨rfl, hb'⟩
    exact ⟨rfl, hb.trans (hb'.mono (unhide HW _ hb).2.2)⟩
  have HEQ : Hid (((Sp.textOf p) == (Sp.textOf q)) = netEq p q) := hide (by
    rw [Bool.eq_iff_iff, beq_iff_eq, netEq_iff]; exact unhide HA)
  generalize netEq p q = EQ at *
  have hb0 : Below (w3.heap.size + 2) WX WX := Below.refl _ _
  have HT2' : Hid (∀ e (w' : World), (e = Ending.returned (.string ⟨(Sp.textOf p).toArray⟩) ∧ Below (w3.heap.size + 2) WX w') → Below (w3.heap.size + 2) WX w') := hide fun _ _ h => h.2
  clear HU3 HV3 hbX hszX hb3' Hp Hq HA
  go_region_held3 (fun w' => w'.cell? ⟨w3.heap.size, 0, none⟩ = some (.int .i64 p.n) ∧ w'.cell? ⟨w3.heap.size, 1, none⟩ = some (.slice ta p.tail.length tc) ∧ w'.cell? ⟨w3.heap.size, 2, none⟩ = some (.slice na p.next.length nc) ∧ w'.cell? ⟨w3.heap.size, 3, none⟩ = some (.slice ca p.cap.length cc) ∧
      w'.cell? ⟨w3.heap.size + 1, 0, none⟩ = some (.int .i64 q.n) ∧ w'.cell? ⟨w3.heap.size + 1, 1, none⟩ = some (.slice ta' q.tail.length tc') ∧ w'.cell? ⟨w3.heap.size + 1, 2, none⟩ = some (.slice na' q.next.length nc') ∧ w'.cell? ⟨w3.heap.size + 1, 3, none⟩ = some (.slice ca' q.cap.length cc'))
    (first
      | exact unhide HBX _ hb6
      | exact unhide HBX _ hb5
      | exact unhide HBX _ hb4
      | exact unhide HBX _ hb0.drew)
    (first
      | (go_at_call 21
         refine (unhide HSm _ hb5).mono ?_
         rintro e w6 ⟨rfl, hb6⟩)
      | (go_at_call 22
         refine (unhide HT2 _ hb4).mono ?_
         rintro e w5 ⟨rfl, hb5⟩)
      | (go_at_call 22
         refine (unhide HT1 _ hb0.drew).mono ?_
         rintro e w4 ⟨rfl, hb4⟩))
  all_goals
    go_wp2
    go_ret
    exact ⟨by rw [unhide HEQ, beq_self_eq_true]; rfl, (unhide HW _ hb6).2.1⟩
end Go.Proofs.YtdbloaigbjfadaaDoor
