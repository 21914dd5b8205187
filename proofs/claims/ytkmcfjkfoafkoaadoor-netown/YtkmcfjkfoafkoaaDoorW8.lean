/- The walk of the draft's edge where nothing is wrong. -/
import Derived.Test.YtkmcfjkfoafkoaaDoorW7
namespace Go.Proofs.YtkmcfjkfoafkoaaDoor
open Go.RowKit

theorem alloc2_at (w : World) (ob : Obj) (n : Nat) (o : Obj) : (((w.alloc ob).drewN n).alloc o).heap[w.heap.size + 1]? = some o := by
  have h := heap_alloc_new ((w.alloc ob).drewN n) o
  have e : ((w.alloc ob).drewN n).heap.size = w.heap.size + 1 := by show (w.alloc ob).heap.size = _; simp
  rw [e] at h; exact h
theorem size2 (w : World) (ob : Obj) (n : Nat) (o : Obj) : (((w.alloc ob).drewN n).alloc o).heap.size = w.heap.size + 1 + 1 := by
  show ((w.alloc ob).alloc o).heap.size = _
  simp
theorem alloc_set_at (w : World) (a : Addr) (u : Value) (o : Obj) : ((w.setCell a u).alloc o).heap[w.heap.size]? = some o := by
  have h := heap_alloc_new (w.setCell a u) o
  rw [World.size_setCell] at h; exact h
set_option maxRecDepth 100000 in
set_option maxHeartbeats 2000000 in
theorem edge_good (q : Sp.Net) (p base : Nat) (tv nv cv x : Value) (s : ByteArray) (y0 y1 y2 y3 : Int) (w : World) (hd : DraftAt w p base q tv nv cv) (hN : Ints w x [y0, y1, y2, y3]) (hq : q.tail.length ≤ 240) (hqn : q.next.length ≤ 240) (hqc : q.cap.length ≤ 240) (hE : Sp.edgeE q (s.data.toList, [y0, y1, y2, y3]) = 0) :
    Calls Tryd.prog 35 #[.pointer (some ⟨p, 0, none⟩), .agg #[.string s, x]] w fun e w' => e = .returned (.int .i64 0) ∧ Keep p base w w' ∧ ∃ tv' nv' cv', DraftAt w' p base (Sp.edge q (s.data.toList, [y0, y1, y2, y3])) tv' nv' cv' := by
  obtain ⟨b, o, c, rfl, hc, hm, hbl, hcell⟩ := hN.at (by simp)
  have hb1 : ∀ ob, Below w.heap.size w (w.alloc ob) := fun ob => (Below.refl _ w).alloc (Nat.le_refl _) ob
  have g0 : ∀ ob, (w.alloc ob).cell? ⟨b, o, none⟩ = some (.int .i64 y0) := fun ob => ((hb1 ob).cell (by exact hbl)).trans (hcell 0 (by simp))
  have g1 : ∀ ob, (w.alloc ob).cell? ⟨b, o + 1, none⟩ = some (.int .i64 y1) := fun ob => ((hb1 ob).cell (by exact hbl)).trans (hcell 1 (by simp))
  have g2 : ∀ ob, (w.alloc ob).cell? ⟨b, o + 2, none⟩ = some (.int .i64 y2) := fun ob => ((hb1 ob).cell (by exact hbl)).trans (hcell 2 (by simp))
  have g3 : ∀ ob, (w.alloc ob).cell? ⟨b, o + 3, none⟩ = some (.int .i64 y3) := fun ob => ((hb1 ob).cell (by exact hbl)).trans (hcell 3 (by simp))
  have hle := hd.le
  have hlt := hd.lt
  have hps : p < w.heap.size := by omega
  obtain ⟨d0, d1, d2, d3, e0, e1, e2, e3⟩ := hd.cells
  have k0 : ∀ ob, (w.alloc ob).cell? ⟨p, 0, none⟩ = some (.int .i64 q.n) := fun ob => ((hb1 ob).cell (by exact hps)).trans d0
  obtain ⟨at_, ct, hvt, hct, hmt, _⟩ := hd.tail.ints
  have k1 : ∀ ob, (w.alloc ob).cell? ⟨p, 1, none⟩ = some (.slice at_ q.tail.length ct) := fun ob => ((hb1 ob).cell (by exact hps)).trans (d1.trans (by rw [hvt]))
  subst hvt
  clear hcell d0 d1 d2 d3 e0 e1 e2 e3
  have Hd := hide hd; clear hd
  have HQ : Hid (Sp.edge q (s.data.toList, [y0, y1, y2, y3]) = ⟨q.n, q.tail ++ [y0, y1], q.next ++ [-1, -1], q.cap ++ [y2, y3]⟩) := hide rfl
  generalize Sp.edge q (s.data.toList, [y0, y1, y2, y3]) = q' at *
  have hE' : q.tail.length ≠ 240 ∧ ¬ (q.n ≤ y0 ∨ q.n ≤ y1) ∧ ¬ (2147483648 < y2 ∨ 2147483648 < y3) := by
    have e : Sp.edgeE q (s.data.toList, [y0, y1, y2, y3]) = if q.tail.length = 240 then 2 else if q.n ≤ y0 ∨ q.n ≤ y1 then 3 else if 2147483648 < y2 ∨ 2147483648 < y3 then 4 else 0 := rfl
    rw [e] at hE
    by_cases a1 : q.tail.length = 240
    · rw [if_pos a1] at hE; cases hE
    · rw [if_neg a1] at hE
      by_cases a2 : q.n ≤ y0 ∨ q.n ≤ y1
      · rw [if_pos a2] at hE; cases hE
      · rw [if_neg a2] at hE
        by_cases a3 : 2147483648 < y2 ∨ 2147483648 < y3
        · rw [if_pos a3] at hE; cases hE
        · exact ⟨a1, a2, a3⟩
  clear hE
  obtain ⟨h240, hbv, hcv⟩ := hE'
  have h240' : ((q.tail.length : Int) == 240) = false := beq_eq_false_iff_ne.2 (by omega)
  have h1 : ¬ q.n ≤ y0 := fun h => hbv (.inl h)
  have h2 : ¬ q.n ≤ y1 := fun h => hbv (.inr h)
  have h3 : ¬ 2147483648 < y2 := fun h => hcv (.inl h)
  have h4 : ¬ 2147483648 < y3 := fun h => hcv (.inr h)
  clear hbv hcv
  obtain ⟨i0, hi, hz0, hz1, hz2⟩ := info_parts info3
  have Hi := hide hi; clear hi
  have Hz0 := hide hz0; clear hz0
  have Hz1 := hide hz1; clear hz1
  have Hz2 := hide hz2; clear hz2
  go_enter Tryd.func35, Tryd.ntmps35
  go_wp2
  go_quiet (fail)
  go_wp2_with (first
    | (at_builtin; refine wpList_append_lies _ rfl (.tmp 66) (.tmp 69) 22 rfl base 3 i0 (.int .i64 0) 1 8 Tryd.underlying22 (unhide Hi) (unhide Hz0) (unhide Hz1) (unhide Hz2) rfl (by decide) _ _ _ rfl ((((unhide Hd).alloc _).drewN _).alloc _).tail ⟨w.heap.size + 1, 0, none⟩ 2 2 [.int .i64 y0, .int .i64 y1] rfl rfl (news2 (alloc2_at _ _ _ _)) (ints_one _ _) (by decide) ?c3 ?c4 ?c5 _ rfl ?_)
    | go_in)
  case c3 => unfold maxLen; omega
  case c4 => omega
  case c5 => simp; omega
  intro g cap w3 hown' hgrow hat hlt3
  have D0 := ((unhide Hd).alloc (.cells #[.string s, .slice (some ⟨b, o, none⟩) 4 c] 69)).drewN nq
  have hbz := (Below.refl _ ((w.alloc (.cells #[.string s, .slice (some ⟨b, o, none⟩) 4 c] 69)).drewN nq)).alloc (Nat.le_refl _) (.cells #[.int .i64 y0, .int .i64 y1] 3)
  have D1 := hide (D0.pushT (new := [y0, y1]) hbz hown' (by simp) (by simp) hgrow hat (size2 _ _ _ _))
  have K1 := hide (((Keep.refl p base w).alloc hle (.cells #[.string s, .slice (some ⟨b, o, none⟩) 4 c] 69)).drewN nq |>.trans (grow_keep D0 hbz D0.tail hgrow 1 (.slice (some ⟨g, 0, none⟩) (q.tail.length + 2) cap)))
  obtain ⟨_, m1, m2, m3, _, n1, n2, n3⟩ := obj_cells (grow_obj D0 hbz D0.tail hgrow)
  clear D0 hbz hown' hgrow hat g0 g1 g2 g3 k0 k1 Hd hb1
  go_wp2_with (first
    | (at_builtin; refine wpList_append_lies _ rfl (.tmp 79) (.tmp 80) 22 rfl base 3 i0 (.int .i64 0) 1 8 Tryd.underlying22 (unhide Hi) (unhide Hz0) (unhide Hz1) (unhide Hz2) rfl (by decide) _ _ _ rfl ((unhide D1).alloc _).next ⟨w3.heap.size, 0, none⟩ 2 2 [.int .i64 (-1), .int .i64 (-1)] rfl rfl (news2 (alloc_set_at _ _ _ _)) (ints_one _ _) (by decide) ?d3 ?d4 ?d5 _ rfl ?_)
    | go_in)
  case d3 => unfold maxLen; omega
  case d4 => omega
  case d5 => exact ((unhide D1).alloc _).le
  intro g' cap' w5 hown' hgrow hat hlt5
  have hbz := (Below.refl _ (w3.setCell ⟨p, 1, none⟩ (.slice (some ⟨g, 0, none⟩) (q.tail.length + 2) cap))).alloc (Nat.le_refl _) (.cells #[.int .i64 (-1), .int .i64 (-1)] 3)
  have D2 := hide ((unhide D1).pushN (new := [-1, -1]) hbz hown' (by simp) (by simp) hgrow hat (by simp))
  have K2 := hide ((unhide K1).trans (grow_keep (unhide D1) hbz (unhide D1).next hgrow 2 (.slice (some ⟨g', 0, none⟩) (q.next.length + 2) cap')))
  obtain ⟨_, m1, m2, m3, _, n1, n2, n3⟩ := obj_cells (grow_obj (unhide D1) hbz (unhide D1).next hgrow)
  clear D1 K1 hbz hown' hgrow hat
  go_wp2_with (first
    | (at_builtin; refine wpList_append_lies _ rfl (.tmp 90) (.tmp 93) 22 rfl base 3 i0 (.int .i64 0) 1 8 Tryd.underlying22 (unhide Hi) (unhide Hz0) (unhide Hz1) (unhide Hz2) rfl (by decide) _ _ _ rfl ((unhide D2).alloc _).cap ⟨w5.heap.size, 0, none⟩ 2 2 [.int .i64 y2, .int .i64 y3] rfl rfl (news2 (alloc_set_at _ _ _ _)) (ints_one _ _) (by decide) ?e3 ?e4 ?e5 _ rfl ?_)
    | go_in)
  case e3 => unfold maxLen; omega
  case e4 => omega
  case e5 => have := (unhide D2).le; simp at this ⊢; omega
  intro g'' cap'' w7 hown' hgrow hat hlt7
  have hbz := (Below.refl _ (w5.setCell ⟨p, 2, none⟩ (.slice (some ⟨g', 0, none⟩) (q.next.length + 2) cap'))).alloc (Nat.le_refl _) (.cells #[.int .i64 y2, .int .i64 y3] 3)
  have D3 := hide ((unhide D2).pushC (new := [y2, y3]) hbz hown' (by simp) (by simp) hgrow hat (by simp))
  have K3 := hide ((unhide K2).trans (grow_keep (unhide D2) hbz (unhide D2).cap hgrow 3 (.slice (some ⟨g'', 0, none⟩) (q.cap.length + 2) cap'')))
  obtain ⟨_, m1, m2, m3, _, n1, n2, n3⟩ := obj_cells (grow_obj (unhide D2) hbz (unhide D2).cap hgrow)
  clear D2 K2 hbz hown' hgrow hat
  go_wp2
  go_ret
  rw [unhide HQ]
  exact ⟨rfl, unhide K3, _, _, _, unhide D3⟩
end Go.Proofs.YtkmcfjkfoafkoaaDoor
