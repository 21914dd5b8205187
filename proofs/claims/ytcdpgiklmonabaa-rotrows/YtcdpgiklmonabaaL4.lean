/- What the proof needs, part 4. -/
import Derived.Test.YtcdpgiklmonabaaL3
/- The walk of the law's Make. -/
namespace Go.Proofs.Ytcdpgiklmonabaa
open Go Go.RowKit

theorem Ints.drop {w : World} {la : Option Addr} {lc : Nat} {l : List Int} (h : Ints w (.slice la l.length lc) l) (kk : Nat) (hk : kk ≤ l.length) : Ints w (.slice (if lc = kk then la else Option.map (fun x => x.add kk) la) (l.length - kk) (lc - kk)) (l.drop kk) := by
  obtain ⟨a', c', e, h1, h2, h3⟩ := h
  injection e with e1 e2 e3
  subst e1 e3
  refine ⟨_, _, by rw [List.length_drop], by rw [List.length_drop]; omega, by omega, fun j hj => ?_⟩
  rw [List.length_drop] at hj
  obtain ⟨b, o, rfl, hb, hc⟩ := h3 (kk + j) (by omega)
  refine ⟨b, o + kk, ?_, hb, ?_⟩
  · rw [if_neg (by omega), Option.map_some]
    have e2 : (⟨b, o, none⟩ : Addr).add kk = ⟨b, o + kk, none⟩ := by unfold Addr.add; split <;> simp_all
    rw [e2]
  · rw [Nat.add_assoc, hc, List.getElem_drop]
theorem NetI.drew {w : World} {v : Value} {q : Sp.Net} {tv nv cv : Value} (h : NetI w v q tv nv cv) : NetI w.drew v q tv nv cv := h.below (Below.refl _ w).drew
theorem NetV.keep {w w' : World} {B : Nat} {v : Value} {q : Sp.Net} {tv nv cv : Value} (h : NetV w B v q tv nv cv) (hb : Below w.heap.size w w') : NetV w' B v q tv nv cv :=
  ⟨h.val, own_below h.tail hb, own_below h.next hb, own_below h.cap hb, h.tn, h.tc, h.nc⟩
/-- A call's frame with room for the net that it answers, and its own net. -/
structure MakeAt (w wx : World) (n : Int) (tv nv cv : Value) : Prop where
  b0 : wx.heap[w.heap.size]? = some (.cells #[.int .i64 0, .slice none 0 0, .slice none 0 0, .slice none 0 0] 25 (0, 0))
  b1 : wx.heap[w.heap.size + 1]? = some (.cells #[.int .i64 n, tv, nv, cv] 25 (0, 0))
  bel : Below w.heap.size w wx
theorem MakeAt.size {w wx : World} {n : Int} {tv nv cv : Value} (h : MakeAt w wx n tv nv cv) : w.heap.size + 1 < wx.heap.size := heap_lt h.b1
theorem MakeAt.below {w wx wy : World} {n : Int} {tv nv cv : Value} (h : MakeAt w wx n tv nv cv) (hb : Below wx.heap.size wx wy) : MakeAt w wy n tv nv cv := by
  have hs := h.size
  exact ⟨(hb.block _ (by omega)).trans h.b0, (hb.block _ (by omega)).trans h.b1, h.bel.trans (hb.mono (by omega))⟩
theorem MakeAt.start (w : World) (n : Int) (tv nv cv : Value) : MakeAt w ((w.alloc (.cells #[.int .i64 0, .slice none 0 0, .slice none 0 0, .slice none 0 0] 25)).alloc (.cells #[.int .i64 n, tv, nv, cv] 25)) n tv nv cv := by
  have hz : (w.alloc (.cells #[.int .i64 0, .slice none 0 0, .slice none 0 0, .slice none 0 0] 25)).heap.size = w.heap.size + 1 := by simp
  refine ⟨?_, ?_, ((Below.refl _ w).alloc (Nat.le_refl _) _).alloc (by simp) _⟩
  · exact (heap_alloc_old _ _ (by simp)).trans (heap_alloc_new w _)
  · have h := heap_alloc_new (w.alloc (.cells #[.int .i64 0, .slice none 0 0, .slice none 0 0, .slice none 0 0] 25)) (.cells #[.int .i64 n, tv, nv, cv] 25)
    rw [hz] at h; exact h
/-- The whole net stored anew. -/
theorem MakeAt.set {w wx : World} {n : Int} {tv nv cv : Value} (h : MakeAt w wx n tv nv cv) (n' : Int) (a b c : Value) : MakeAt w ((((wx.setCell ⟨w.heap.size + 1, 0, none⟩ (.int .i64 n')).setCell ⟨w.heap.size + 1, 1, none⟩ a).setCell ⟨w.heap.size + 1, 2, none⟩ b).setCell ⟨w.heap.size + 1, 3, none⟩ c) n' a b c := by
  have h0 := heap_setCell_same wx (w.heap.size + 1) 0 _ _ (.int .i64 n') h.b1
  have h1 := heap_setCell_same _ (w.heap.size + 1) 1 _ _ a h0
  have h2 := heap_setCell_same _ (w.heap.size + 1) 2 _ _ b h1
  have h3 := heap_setCell_same _ (w.heap.size + 1) 3 _ _ c h2
  refine ⟨?_, by rw [h3]; rfl, four_below h.bel w.heap.size rfl n' a b c⟩
  rw [heap_setCell_other _ _ _ _ (by simp), heap_setCell_other _ _ _ _ (by simp), heap_setCell_other _ _ _ _ (by simp), heap_setCell_other _ _ _ _ (by simp)]
  exact h.b0
theorem MakeAt.done {w wx : World} {n : Int} {tv nv cv : Value} (h : MakeAt w wx n tv nv cv) (n' : Int) (a b c : Value) : ((((wx.setCell ⟨w.heap.size, 0, none⟩ (.int .i64 n')).setCell ⟨w.heap.size, 1, none⟩ a).setCell ⟨w.heap.size, 2, none⟩ b).setCell ⟨w.heap.size, 3, none⟩ c).heap[w.heap.size]? = some (.cells #[.int .i64 n', a, b, c] 25 (0, 0)) := by
  have h0 := heap_setCell_same wx w.heap.size 0 _ _ (.int .i64 n') h.b0
  have h1 := heap_setCell_same _ w.heap.size 1 _ _ a h0
  have h2 := heap_setCell_same _ w.heap.size 2 _ _ b h1
  have h3 := heap_setCell_same _ w.heap.size 3 _ _ c h2
  rw [h3]; rfl
theorem four_below0 {w wx : World} (h : Below w.heap.size w wx) (n : Int) (a b c : Value) : Below w.heap.size w ((((wx.setCell ⟨w.heap.size, 0, none⟩ (.int .i64 n)).setCell ⟨w.heap.size, 1, none⟩ a).setCell ⟨w.heap.size, 2, none⟩ b).setCell ⟨w.heap.size, 3, none⟩ c) :=
  (((h.setCell (by simp) _).setCell (by simp) _).setCell (by simp) _).setCell (by simp) _
set_option maxRecDepth 100000 in
set_option maxHeartbeats 1000000 in
theorem make_any (size : Int) (ns : List Int) (x : Value) (w : World) (hx : Ints w x ns) (hns : ns.length ≤ 9223372036854775807) (hi64 : ∀ y ∈ ns, -9223372036854775808 ≤ y ∧ y ≤ 9223372036854775807) :
    Calls Try.prog 14 #[.int .i64 size, x] w fun e w' => ∃ v tv nv cv, e = .returned v ∧ NetV w' w.heap.size v (Sp.make size ns) tv nv cv ∧ Below w.heap.size w w' := by
  obtain ⟨a, c, rfl, hc, hm, HX⟩ := hx.all
  have HI := hide (fun w' (hb : Below w.heap.size w w') => hx.below hb)
  clear hx
  have H64 := hide hi64; clear hi64
  have hn0 : 0 ≤ size % 9 := Int.emod_nonneg _ (by omega)
  have hn1 : size % 9 < 9 := Int.emod_lt_of_pos _ (by omega)
  have HW := hide (fun w' => within_any size 9 w' (by omega) (by omega))
  have HM : Hid (Sp.make size ns = Sp.mkR ns (Sp.mkE (size % 9) ns (Sp.edges (size % 9) ns)) (size % 9).toNat) := hide rfl
  generalize size % 9 = n at *
  generalize Sp.make size ns = Q at *
  go_enter Try.func14, Try.ntmps14
  go_wp2_with fail
  refine (unhide HW _).mono ?_
  rintro e w1 ⟨rfl, rfl⟩
  clear HW
  go_wp2
  have HX0 := hide (MakeAt.start w n (.slice none 0 0) (.slice none 0 0) (.slice none 0 0))
  go_loopw [6] (fun i wr => ∃ (j m : Nat) (tv nv cv : Value), j ≤ Sp.edges n ns ∧ m = 2 * j ∧ i = .int .i64 (m : Int) ∧ NetV wr (w.heap.size + 2) (.agg #[.int .i64 n, tv, nv, cv]) (Sp.mkE n ns j) tv nv cv ∧ MakeAt w wr n tv nv cv) (fun i _ => 40 - (intOf i).toNat)
  case atStart => exact ⟨0, 0, _, _, _, by omega, rfl, rfl, ⟨rfl, World.ownsRow_nil _ _ _ _, World.ownsRow_nil _ _ _ _, World.ownsRow_nil _ _ _ _, .inl rfl, .inl rfl, .inl rfl⟩, unhide HX0⟩
  case round =>
    clear HX0
    obtain ⟨j, m, tv, nv, cv, hj, hmj, rfl, hV, hM⟩ := hrel
    have hE : Sp.edges n ns = if n = 0 then 0 else min (ns.length / 2) 20 := rfl
    obtain ⟨hq0, hq1, hq2, hq3⟩ := Sp.mkE_lens n ns j
    have HQ : Hid (Sp.mkE n ns (j + 1) = Sp.edgeN (Sp.mkE n ns j) (ns.getD (2 * j) 0 % 1099511627776 % n) (ns.getD (2 * j) 0 % 1099511627776 / 9 % n) (Sp.capOf (ns.getD (2 * j + 1) 0)) (Sp.capOf ((ns.getD (2 * j + 1) 0).tdiv 11))) := hide rfl
    by_cases hlt : j < Sp.edges n ns
    · have hn2 : 0 < n ∧ j < ns.length / 2 ∧ j < 20 := by
        rw [hE] at hlt
        by_cases h : n = 0
        · rw [if_pos h] at hlt; omega
        · rw [if_neg h] at hlt; omega
      obtain ⟨hnp, hj1, hj2⟩ := hn2
      have hm1 : m + 1 < ns.length := by omega
      obtain ⟨m1, hm1'⟩ : ∃ m1, m1 = m + 1 := ⟨_, rfl⟩
      obtain ⟨y0, hy0⟩ : ∃ y, y = ns[m]'(by omega) := ⟨_, rfl⟩
      obtain ⟨y1, hy1⟩ : ∃ y, y = ns[m1]'(by omega) := ⟨_, rfl⟩
      have HG0 : Hid (∃ b o, a = some ⟨b, o, none⟩ ∧ (∀ w', Below w.heap.size w w' → w'.cell? ⟨b, o + m, none⟩ = some (.int .i64 y0)) ∧ (∀ w', Below w.heap.size w w' → w'.cell? ⟨b, o + m1, none⟩ = some (.int .i64 y1))) := by
        refine hide ?_
        obtain ⟨b, o, e1, _, h1⟩ := unhide HX m (by omega)
        obtain ⟨b', o', e2, _, h2⟩ := unhide HX m1 (by omega)
        rw [e1] at e2
        injection e2 with e2
        injection e2 with e2 e3
        subst e2 e3
        exact ⟨b, o, e1, fun w' hw => by rw [hy0]; exact h1 w' hw, fun w' hw => by rw [hy1]; exact h2 w' hw⟩
      obtain ⟨b, o, rfl, hg0, hg1⟩ := unhide HG0
      have g0 := hg0 _ hM.bel
      have HG := hide hg1
      clear hg0 hg1 HG0
      rw [show ns.getD (2 * j) 0 = y0 by rw [hy0, ← hmj, Sp.getD_eq _ _ (by omega)], show ns.getD (2 * j + 1) 0 = y1 by rw [hy1, ← hmj, ← hm1', Sp.getD_eq _ _ (by omega)]] at HQ
      have hy1b := unhide H64 y1 (by rw [hy1]; exact List.getElem_mem _)
      have Hy1 := hide hy1b
      obtain ⟨ta, tc, rfl, htc, htm⟩ := hV.tail.ints.form
      obtain ⟨na, nc, rfl, hnc, hnm⟩ := hV.next.ints.form
      obtain ⟨ca, cc, rfl, hcc, hcm⟩ := hV.cap.ints.form
      generalize Sp.mkE n ns j = q at *
      have HV : Hid (NetI wr (.agg #[.int .i64 n, .slice ta q.tail.length tc, .slice na q.next.length nc, .slice ca q.cap.length cc]) q (.slice ta q.tail.length tc) (.slice na q.next.length nc) (.slice ca q.cap.length cc)) := hide ⟨by rw [hq0], hV.tail.ints, hV.next.ints, hV.cap.ints⟩
      have Hq := hide (And.intro hq0 (And.intro hq1 (And.intro hq2 hq3)))
      have hm40 : (m : Int) < 40 := by omega
      have hm1l : (m : Int) + 1 < ns.length := by omega
      have hm1l' : (m1 : Int) < ns.length := by omega
      have hml : (m : Int) < ns.length := by omega
      have hwr : IntKind.i64.wrap ((m : Int) + 1) = (m1 : Int) := by
        rw [IntKind.wrap_i64, hm1']; omega
      have HK := hide (within_any y0 1099511627776 wr (by omega) (by omega))
      have hk0 : 0 ≤ y0 % 1099511627776 := Int.emod_nonneg _ (by omega)
      have hk1 : y0 % 1099511627776 < 1099511627776 := Int.emod_lt_of_pos _ (by omega)
      generalize y0 % 1099511627776 = k at *
      have hnz : ¬ n = 0 := by omega
      have hkw : IntKind.i64.wrap (k.tdiv 9) = k / 9 := by
        rw [IntKind.wrap_i64, Int.tdiv_eq_ediv_of_nonneg hk0]; omega
      have hyw : IntKind.i64.wrap (y1.tdiv 11) = y1.tdiv 11 := by
        have h11 : -9223372036854775808 ≤ y1.tdiv 11 ∧ y1.tdiv 11 ≤ 9223372036854775807 := by
          rcases Int.le_total 0 y1 with h | h
          · rw [Int.tdiv_eq_ediv_of_nonneg h]; omega
          · have e : y1.tdiv 11 = -((-y1) / 11) := by
              rw [← Int.tdiv_eq_ediv_of_nonneg (by omega), Int.neg_tdiv, Int.neg_neg]
            rw [e]; omega
        rw [IntKind.wrap_i64]; omega
      have Hp : Hid (k.tmod n = k % n ∧ (k / 9).tmod n = k / 9 % n) := hide ⟨Int.tmod_eq_emod_of_nonneg hk0, Int.tmod_eq_emod_of_nonneg (by omega)⟩
      have Hmj := hide hmj
      have Hm1 := hide hm1'
      have Hj := hide (And.intro hj2 (And.intro hj hlt))
      have HB := hide hM
      obtain ⟨x0, x1, x2, x3, z0, z1, z2, z3⟩ := obj_cells hM.b1
      clear hq0 hq1 hq2 hq3 hmj hm1' hy0 hy1 hE hj hlt hj1 hj2 hV hM hy1b
      go_wp2_with fail
      refine (unhide HK).mono ?_
      rintro e w1 ⟨rfl, rfl⟩
      clear HK
      go_upto_region 6 with fail
      have HX1 := hide ((unhide HB).below (Below.refl _ _).drew)
      have HS : Hid (∀ w', Below w1.drew.heap.size w1.drew w' → w'.cell? ⟨w.heap.size + 1, 0, none⟩ = some (.int .i64 n) ∧ w'.cell? ⟨w.heap.size + 1, 1, none⟩ = some (.slice ta q.tail.length tc) ∧ w'.cell? ⟨w.heap.size + 1, 2, none⟩ = some (.slice na q.next.length nc) ∧ w'.cell? ⟨w.heap.size + 1, 3, none⟩ = some (.slice ca q.cap.length cc) ∧ w'.cell? ⟨b, o + m1, none⟩ = some (.int .i64 y1)) := by
        refine hide fun w' hb => ?_
        have h := (unhide HX1).below hb
        obtain ⟨x0, x1, x2, x3, -⟩ := obj_cells h.b1
        exact ⟨x0, x1, x2, x3, unhide HG _ h.bel⟩
      have HV1 := hide (unhide HV).drew
      refine wp_region_G (fun w' => w'.cell? ⟨w.heap.size + 1, 0, none⟩ = some (.int .i64 n) ∧ w'.cell? ⟨w.heap.size + 1, 1, none⟩ = some (.slice ta q.tail.length tc) ∧ w'.cell? ⟨w.heap.size + 1, 2, none⟩ = some (.slice na q.next.length nc) ∧ w'.cell? ⟨w.heap.size + 1, 3, none⟩ = some (.slice ca q.cap.length cc) ∧ w'.cell? ⟨b, o + m1, none⟩ = some (.int .i64 y1)) (fun i => i == 28) (by kernel_rfl) (unhide HS _ (Below.refl _ _)) (fun hHeld => ?_)
      generalize w1.drew = W3 at *
      refine wpAnyG_take (v := ?_) 0 (by rfl) (by kernel_rfl) (by kernel_rfl) (by kernel_rfl) (by kernel_rfl) (fun _ _ _ h => h) (Or.inl ⟨by rfl, ?_⟩) (by assumption) ?_
      rotate_left
      · (intro w' hSw; (try dsimp only at hSw); (try simp only [List.getElem_toArray, List.getElem_cons_zero]); go_simp; try (with_reducible rfl))
      simp only [Act.put, List.getElem_toArray, List.getElem_cons_zero, List.setIfInBounds_toArray, List.set_cons_zero, List.set_cons_succ]
      refine wpAnyG_take (v := ?_) 1 (by rfl) (by kernel_rfl) (by kernel_rfl) (by kernel_rfl) (by kernel_rfl) (fun _ _ _ h => h) (Or.inl ⟨by rfl, ?_⟩) (by assumption) ?_
      rotate_left
      · (intro w' hSw; (try dsimp only at hSw); (try simp only [List.getElem_toArray, List.getElem_cons_succ, List.getElem_cons_zero]); go_simp; try (with_reducible rfl))
      simp only [Act.put, List.getElem_toArray, List.getElem_cons_succ, List.getElem_cons_zero, List.setIfInBounds_toArray, List.set_cons_zero, List.set_cons_succ]
      refine wpAnyG_take (v := ?_) 2 (by rfl) (by kernel_rfl) (by kernel_rfl) (by kernel_rfl) (by kernel_rfl) (fun _ _ _ h => h) (Or.inl ⟨by rfl, ?_⟩) (by assumption) ?_
      rotate_left
      · (intro w' hSw; (try dsimp only at hSw); (try simp only [List.getElem_toArray, List.getElem_cons_succ, List.getElem_cons_zero]); go_simp; try (with_reducible rfl))
      simp only [Act.put, List.getElem_toArray, List.getElem_cons_succ, List.getElem_cons_zero, List.setIfInBounds_toArray, List.set_cons_zero, List.set_cons_succ]
      refine wpAnyG_take (v := ?_) 3 (by rfl) (by kernel_rfl) (by kernel_rfl) (by kernel_rfl) (by kernel_rfl) (fun _ _ _ h => h) (Or.inl ⟨by rfl, ?_⟩) (by assumption) ?_
      rotate_left
      · (intro w' hSw; (try dsimp only at hSw); (try simp only [List.getElem_toArray, List.getElem_cons_succ, List.getElem_cons_zero]); go_simp; try (with_reducible rfl))
      simp only [Act.put, List.getElem_toArray, List.getElem_cons_succ, List.getElem_cons_zero, List.setIfInBounds_toArray, List.set_cons_zero, List.set_cons_succ]
      refine wpAnyG_take (v := ?_) 4 (by rfl) (by kernel_rfl) (by kernel_rfl) (by kernel_rfl) (by kernel_rfl) (fun _ _ _ h => h) (Or.inl ⟨by rfl, ?_⟩) (by assumption) ?_
      rotate_left
      · (intro w' hSw; (try dsimp only at hSw); (try simp only [List.getElem_toArray, List.getElem_cons_succ, List.getElem_cons_zero]); go_simp; try (with_reducible rfl))
      simp only [Act.put, List.getElem_toArray, List.getElem_cons_succ, List.getElem_cons_zero, List.setIfInBounds_toArray, List.set_cons_zero, List.set_cons_succ]
      refine wpAnyG_take (v := ?_) 5 (by rfl) (by kernel_rfl) (by kernel_rfl) (by kernel_rfl) (by kernel_rfl) (fun _ _ _ h => h) (Or.inl ⟨by rfl, ?_⟩) (by assumption) ?_
      rotate_left
      · (intro w' hSw; (try dsimp only at hSw); (try simp only [List.getElem_toArray, List.getElem_cons_succ, List.getElem_cons_zero]); go_simp; try (with_reducible rfl))
      simp only [Act.put, List.getElem_toArray, List.getElem_cons_succ, List.getElem_cons_zero, List.setIfInBounds_toArray, List.set_cons_zero, List.set_cons_succ]
      refine wpAnyG_take (v := ?_) 6 (by rfl) (by kernel_rfl) (by kernel_rfl) (by kernel_rfl) (by kernel_rfl) (fun _ _ _ h => h) (Or.inl ⟨by rfl, ?_⟩) (by assumption) ?_
      rotate_left
      · (intro w' hSw; (try dsimp only at hSw); (try simp only [List.getElem_toArray, List.getElem_cons_succ, List.getElem_cons_zero]); go_simp; try (with_reducible rfl))
      simp only [Act.put, List.getElem_toArray, List.getElem_cons_succ, List.getElem_cons_zero, List.setIfInBounds_toArray, List.set_cons_zero, List.set_cons_succ]
      refine wpAnyG_take (v := ?_) 7 (by rfl) (by kernel_rfl) (by kernel_rfl) (by kernel_rfl) (by kernel_rfl) (fun _ _ _ h => h) (Or.inl ⟨by rfl, ?_⟩) (by assumption) ?_
      rotate_left
      · (intro w' hSw; (try dsimp only at hSw); (try simp only [List.getElem_toArray, List.getElem_cons_succ, List.getElem_cons_zero]); go_simp; try (with_reducible rfl))
      simp only [Act.put, List.getElem_toArray, List.getElem_cons_succ, List.getElem_cons_zero, List.setIfInBounds_toArray, List.set_cons_zero, List.set_cons_succ]
      refine wpAnyG_take (v := ?_) 8 (by rfl) (by kernel_rfl) (by kernel_rfl) (by kernel_rfl) (by kernel_rfl) (fun _ _ _ h => h) (Or.inl ⟨by rfl, ?_⟩) (by assumption) ?_
      rotate_left
      · (intro w' hSw; (try dsimp only at hSw); (try simp only [List.getElem_toArray, List.getElem_cons_succ, List.getElem_cons_zero]); go_simp; try (with_reducible rfl))
      simp only [Act.put, List.getElem_toArray, List.getElem_cons_succ, List.getElem_cons_zero, List.setIfInBounds_toArray, List.set_cons_zero, List.set_cons_succ]
      refine wpAnyG_take (v := ?_) 9 (by rfl) (by kernel_rfl) (by kernel_rfl) (by kernel_rfl) (by kernel_rfl) (fun _ _ _ h => h) (Or.inl ⟨by rfl, ?_⟩) (by assumption) ?_
      rotate_left
      · (intro w' hSw; (try dsimp only at hSw); (try simp only [List.getElem_toArray, List.getElem_cons_succ, List.getElem_cons_zero]); go_simp; try (with_reducible rfl))
      simp only [Act.put, List.getElem_toArray, List.getElem_cons_succ, List.getElem_cons_zero, List.setIfInBounds_toArray, List.set_cons_zero, List.set_cons_succ]
      refine wpAnyG_take (v := ?_) 10 (by rfl) (by kernel_rfl) (by kernel_rfl) (by kernel_rfl) (by kernel_rfl) (fun _ _ _ h => h) (Or.inl ⟨by rfl, ?_⟩) (by assumption) ?_
      rotate_left
      · (intro w' hSw; (try dsimp only at hSw); (try simp only [List.getElem_toArray, List.getElem_cons_succ, List.getElem_cons_zero]); go_simp; try (with_reducible rfl))
      simp only [Act.put, List.getElem_toArray, List.getElem_cons_succ, List.getElem_cons_zero, List.setIfInBounds_toArray, List.set_cons_zero, List.set_cons_succ]
      refine wpAnyG_take (v := ?_) 11 (by rfl) (by kernel_rfl) (by kernel_rfl) (by kernel_rfl) (by kernel_rfl) (fun _ _ _ h => h) (Or.inl ⟨by rfl, ?_⟩) (by assumption) ?_
      rotate_left
      · (intro w' hSw; (try dsimp only at hSw); (try simp only [List.getElem_toArray, List.getElem_cons_succ, List.getElem_cons_zero]); go_simp; try (with_reducible rfl))
      simp only [Act.put, List.getElem_toArray, List.getElem_cons_succ, List.getElem_cons_zero, List.setIfInBounds_toArray, List.set_cons_zero, List.set_cons_succ]
      refine wpAnyG_take (v := ?_) 12 (by rfl) (by kernel_rfl) (by kernel_rfl) (by kernel_rfl) (by kernel_rfl) (fun _ _ _ h => h) (Or.inl ⟨by rfl, ?_⟩) (by assumption) ?_
      rotate_left
      · (intro w' hSw; (try dsimp only at hSw); (try simp only [List.getElem_toArray, List.getElem_cons_succ, List.getElem_cons_zero]); go_simp; try (with_reducible rfl))
      simp only [Act.put, List.getElem_toArray, List.getElem_cons_succ, List.getElem_cons_zero, List.setIfInBounds_toArray, List.set_cons_zero, List.set_cons_succ]
      refine wpAnyG_take (v := ?_) 13 (by rfl) (by kernel_rfl) (by kernel_rfl) (by kernel_rfl) (by kernel_rfl) (fun _ _ _ h => h) (Or.inl ⟨by rfl, ?_⟩) (by assumption) ?_
      rotate_left
      · (intro w' hSw; (try dsimp only at hSw); (try simp only [List.getElem_toArray, List.getElem_cons_succ, List.getElem_cons_zero]); go_simp; try (with_reducible rfl))
      simp only [Act.put, List.getElem_toArray, List.getElem_cons_succ, List.getElem_cons_zero, List.setIfInBounds_toArray, List.set_cons_zero, List.set_cons_succ]
      refine wpAnyG_take (v := ?_) 14 (by rfl) (by kernel_rfl) (by kernel_rfl) (by kernel_rfl) (by kernel_rfl) (fun _ _ _ h => h) (Or.inl ⟨by rfl, ?_⟩) (by assumption) ?_
      rotate_left
      · (intro w' hSw; (try dsimp only at hSw); (try simp only [List.getElem_toArray, List.getElem_cons_succ, List.getElem_cons_zero]); go_simp; try (with_reducible rfl))
      simp only [Act.put, List.getElem_toArray, List.getElem_cons_succ, List.getElem_cons_zero, List.setIfInBounds_toArray, List.set_cons_zero, List.set_cons_succ]
      refine wpAnyG_take (v := ?_) 16 (by rfl) (by kernel_rfl) (by kernel_rfl) (by kernel_rfl) (by kernel_rfl) (fun _ _ _ h => h) (Or.inl ⟨by rfl, ?_⟩) (by assumption) ?_
      rotate_left
      · (intro w' hSw; (try dsimp only at hSw); (try simp only [List.getElem_toArray, List.getElem_cons_succ, List.getElem_cons_zero]); go_simp; try (with_reducible rfl))
      simp only [Act.put, List.getElem_toArray, List.getElem_cons_succ, List.getElem_cons_zero, List.setIfInBounds_toArray, List.set_cons_zero, List.set_cons_succ]
      refine wpAnyG_take (v := ?_) 17 (by rfl) (by kernel_rfl) (by kernel_rfl) (by kernel_rfl) (by kernel_rfl) (fun _ _ _ h => h) (Or.inl ⟨by rfl, ?_⟩) (by assumption) ?_
      rotate_left
      · (intro w' hSw; (try dsimp only at hSw); (try simp only [List.getElem_toArray, List.getElem_cons_succ, List.getElem_cons_zero]); go_simp; try (with_reducible rfl))
      simp only [Act.put, List.getElem_toArray, List.getElem_cons_succ, List.getElem_cons_zero, List.setIfInBounds_toArray, List.set_cons_zero, List.set_cons_succ]
      refine wpAnyG_take (v := ?_) 18 (by rfl) (by kernel_rfl) (by kernel_rfl) (by kernel_rfl) (by kernel_rfl) (fun _ _ _ h => h) (Or.inl ⟨by rfl, ?_⟩) (by assumption) ?_
      rotate_left
      · (intro w' hSw; (try dsimp only at hSw); (try simp only [List.getElem_toArray, List.getElem_cons_succ, List.getElem_cons_zero]); go_simp; try (with_reducible rfl))
      simp only [Act.put, List.getElem_toArray, List.getElem_cons_succ, List.getElem_cons_zero, List.setIfInBounds_toArray, List.set_cons_zero, List.set_cons_succ]
      refine wpAnyG_take (v := ?_) 19 (by rfl) (by kernel_rfl) (by kernel_rfl) (by kernel_rfl) (by kernel_rfl) (fun _ _ _ h => h) (Or.inl ⟨by rfl, ?_⟩) (by assumption) ?_
      rotate_left
      · (intro w' hSw; (try dsimp only at hSw); (try simp only [List.getElem_toArray, List.getElem_cons_succ, List.getElem_cons_zero]); go_simp; try (with_reducible rfl))
      simp only [Act.put, List.getElem_toArray, List.getElem_cons_succ, List.getElem_cons_zero, List.setIfInBounds_toArray, List.set_cons_zero, List.set_cons_succ]
      refine wpAnyG_take (v := ?_) 20 (by rfl) (by kernel_rfl) (by kernel_rfl) (by kernel_rfl) (by kernel_rfl) (fun _ _ _ h => h) (Or.inl ⟨by rfl, ?_⟩) (by assumption) ?_
      rotate_left
      · (intro w' hSw; (try dsimp only at hSw); (try simp only [List.getElem_toArray, List.getElem_cons_succ, List.getElem_cons_zero]); go_simp; try (with_reducible rfl))
      simp only [Act.put, List.getElem_toArray, List.getElem_cons_succ, List.getElem_cons_zero, List.setIfInBounds_toArray, List.set_cons_zero, List.set_cons_succ]
      refine wpAnyG_take (v := ?_) 21 (by rfl) (by kernel_rfl) (by kernel_rfl) (by kernel_rfl) (by kernel_rfl) (fun _ _ _ h => h) (Or.inl ⟨by rfl, ?_⟩) (by assumption) ?_
      rotate_left
      · (intro w' hSw; (try dsimp only at hSw); (try simp only [List.getElem_toArray, List.getElem_cons_succ, List.getElem_cons_zero]); go_simp; try (with_reducible rfl))
      simp only [Act.put, List.getElem_toArray, List.getElem_cons_succ, List.getElem_cons_zero, List.setIfInBounds_toArray, List.set_cons_zero, List.set_cons_succ]
      refine wpAnyG_ready [15] (by kernel_rfl) (by simp) ?_
      refine AllReadyG.cons 15 (by rfl) (fun K hK => ?_) ?_
      · simp only [List.getElem_toArray, List.getElem_cons_succ, List.getElem_cons_zero]
        go_simp
        refine (cap_any y1 _).mono ?_
        rintro e wA ⟨rfl, rfl⟩
        try go_wp2_with fail
        refine hK.out _ _ (unhide HS _ (by repeat (first | assumption | exact Below.refl _ _ | refine Below.drew ?_ | refine Below.alloc ?_ (by first | omega | (simp; done) | (simp; omega)) _))) (fun _ => ?_)
        clear hK K
        try simp only [Act.put, List.setIfInBounds_toArray, List.set_cons_zero, List.set_cons_succ]
        refine wpAnyG_ready [22] (by kernel_rfl) (by simp) ?_
        refine AllReadyG.cons 22 (by rfl) (fun K hK => ?_) ?_
        · simp only [List.getElem_toArray, List.getElem_cons_succ, List.getElem_cons_zero]
          go_simp
          refine (cap_any (y1.tdiv 11) _).mono ?_
          rintro e wB ⟨rfl, rfl⟩
          try go_wp2_with fail
          refine hK.out _ _ (unhide HS _ (by repeat (first | assumption | exact Below.refl _ _ | refine Below.drew ?_ | refine Below.alloc ?_ (by first | omega | (simp; done) | (simp; omega)) _))) (fun _ => ?_)
          clear hK K
          try simp only [Act.put, List.setIfInBounds_toArray, List.set_cons_zero, List.set_cons_succ]
          refine wpAnyG_ready [23] (by kernel_rfl) (by simp) ?_
          refine AllReadyG.cons 23 (by rfl) (fun K hK => ?_) ?_
          · simp only [List.getElem_toArray, List.getElem_cons_succ, List.getElem_cons_zero]
            go_simp
            refine hK.out _ _ (unhide HS _ (by repeat (first | assumption | exact Below.refl _ _ | refine Below.drew ?_ | refine Below.alloc ?_ (by first | omega | (simp; done) | (simp; omega)) _))) (fun _ => ?_)
            clear hK K
            try simp only [Act.put, List.setIfInBounds_toArray, List.set_cons_zero, List.set_cons_succ]
            refine wpAnyG_ready [24] (by kernel_rfl) (by simp) ?_
            refine AllReadyG.cons 24 (by rfl) (fun K hK => ?_) ?_
            · simp only [List.getElem_toArray, List.getElem_cons_succ, List.getElem_cons_zero]
              go_simp
              refine (redge_any q _ _ _ _ _ (k.tmod n) ((k / 9).tmod n) (Sp.capOf y1) (Sp.capOf (y1.tdiv 11)) _ ((unhide HV1).below ((Below.refl _ _).alloc (Nat.le_refl _) _)) (OwnI.ints (own_lit wB 0 _ 4 [k.tmod n, (k / 9).tmod n, Sp.capOf y1, Sp.capOf (y1.tdiv 11)] rfl rfl (by omega) (by simp))) (by have := unhide Hq; have := unhide Hj; omega) (by have := unhide Hq; have := unhide Hj; omega) (by have := unhide Hq; have := unhide Hj; omega) (by rw [(unhide Hp).1]; exact Int.emod_nonneg _ hnz) (by rw [(unhide Hp).1, (unhide Hq).1]; exact Int.emod_lt_of_pos _ hnp) (by rw [(unhide Hp).2]; exact Int.emod_nonneg _ hnz) (by rw [(unhide Hp).2, (unhide Hq).1]; exact Int.emod_lt_of_pos _ hnp) (Sp.capOf_bd _).2 (Sp.capOf_bd _).2).mono ?_
              rintro e w4 ⟨v4, t4, n4, c4, rfl, hv4, hb4⟩
              have e4 : Sp.edgeN q (k.tmod n) ((k / 9).tmod n) (Sp.capOf y1) (Sp.capOf (y1.tdiv 11)) = Sp.mkE n ns (j + 1) := by rw [unhide HQ, (unhide Hp).1, (unhide Hp).2]
              have e4n : (Sp.mkE n ns (j + 1)).n = n := (Sp.mkE_lens n ns (j + 1)).1
              rw [e4] at hv4
              obtain ⟨q4, hq4⟩ : ∃ q4, q4 = Sp.mkE n ns (j + 1) := ⟨_, rfl⟩
              rw [← hq4] at hv4 e4n
              have Hq4 := hide hq4
              clear hq4 e4
              obtain ⟨h41, h42, h43, h44, h45, h46, h47⟩ := hv4
              rw [e4n] at h41
              subst h41
              obtain ⟨ta4, tc4, rfl, -, -⟩ := h42.ints.form
              obtain ⟨na4, nc4, rfl, -, -⟩ := h43.ints.form
              obtain ⟨ca4, cc4, rfl, -, -⟩ := h44.ints.form
              have hb4' : Below wB.heap.size wB w4 := ((Below.refl _ _).alloc (Nat.le_refl _) _).trans (hb4.mono (by simp))
              have HM4 := hide ((unhide HX1).below hb4')
              have hszB := (unhide HX1).size
              have hB2 : ∀ ob, w.heap.size + 2 ≤ (wB.alloc ob).heap.size := fun ob => by rw [World.size_alloc]; omega
              have HV4 := hide (And.intro (own_base h42 (hB2 _)) (And.intro (own_base h43 (hB2 _)) (And.intro (own_base h44 (hB2 _)) (And.intro h45 (And.intro h46 h47)))))
              clear hB2 hszB
              obtain ⟨x40, x41, x42, x43, z40, z41, z42, z43⟩ := obj_cells (unhide HM4).b1
              have He4 := hide e4n
              clear h42 h43 h44 h45 h46 h47 hb4 e4n
              try go_wp2_with fail
              refine hK.out _ _ (unhide HS _ (by repeat (first | assumption | exact Below.refl _ _ | refine Below.drew ?_ | refine Below.alloc ?_ (by first | omega | (simp; done) | (simp; omega)) _))) (fun _ => ?_)
              clear hK K
              try simp only [Act.put, List.setIfInBounds_toArray, List.set_cons_zero, List.set_cons_succ]
              refine wpAnyG_takeW (v := ?_) 25 (by rfl) (by kernel_rfl) (by kernel_rfl) (by kernel_rfl) (by kernel_rfl) (fun _ _ _ h => h) (Or.inl ⟨by rfl, ?_⟩) (by assumption) ?_
              rotate_left
              · (intro w' hSw; (try dsimp only at hSw); (try simp only [List.getElem_toArray, List.getElem_cons_succ, List.getElem_cons_zero]); go_simp; try (with_reducible rfl))
              simp only [Act.put, List.getElem_toArray, List.getElem_cons_succ, List.getElem_cons_zero, List.setIfInBounds_toArray, List.set_cons_zero, List.set_cons_succ]
              refine wpAnyG_takeW (v := ?_) 26 (by rfl) (by kernel_rfl) (by kernel_rfl) (by kernel_rfl) (by kernel_rfl) (fun _ _ _ h => h) (Or.inl ⟨by rfl, ?_⟩) (by assumption) ?_
              rotate_left
              · (intro w' hSw; (try dsimp only at hSw); (try simp only [List.getElem_toArray, List.getElem_cons_succ, List.getElem_cons_zero]); go_simp; try (with_reducible rfl))
              simp only [Act.put, List.getElem_toArray, List.getElem_cons_succ, List.getElem_cons_zero, List.setIfInBounds_toArray, List.set_cons_zero, List.set_cons_succ]
              refine wpAnyG_takeW (v := ?_) 27 (by rfl) (by kernel_rfl) (by kernel_rfl) (by kernel_rfl) (by kernel_rfl) (fun _ _ _ h => h) (Or.inl ⟨by rfl, ?_⟩) (by assumption) ?_
              rotate_left
              · (intro w' hSw; (try dsimp only at hSw); (try simp only [List.getElem_toArray, List.getElem_cons_succ, List.getElem_cons_zero]); go_simp; try (with_reducible rfl))
              simp only [Act.put, List.getElem_toArray, List.getElem_cons_succ, List.getElem_cons_zero, List.setIfInBounds_toArray, List.set_cons_zero, List.set_cons_succ]
              refine wpAnyG_ready [28] (by kernel_rfl) (by simp) ?_
              refine AllReadyG.last 28 (by rfl) (by kernel_rfl) (fun K hK => ?_) ?_
              · simp only [List.getElem_toArray, List.getElem_cons_succ, List.getElem_cons_zero]
                go_simp
                refine hK.out _ _ ?_
                clear hK K
                try simp only [Act.put, List.setIfInBounds_toArray, List.set_cons_zero, List.set_cons_succ]
                refine wpAnyG_done (by kernel_rfl) ?_ _
                refine NoPanic.normal ?_
                go_wp2
                go_roundw
                case rel =>
                  have h := unhide HV4
                  have hsz := (unhide HX1).size
                  have hjj := unhide Hj
                  have hmm := unhide Hmj
                  refine ⟨j + 1, m + 2, _, _, _, by omega, by omega, by go_num, ?_, (unhide HM4).set n _ _ _⟩
                  rw [← unhide Hq4]
                  exact ⟨by rw [unhide He4], four_own h.1 (by omega) n _ _ _, four_own h.2.1 (by omega) n _ _ _, four_own h.2.2.1 (by omega) n _ _ _, h.2.2.2.1, h.2.2.2.2.1, h.2.2.2.2.2⟩
                case measure => have hmm := unhide Hmj; have hjj := unhide Hj; simp [intOf]; omega
              exact AllReadyG.nil
            exact AllReadyG.nil
          exact AllReadyG.nil
        exact AllReadyG.nil
      exact AllReadyG.nil

    · have hje : j = Sp.edges n ns := by omega
      have hq := hide (And.intro hq0 (And.intro hq1 (And.intro hq2 hq3)))
      have hstop : ¬ ((m : Int) + 1 < ns.length ∧ (m : Int) < 40 ∧ 0 < n) := by
        rintro ⟨h1, h2, h3⟩
        rw [if_neg (by omega)] at hE
        omega
      have hj20 : j ≤ 20 := by rw [hje, hE]; split <;> omega
      have hm41 : (m : Int) ≤ 40 := by omega
      have Hmj := hide hmj
      have Hje := hide hje
      have HV := hide hV
      have HB := hide hM
      obtain ⟨x0, x1, x2, x3, z0, z1, z2, z3⟩ := obj_cells hM.b1
      obtain ⟨ta, tc, rfl, htc, htm⟩ := hV.tail.ints.form
      obtain ⟨na, nc, rfl, hnc, hnm⟩ := hV.next.ints.form
      obtain ⟨ca, cc, rfl, hcc, hcm⟩ := hV.cap.ints.form
      have HLN : Hid (0 < (Sp.mkE n ns j).tail.length → 0 < ns.length) := by
        refine hide fun h => ?_
        rw [hq1] at h
        by_cases hn0 : n = 0
        · rw [if_pos hn0] at hE; omega
        · rw [if_neg hn0] at hE; omega
      clear hmj hje hE hlt hj hV hM HQ hq0 hq1 hq2 hq3
      go_upto_region 3 with fail
      go_cut [28] (fun s wx => s = .bool false ∧ wr = wx)
      case first =>
        by_cases c1 : (m : Int) + 1 < ns.length
        · by_cases c2 : (m : Int) < 40
          · have c3 : ¬ 0 < n := fun h => hstop ⟨c1, c2, h⟩
            clear hstop
            go_wp2
            go_meet
            exact ⟨rfl, rfl⟩
          · clear hstop
            go_wp2
            go_meet
            exact ⟨rfl, rfl⟩
        · clear hstop
          go_wp2
          go_meet
          exact ⟨rfl, rfl⟩
      case rest =>
        obtain ⟨rfl, rfl⟩ := hcut
        clear hstop x0 x1 x2 x3 z0 z1 z2 z3
        have HM' : Hid (Q = Sp.mkR ns (Sp.mkE n ns j) n.toNat) := by rw [unhide Hje]; exact HM
        clear HM Hje
        generalize Sp.mkE n ns j = q0 at *
        have hL40 : q0.tail.length ≤ 40 := by have := unhide hq; omega
        have hLns : 0 < q0.tail.length → 0 < ns.length := unhide HLN
        go_wp2
        go_loopw [8] (fun i wr => ∃ (v : Nat) (tv nv cv : Value), (v : Int) ≤ n ∧ i = .int .i64 (v : Int) ∧ NetV wr (w.heap.size + 2) (.agg #[.int .i64 n, tv, nv, cv]) (Sp.mkR ns q0 v) tv nv cv ∧ MakeAt w wr n tv nv cv) (fun i _ => (n - intOf i).toNat)
        case atStart => exact ⟨0, _, _, _, by omega, rfl, unhide HV, unhide HB⟩
        case round =>
          clear HV HB
          obtain ⟨v, tv, nv, cv, hvn, rfl, hV, hM⟩ := hrel
          obtain ⟨r1, r2, r3, r4⟩ := Sp.mkR_same ns q0 v
          by_cases hlt : (v : Int) < n
          · obtain ⟨ta, tc, rfl, htc, htm, HT⟩ := hV.tail.ints.all
            obtain ⟨na, nc, rfl, hnc, hnm⟩ := hV.next.ints.form
            obtain ⟨ca, cc, rfl, hcc, hcm⟩ := hV.cap.ints.form
            have HQ1 : Hid (Sp.mkR ns q0 (v + 1) = Sp.roundN (Sp.mkR ns q0 v) (Sp.mkL ns q0.tail v q0.tail.length)) := hide rfl
            generalize Sp.mkR ns q0 v = q at *
            have HTc : Hid (∀ d, (hd : d < q0.tail.length) → ∃ b o, ta = some ⟨b, o, none⟩ ∧ ∀ w', Below wr.heap.size wr w' → w'.cell? ⟨b, o + d, none⟩ = some (.int .i64 (q0.tail.getD d 0))) := by
              refine hide fun d hd => ?_
              obtain ⟨b, o, e1, _, e2⟩ := unhide HT d (by rw [r2]; exact hd)
              refine ⟨b, o, e1, fun w' hw => ?_⟩
              rw [e2 w' hw, ← Sp.getD_eq q.tail d (by rw [r2]; exact hd), r2]
            have Hr := hide (And.intro r1 (And.intro r2 (And.intro r3 r4)))
            have hln : q.tail.length = q0.tail.length := by rw [r2]
            rw [hln] at hM hV htc
            have HV := hide hV
            have HB := hide hM
            obtain ⟨x0, x1, x2, x3, z0, z1, z2, z3⟩ := obj_cells hM.b1
            clear HT r1 r2 r3 r4 hln hV hM
            go_wp2
            clear x0 x1 x2 x3 z0 z1 z2 z3
            obtain ⟨WR, hWR⟩ : ∃ WR, WR = wr := ⟨_, rfl⟩
            subst hWR
            go_loopw [9, 10] (fun lv dv wx => ∃ (d : Nat) (lq : Value), lq = lv ∧ d ≤ q0.tail.length ∧ dv = .int .i64 (d : Int) ∧ OwnI wx WR.heap.size lv (Sp.mkL ns q0.tail v d) ∧ (Sp.mkL ns q0.tail v d = [] → lv = .slice none 0 0) ∧ Below WR.heap.size WR wx) (fun _ dv _ => q0.tail.length - (intOf dv).toNat)
            case atStart => exact ⟨0, _, rfl, by omega, rfl, World.ownsRow_nil _ _ _ _, fun _ => rfl, Below.refl _ _⟩
            case round =>
              obtain ⟨d, lv, rfl, hd, rfl, hown, hnil, hb⟩ := hrel
              have HL : Hid (Sp.mkL ns q0.tail v (d + 1) = if q0.tail.getD d 0 = v then Sp.insAt (Sp.mkL ns q0.tail v d) (Sp.mkK ns d (Sp.mkL ns q0.tail v d).length) d else Sp.mkL ns q0.tail v d) := hide rfl
              have hml := Sp.mkL_len ns q0.tail v d
              have hM := (unhide HB).below hb
              obtain ⟨x0, x1, x2, x3, z0, z1, z2, z3⟩ := obj_cells hM.b1
              by_cases hdl : d < q0.tail.length
              · obtain ⟨tb, tof, rfl, hTc⟩ := unhide HTc d hdl
                have g := hTc _ hb
                have hdl' : (d : Int) < q0.tail.length := by omega
                by_cases hz : q0.tail.getD d 0 = v
                · have hns0 : 0 < ns.length := hLns (by omega)
                  have hdm : d % ns.length < ns.length := Nat.mod_lt _ hns0
                  obtain ⟨b, o, ha, -, hcx⟩ := unhide HX _ hdm
                  have g2 := hcx _ hM.bel
                  have hyb := unhide H64 _ (List.getElem_mem hdm)
                  have HL1 : Hid (Sp.mkL ns q0.tail v (d + 1) = Sp.insAt (Sp.mkL ns q0.tail v d) (Sp.mkK ns d (Sp.mkL ns q0.tail v d).length) d) := hide (by rw [unhide HL, if_pos hz])
                  have hKK : Sp.mkK ns d (Sp.mkL ns q0.tail v d).length = ((ns[d % ns.length].tdiv 7) % (((Sp.mkL ns q0.tail v d).length : Int) + 1)).toNat := by
                    unfold Sp.mkK
                    rw [if_neg (by omega), Sp.getD_eq _ _ hdm]
                  have hkk0 : 0 ≤ (ns[d % ns.length].tdiv 7) % (((Sp.mkL ns q0.tail v d).length : Int) + 1) := Int.emod_nonneg _ (by omega)
                  have hkle := Sp.mkK_le ns d (Sp.mkL ns q0.tail v d).length
                  obtain ⟨la, lc, rfl, hlc, hlm⟩ := hown.ints.form
                  rw [hz] at g
                  generalize ns[d % ns.length] = y at *
                  generalize Sp.mkK ns d (Sp.mkL ns q0.tail v d).length = kk at *
                  generalize Sp.mkL ns q0.tail v d = l at *
                  have hkkI : (y.tdiv 7) % ((l.length : Int) + 1) = (kk : Int) := by omega
                  have ht1 : (d : Int).tmod ns.length = ((d % ns.length : Nat) : Int) := by
                    rw [Int.tmod_eq_emod_of_nonneg (by omega)]; simp
                  have ht2 : (d : Int) % ns.length = ((d % ns.length : Nat) : Int) := by simp
                  have hdm' : ((d % ns.length : Nat) : Int) < ns.length := by omega
                  generalize d % ns.length = dm at *
                  have hyw : IntKind.i64.wrap (y.tdiv 7) = y.tdiv 7 := by
                    have h11 : -9223372036854775808 ≤ y.tdiv 7 ∧ y.tdiv 7 ≤ 9223372036854775807 := by
                      rcases Int.le_total 0 y with h | h
                      · rw [Int.tdiv_eq_ediv_of_nonneg h]; omega
                      · have e : y.tdiv 7 = -((-y) / 7) := by
                          rw [← Int.tdiv_eq_ediv_of_nonneg (by omega), Int.neg_tdiv, Int.neg_neg]
                        rw [e]; omega
                    rw [IntKind.wrap_i64]; omega
                  have HWi := hide (within_any (y.tdiv 7) ((l.length : Int) + 1) wr (by omega) (by omega))
                  rw [hkkI] at HWi
                  subst ha
                  have hzz : ((v : Int) == (v : Int)) = true := beq_self_eq_true _
                  have hns0' : (0 : Int) < ns.length := by omega
                  have Hown := hide hown
                  have hkl' : (kk : Int) ≤ l.length := by omega
                  have hlcI : (l.length : Int) ≤ lc := by omega
                  have hkc : (kk : Int) ≤ lc := by omega
                  have hk0' : (0 : Int) ≤ (kk : Int) := by omega
                  clear hTc hz HL hKK hkk0 hkkI hyb hcx hown hM
                  go_wp2_with fail
                  refine (unhide HWi).mono ?_
                  rintro e w3 ⟨rfl, rfl⟩
                  clear HWi ht1 ht2
                  go_upto_region 18 with fail
                  refine wp_region_G (fun _ => True) (fun _ => false) (by kernel_rfl) trivial (fun hHeld => ?_)
                  have HU : Hid (∀ w', Below w3.drew.heap.size w3.drew w' → Ints w' (.slice la kk lc) (l.take kk)) := hide fun w' hw => ((own_drew (unhide Hown)).ints.below hw).take kk (by omega)
                  have HU2 : Hid (∀ w', Below w3.drew.heap.size w3.drew w' → Ints w' (.slice (if lc = kk then la else Option.map (fun x => x.add kk) la) (l.length - kk) (lc - kk)) (l.drop kk)) := hide fun w' hw => ((own_drew (unhide Hown)).ints.below hw).drop kk (by omega)
                  have hbd : Hid (Below WR.heap.size WR w3.drew) := hide hb.drew
                  clear x0 x1 x2 x3 z0 z1 z2 z3 g g2 hb
                  generalize w3.drew = W3 at *
                  refine wpAnyG_take (v := ?_) 1 (by rfl) (by kernel_rfl) (by kernel_rfl) (by kernel_rfl) (by kernel_rfl) (fun _ _ _ h => h) (Or.inl ⟨by rfl, ?_⟩) (by assumption) ?_
                  rotate_left
                  · (intro w' hSw; (try dsimp only at hSw); (try simp only [List.getElem_toArray, List.getElem_cons_succ, List.getElem_cons_zero]); go_simp; try (with_reducible rfl))
                  simp only [Act.put, List.getElem_toArray, List.getElem_cons_succ, List.getElem_cons_zero, List.setIfInBounds_toArray, List.set_cons_zero, List.set_cons_succ]
                  refine wpAnyG_take (v := ?_) 2 (by rfl) (by kernel_rfl) (by kernel_rfl) (by kernel_rfl) (by kernel_rfl) (fun _ _ _ h => h) (Or.inl ⟨by rfl, ?_⟩) (by assumption) ?_
                  rotate_left
                  · (intro w' hSw; (try dsimp only at hSw); (try simp only [List.getElem_toArray, List.getElem_cons_succ, List.getElem_cons_zero]); go_simp; try (with_reducible rfl))
                  simp only [Act.put, List.getElem_toArray, List.getElem_cons_succ, List.getElem_cons_zero, List.setIfInBounds_toArray, List.set_cons_zero, List.set_cons_succ]
                  refine wpAnyG_take (v := ?_) 3 (by rfl) (by kernel_rfl) (by kernel_rfl) (by kernel_rfl) (by kernel_rfl) (fun _ _ _ h => h) (Or.inl ⟨by rfl, ?_⟩) (by assumption) ?_
                  rotate_left
                  · (intro w' hSw; (try dsimp only at hSw); (try simp only [List.getElem_toArray, List.getElem_cons_succ, List.getElem_cons_zero]); go_simp; try (with_reducible rfl))
                  simp only [Act.put, List.getElem_toArray, List.getElem_cons_succ, List.getElem_cons_zero, List.setIfInBounds_toArray, List.set_cons_zero, List.set_cons_succ]
                  refine wpAnyG_take (v := ?_) 5 (by rfl) (by kernel_rfl) (by kernel_rfl) (by kernel_rfl) (by kernel_rfl) (fun _ _ _ h => h) (Or.inl ⟨by rfl, ?_⟩) (by assumption) ?_
                  rotate_left
                  · (intro w' hSw; (try dsimp only at hSw); (try simp only [List.getElem_toArray, List.getElem_cons_succ, List.getElem_cons_zero]); go_simp; try (with_reducible rfl))
                  simp only [Act.put, List.getElem_toArray, List.getElem_cons_succ, List.getElem_cons_zero, List.setIfInBounds_toArray, List.set_cons_zero, List.set_cons_succ]
                  refine wpAnyG_take (v := ?_) 8 (by rfl) (by kernel_rfl) (by kernel_rfl) (by kernel_rfl) (by kernel_rfl) (fun _ _ _ h => h) (Or.inl ⟨by rfl, ?_⟩) (by assumption) ?_
                  rotate_left
                  · (intro w' hSw; (try dsimp only at hSw); (try simp only [List.getElem_toArray, List.getElem_cons_succ, List.getElem_cons_zero]); go_simp; try (with_reducible rfl))
                  simp only [Act.put, List.getElem_toArray, List.getElem_cons_succ, List.getElem_cons_zero, List.setIfInBounds_toArray, List.set_cons_zero, List.set_cons_succ]
                  refine wpAnyG_take (v := ?_) 9 (by rfl) (by kernel_rfl) (by kernel_rfl) (by kernel_rfl) (by kernel_rfl) (fun _ _ _ h => h) (Or.inl ⟨by rfl, ?_⟩) (by assumption) ?_
                  rotate_left
                  · (intro w' hSw; (try dsimp only at hSw); (try simp only [List.getElem_toArray, List.getElem_cons_succ, List.getElem_cons_zero]); go_simp; try (with_reducible rfl))
                  simp only [Act.put, List.getElem_toArray, List.getElem_cons_succ, List.getElem_cons_zero, List.setIfInBounds_toArray, List.set_cons_zero, List.set_cons_succ]
                  refine wpAnyG_take (v := ?_) 10 (by rfl) (by kernel_rfl) (by kernel_rfl) (by kernel_rfl) (by kernel_rfl) (fun _ _ _ h => h) (Or.inl ⟨by rfl, ?_⟩) (by assumption) ?_
                  rotate_left
                  · (intro w' hSw; (try dsimp only at hSw); (try simp only [List.getElem_toArray, List.getElem_cons_succ, List.getElem_cons_zero]); go_simp; try (with_reducible rfl))
                  simp only [Act.put, List.getElem_toArray, List.getElem_cons_succ, List.getElem_cons_zero, List.setIfInBounds_toArray, List.set_cons_zero, List.set_cons_succ]
                  refine wpAnyG_ready [0, 6] (by kernel_rfl) (by simp) ?_
                  refine AllReadyG.cons 0 (by rfl) (fun K hK => ?_) ?_
                  · simp only [List.getElem_toArray, List.getElem_cons_zero]
                    go_simp
                    refine hK.out _ _ trivial (fun _ => ?_)
                    clear hK K
                    try simp only [Act.put, List.setIfInBounds_toArray, List.set_cons_zero, List.set_cons_succ]
                    refine wpAnyG_ready [4, 6] (by kernel_rfl) (by simp) ?_
                    refine AllReadyG.cons 4 (by rfl) (fun K hK => ?_) ?_
                    · simp only [List.getElem_toArray, List.getElem_cons_succ, List.getElem_cons_zero]
                      refine if_wanted (by rfl) (wp_app (w := W3.alloc (.cells #[] 3)) _ _ (by rfl) W3.heap.size _ _ [] (l.take kk) (by rfl) (by rfl) (own_lit (W3) _ (W3.heap.size) 0 [] (by simp) rfl (by first | omega | (simp; done) | (simp; omega)) (by simp)) (unhide HU _ (by repeat (first | assumption | exact Below.refl _ _ | refine Below.drew ?_ | refine Below.alloc ?_ (by first | omega | (simp; done) | (simp; omega)) _))) kk (by simp; omega) (by omega) (by first | omega | (simp; done) | (simp; omega)) ?_)
                      intro a5 c5 w5 hown5 hb5 hgr5
                      have hb5' : Below W3.heap.size W3 w5 := Below.trans (by repeat (first | assumption | exact Below.refl _ _ | refine Below.drew ?_ | refine Below.alloc ?_ (by first | omega | (simp; done) | (simp; omega)) _)) hb5
                      have hs5 := hb5'.size
                      skip
                      clear hb5 hgr5
                      refine hK.out _ _ trivial (fun _ => ?_)
                      clear hK K
                      try simp only [Act.put, List.setIfInBounds_toArray, List.set_cons_zero, List.set_cons_succ]
                      refine wpAnyG_ready [6] (by kernel_rfl) (by simp) ?_
                      refine AllReadyG.cons 6 (by rfl) (fun K hK => ?_) ?_
                      · simp only [List.getElem_toArray, List.getElem_cons_succ, List.getElem_cons_zero]
                        go_simp
                        refine hK.out _ _ trivial (fun _ => ?_)
                        clear hK K
                        try simp only [Act.put, List.setIfInBounds_toArray, List.set_cons_zero, List.set_cons_succ]
                        refine wpAnyG_ready [7] (by kernel_rfl) (by simp) ?_
                        refine AllReadyG.cons 7 (by rfl) (fun K hK => ?_) ?_
                        · simp only [List.getElem_toArray, List.getElem_cons_succ, List.getElem_cons_zero]
                          refine if_wanted (by rfl) (wp_app (w := w5.alloc (.cells #[.int .i64 (d : Int)] 3)) _ _ (by rfl) W3.heap.size _ _ (l.take kk) [(d : Int)] (by rfl) (by rfl) (World.ownsRow.alloc hown5 _) (OwnI.ints (own_lit (w5) 0 (w5.heap.size) 1 [(d : Int)] (by simp) rfl (by omega) (by simp))) (kk + 1) (by simp; omega) (by omega) (by first | omega | (simp; done) | (simp; omega)) ?_)
                          intro a6 c6 w6 hown6 hb6 hgr6
                          have hb6' : Below W3.heap.size W3 w6 := Below.trans (by repeat (first | assumption | exact Below.refl _ _ | refine Below.drew ?_ | refine Below.alloc ?_ (by first | omega | (simp; done) | (simp; omega)) _)) hb6
                          have hs6 := hb6'.size
                          clear hb6 hgr6
                          refine hK.out _ _ trivial (fun _ => ?_)
                          clear hK K
                          try simp only [Act.put, List.setIfInBounds_toArray, List.set_cons_zero, List.set_cons_succ]
                          refine wpAnyG_ready [11] (by kernel_rfl) (by simp) ?_
                          refine AllReadyG.cons 11 (by rfl) (fun K hK => ?_) ?_
                          · simp only [List.getElem_toArray, List.getElem_cons_succ, List.getElem_cons_zero]
                            refine if_wanted (by rfl) (wp_app (w := w6) _ _ (by rfl) W3.heap.size _ _ (l.take kk ++ [(d : Int)]) (l.drop kk) (by rfl) (by rfl) hown6 (unhide HU2 _ hb6') (l.length + 1) (by simp; omega) (by omega) (by first | omega | (simp; done) | (simp; omega)) ?_)
                            intro a7 c7 w7 hown7 hb7 hgr7
                            have hb7' : Below W3.heap.size W3 w7 := hb6'.trans hb7
                            clear hb7 hgr7
                            refine hK.out _ _ trivial (fun _ => ?_)
                            clear hK K
                            try simp only [Act.put, List.setIfInBounds_toArray, List.set_cons_zero, List.set_cons_succ]
                            refine wpAnyG_takeW (v := ?_) 12 (by rfl) (by kernel_rfl) (by kernel_rfl) (by kernel_rfl) (by kernel_rfl) (fun _ _ _ h => h) (Or.inl ⟨by rfl, ?_⟩) (by assumption) ?_
                            rotate_left
                            · (intro w' hSw; (try dsimp only at hSw); (try simp only [List.getElem_toArray, List.getElem_cons_succ, List.getElem_cons_zero]); go_simp; try (with_reducible rfl))
                            simp only [Act.put, List.getElem_toArray, List.getElem_cons_succ, List.getElem_cons_zero, List.setIfInBounds_toArray, List.set_cons_zero, List.set_cons_succ]
                            refine wpAnyG_done (by kernel_rfl) ?_ _
                            refine NoPanic.normal ?_
                            go_wp2
                            go_roundw
                            case rel =>
                              have e : Sp.insAt l kk (d : Int) = l.take kk ++ [(d : Int)] ++ l.drop kk := by simp [Sp.insAt]
                              have hbz := (unhide hbd).trans (hb7'.mono (unhide hbd).size)
                              refine ⟨d + 1, _, rfl, by omega, by go_num, ?_, ?_, hbz⟩
                              · rw [unhide HL1, e]
                                exact own_base hown7 (unhide hbd).size
                              · rw [unhide HL1]
                                intro h
                                have := congrArg List.length h
                                rw [Sp.insAt_len] at this
                                cases this
                            case measure => simp [intOf]; omega
                          exact AllReadyG.nil
                        exact AllReadyG.nil
                      exact AllReadyG.nil
                    refine AllReadyG.cons 6 (by rfl) (fun K hK => ?_) ?_
                    · simp only [List.getElem_toArray, List.getElem_cons_succ, List.getElem_cons_zero]
                      go_simp
                      refine hK.out _ _ trivial (fun _ => ?_)
                      clear hK K
                      try simp only [Act.put, List.setIfInBounds_toArray, List.set_cons_zero, List.set_cons_succ]
                      refine wpAnyG_ready [4] (by kernel_rfl) (by simp) ?_
                      refine AllReadyG.cons 4 (by rfl) (fun K hK => ?_) ?_
                      · simp only [List.getElem_toArray, List.getElem_cons_succ, List.getElem_cons_zero]
                        refine if_wanted (by rfl) (wp_app (w := (W3.alloc (.cells #[] 3)).alloc (.cells #[.int .i64 (d : Int)] 3)) _ _ (by rfl) W3.heap.size _ _ [] (l.take kk) (by rfl) (by rfl) (World.ownsRow.alloc (own_lit (W3) _ (W3.heap.size) 0 [] (by simp) rfl (by first | omega | (simp; done) | (simp; omega)) (by simp)) _) (unhide HU _ (by repeat (first | assumption | exact Below.refl _ _ | refine Below.drew ?_ | refine Below.alloc ?_ (by first | omega | (simp; done) | (simp; omega)) _))) kk (by simp; omega) (by omega) (by first | omega | (simp; done) | (simp; omega)) ?_)
                        intro a5 c5 w5 hown5 hb5 hgr5
                        have hb5' : Below W3.heap.size W3 w5 := Below.trans (by repeat (first | assumption | exact Below.refl _ _ | refine Below.drew ?_ | refine Below.alloc ?_ (by first | omega | (simp; done) | (simp; omega)) _)) hb5
                        have hs5 := hb5'.size
                        have hlit5 := lit_kept (own_lit (W3.alloc (.cells #[] 3)) 0 (W3.heap.size + 1) 1 [(d : Int)] (by simp) rfl (by omega) (by simp)) hgr5 (by first | omega | (simp; done) | (simp; omega))
                        clear hb5 hgr5
                        refine hK.out _ _ trivial (fun _ => ?_)
                        clear hK K
                        try simp only [Act.put, List.setIfInBounds_toArray, List.set_cons_zero, List.set_cons_succ]
                        refine wpAnyG_ready [7] (by kernel_rfl) (by simp) ?_
                        refine AllReadyG.cons 7 (by rfl) (fun K hK => ?_) ?_
                        · simp only [List.getElem_toArray, List.getElem_cons_succ, List.getElem_cons_zero]
                          refine if_wanted (by rfl) (wp_app (w := w5) _ _ (by rfl) W3.heap.size _ _ (l.take kk) [(d : Int)] (by rfl) (by rfl) (hown5) (OwnI.ints (hlit5)) (kk + 1) (by simp; omega) (by omega) (by first | omega | (simp; done) | (simp; omega)) ?_)
                          intro a6 c6 w6 hown6 hb6 hgr6
                          have hb6' : Below W3.heap.size W3 w6 := Below.trans (by repeat (first | assumption | exact Below.refl _ _ | refine Below.drew ?_ | refine Below.alloc ?_ (by first | omega | (simp; done) | (simp; omega)) _)) hb6
                          have hs6 := hb6'.size
                          clear hb6 hgr6
                          refine hK.out _ _ trivial (fun _ => ?_)
                          clear hK K
                          try simp only [Act.put, List.setIfInBounds_toArray, List.set_cons_zero, List.set_cons_succ]
                          refine wpAnyG_ready [11] (by kernel_rfl) (by simp) ?_
                          refine AllReadyG.cons 11 (by rfl) (fun K hK => ?_) ?_
                          · simp only [List.getElem_toArray, List.getElem_cons_succ, List.getElem_cons_zero]
                            refine if_wanted (by rfl) (wp_app (w := w6) _ _ (by rfl) W3.heap.size _ _ (l.take kk ++ [(d : Int)]) (l.drop kk) (by rfl) (by rfl) hown6 (unhide HU2 _ hb6') (l.length + 1) (by simp; omega) (by omega) (by first | omega | (simp; done) | (simp; omega)) ?_)
                            intro a7 c7 w7 hown7 hb7 hgr7
                            have hb7' : Below W3.heap.size W3 w7 := hb6'.trans hb7
                            clear hb7 hgr7
                            refine hK.out _ _ trivial (fun _ => ?_)
                            clear hK K
                            try simp only [Act.put, List.setIfInBounds_toArray, List.set_cons_zero, List.set_cons_succ]
                            refine wpAnyG_takeW (v := ?_) 12 (by rfl) (by kernel_rfl) (by kernel_rfl) (by kernel_rfl) (by kernel_rfl) (fun _ _ _ h => h) (Or.inl ⟨by rfl, ?_⟩) (by assumption) ?_
                            rotate_left
                            · (intro w' hSw; (try dsimp only at hSw); (try simp only [List.getElem_toArray, List.getElem_cons_succ, List.getElem_cons_zero]); go_simp; try (with_reducible rfl))
                            simp only [Act.put, List.getElem_toArray, List.getElem_cons_succ, List.getElem_cons_zero, List.setIfInBounds_toArray, List.set_cons_zero, List.set_cons_succ]
                            refine wpAnyG_done (by kernel_rfl) ?_ _
                            refine NoPanic.normal ?_
                            go_wp2
                            go_roundw
                            case rel =>
                              have e : Sp.insAt l kk (d : Int) = l.take kk ++ [(d : Int)] ++ l.drop kk := by simp [Sp.insAt]
                              have hbz := (unhide hbd).trans (hb7'.mono (unhide hbd).size)
                              refine ⟨d + 1, _, rfl, by omega, by go_num, ?_, ?_, hbz⟩
                              · rw [unhide HL1, e]
                                exact own_base hown7 (unhide hbd).size
                              · rw [unhide HL1]
                                intro h
                                have := congrArg List.length h
                                rw [Sp.insAt_len] at this
                                cases this
                            case measure => simp [intOf]; omega
                          exact AllReadyG.nil
                        exact AllReadyG.nil
                      exact AllReadyG.nil
                    exact AllReadyG.nil
                  refine AllReadyG.cons 6 (by rfl) (fun K hK => ?_) ?_
                  · simp only [List.getElem_toArray, List.getElem_cons_succ, List.getElem_cons_zero]
                    go_simp
                    refine hK.out _ _ trivial (fun _ => ?_)
                    clear hK K
                    try simp only [Act.put, List.setIfInBounds_toArray, List.set_cons_zero, List.set_cons_succ]
                    refine wpAnyG_ready [0] (by kernel_rfl) (by simp) ?_
                    refine AllReadyG.cons 0 (by rfl) (fun K hK => ?_) ?_
                    · simp only [List.getElem_toArray, List.getElem_cons_zero]
                      go_simp
                      refine hK.out _ _ trivial (fun _ => ?_)
                      clear hK K
                      try simp only [Act.put, List.setIfInBounds_toArray, List.set_cons_zero, List.set_cons_succ]
                      refine wpAnyG_ready [4] (by kernel_rfl) (by simp) ?_
                      refine AllReadyG.cons 4 (by rfl) (fun K hK => ?_) ?_
                      · simp only [List.getElem_toArray, List.getElem_cons_succ, List.getElem_cons_zero]
                        refine if_wanted (by rfl) (wp_app (w := (W3.alloc (.cells #[.int .i64 (d : Int)] 3)).alloc (.cells #[] 3)) _ _ (by rfl) W3.heap.size _ _ [] (l.take kk) (by rfl) (by rfl) (own_lit (W3.alloc (.cells #[.int .i64 (d : Int)] 3)) _ (W3.heap.size + 1) 0 [] (by simp) rfl (by first | omega | (simp; done) | (simp; omega)) (by simp)) (unhide HU _ (by repeat (first | assumption | exact Below.refl _ _ | refine Below.drew ?_ | refine Below.alloc ?_ (by first | omega | (simp; done) | (simp; omega)) _))) kk (by simp; omega) (by omega) (by first | omega | (simp; done) | (simp; omega)) ?_)
                        intro a5 c5 w5 hown5 hb5 hgr5
                        have hb5' : Below W3.heap.size W3 w5 := Below.trans (by repeat (first | assumption | exact Below.refl _ _ | refine Below.drew ?_ | refine Below.alloc ?_ (by first | omega | (simp; done) | (simp; omega)) _)) hb5
                        have hs5 := hb5'.size
                        have hlit5 := lit_kept (World.ownsRow.alloc (own_lit (W3) 0 (W3.heap.size) 1 [(d : Int)] (by simp) rfl (by omega) (by simp)) _) hgr5 (by first | omega | (simp; done) | (simp; omega))
                        clear hb5 hgr5
                        refine hK.out _ _ trivial (fun _ => ?_)
                        clear hK K
                        try simp only [Act.put, List.setIfInBounds_toArray, List.set_cons_zero, List.set_cons_succ]
                        refine wpAnyG_ready [7] (by kernel_rfl) (by simp) ?_
                        refine AllReadyG.cons 7 (by rfl) (fun K hK => ?_) ?_
                        · simp only [List.getElem_toArray, List.getElem_cons_succ, List.getElem_cons_zero]
                          refine if_wanted (by rfl) (wp_app (w := w5) _ _ (by rfl) W3.heap.size _ _ (l.take kk) [(d : Int)] (by rfl) (by rfl) (hown5) (OwnI.ints (hlit5)) (kk + 1) (by simp; omega) (by omega) (by first | omega | (simp; done) | (simp; omega)) ?_)
                          intro a6 c6 w6 hown6 hb6 hgr6
                          have hb6' : Below W3.heap.size W3 w6 := Below.trans (by repeat (first | assumption | exact Below.refl _ _ | refine Below.drew ?_ | refine Below.alloc ?_ (by first | omega | (simp; done) | (simp; omega)) _)) hb6
                          have hs6 := hb6'.size
                          clear hb6 hgr6
                          refine hK.out _ _ trivial (fun _ => ?_)
                          clear hK K
                          try simp only [Act.put, List.setIfInBounds_toArray, List.set_cons_zero, List.set_cons_succ]
                          refine wpAnyG_ready [11] (by kernel_rfl) (by simp) ?_
                          refine AllReadyG.cons 11 (by rfl) (fun K hK => ?_) ?_
                          · simp only [List.getElem_toArray, List.getElem_cons_succ, List.getElem_cons_zero]
                            refine if_wanted (by rfl) (wp_app (w := w6) _ _ (by rfl) W3.heap.size _ _ (l.take kk ++ [(d : Int)]) (l.drop kk) (by rfl) (by rfl) hown6 (unhide HU2 _ hb6') (l.length + 1) (by simp; omega) (by omega) (by first | omega | (simp; done) | (simp; omega)) ?_)
                            intro a7 c7 w7 hown7 hb7 hgr7
                            have hb7' : Below W3.heap.size W3 w7 := hb6'.trans hb7
                            clear hb7 hgr7
                            refine hK.out _ _ trivial (fun _ => ?_)
                            clear hK K
                            try simp only [Act.put, List.setIfInBounds_toArray, List.set_cons_zero, List.set_cons_succ]
                            refine wpAnyG_takeW (v := ?_) 12 (by rfl) (by kernel_rfl) (by kernel_rfl) (by kernel_rfl) (by kernel_rfl) (fun _ _ _ h => h) (Or.inl ⟨by rfl, ?_⟩) (by assumption) ?_
                            rotate_left
                            · (intro w' hSw; (try dsimp only at hSw); (try simp only [List.getElem_toArray, List.getElem_cons_succ, List.getElem_cons_zero]); go_simp; try (with_reducible rfl))
                            simp only [Act.put, List.getElem_toArray, List.getElem_cons_succ, List.getElem_cons_zero, List.setIfInBounds_toArray, List.set_cons_zero, List.set_cons_succ]
                            refine wpAnyG_done (by kernel_rfl) ?_ _
                            refine NoPanic.normal ?_
                            go_wp2
                            go_roundw
                            case rel =>
                              have e : Sp.insAt l kk (d : Int) = l.take kk ++ [(d : Int)] ++ l.drop kk := by simp [Sp.insAt]
                              have hbz := (unhide hbd).trans (hb7'.mono (unhide hbd).size)
                              refine ⟨d + 1, _, rfl, by omega, by go_num, ?_, ?_, hbz⟩
                              · rw [unhide HL1, e]
                                exact own_base hown7 (unhide hbd).size
                              · rw [unhide HL1]
                                intro h
                                have := congrArg List.length h
                                rw [Sp.insAt_len] at this
                                cases this
                            case measure => simp [intOf]; omega
                          exact AllReadyG.nil
                        exact AllReadyG.nil
                      exact AllReadyG.nil
                    exact AllReadyG.nil
                  exact AllReadyG.nil
                · have hL1 : Sp.mkL ns q0.tail v (d + 1) = Sp.mkL ns q0.tail v d := by rw [unhide HL, if_neg hz]
                  have HL1 := hide hL1
                  generalize q0.tail.getD d 0 = z at *
                  have hz' : (z == (v : Int)) = false := beq_eq_false_iff_ne.2 hz
                  have Hown := hide hown
                  have Hnil := hide hnil
                  clear hTc hM HL hL1 hown hnil
                  go_wp2
                  go_roundw
                  case rel => exact ⟨d + 1, _, rfl, by omega, by go_num, by rw [unhide HL1]; exact unhide Hown, by rw [unhide HL1]; exact unhide Hnil, hb⟩
                  case measure => simp [intOf]; omega
              · obtain rfl : d = q0.tail.length := by omega
                clear HL hnil
                have HC := hide (rround_any q (.agg #[.int .i64 n, .slice ta q0.tail.length tc, .slice na q.next.length nc, .slice ca q.cap.length cc]) (.slice ta q0.tail.length tc) (.slice na q.next.length nc) (.slice ca q.cap.length cc) lv v (Sp.mkL ns q0.tail v q0.tail.length) wr
                  ⟨by rw [(unhide Hr).1, (unhide hq).1], ((unhide HV).keep hb).tail.ints, ((unhide HV).keep hb).next.ints, ((unhide HV).keep hb).cap.ints⟩ hown.ints (by rw [(unhide Hr).2.1]; omega) (by rw [(unhide Hr).2.2.2, (unhide Hr).2.1, (unhide hq).2.1, (unhide hq).2.2.1])
                  (fun y hy => by
                    obtain ⟨e, e1, e2, e3⟩ := (Sp.mkL_mem _ _ _ _ _).1 hy
                    rw [(unhide Hr).2.1]
                    exact ⟨by omega, by omega, by rw [e2, Int.toNat_natCast]; exact e3⟩) (Sp.mkL_nodup _ _ _ _)
                  (fun d hd ht => by rw [(unhide Hr).2.1] at hd ht; exact (Sp.mkL_mem _ _ _ _ _).2 ⟨d, hd, rfl, ht⟩) (by omega))
                obtain ⟨la, lc, rfl, -, -⟩ := hown.ints.form
                have HVx := hide ((unhide HV).keep hb)
                have HMx := hide hM
                clear hown hM
                generalize Sp.mkL ns q0.tail v q0.tail.length = l at *
                go_wp2_with fail
                refine (unhide HC).mono ?_
                rintro e w4 ⟨nv4, rfl, hown4, hb4⟩
                rw [show q.n = n by rw [(unhide Hr).1, (unhide hq).1]]
                have hM4 := (unhide HMx).below hb4
                have HM4 := hide hM4
                have HO4 := hide hown4
                obtain ⟨na4, nc4, hn4, -, -⟩ := hown4.ints.form
                subst hn4
                clear HC x0 x1 x2 x3 z0 z1 z2 z3
                obtain ⟨x0, x1, x2, x3, z0, z1, z2, z3⟩ := obj_cells hM4.b1
                clear hM4 hown4
                go_wp2
                go_roundw
                case rel =>
                  have hv4 := (unhide HVx).keep hb4
                  have hsz := (unhide HMx).size
                  refine ⟨v + 1, _, _, _, by omega, by go_num, ?_, (unhide HM4).set n _ _ _⟩
                  rw [unhide HQ1]
                  exact ⟨by rw [← show q.n = n by rw [(unhide Hr).1, (unhide hq).1]]; rfl, four_own hv4.tail (by omega) n _ _ _, four_own (own_base (unhide HO4) (by omega)) (by omega) n _ _ _, four_own hv4.cap (by omega) n _ _ _, sep_bases (fun k hk => ((unhide HVx).tail.lt k hk).2) (unhide HO4), hv4.tc, sep_comm (sep_bases (fun k hk => ((unhide HVx).cap.lt k hk).2) (unhide HO4))⟩
                case measure => simp [intOf]; omega
          · obtain ⟨ta, tc, rfl, htc, htm⟩ := hV.tail.ints.form
            obtain ⟨na, nc, rfl, hnc, hnm⟩ := hV.next.ints.form
            obtain ⟨ca, cc, rfl, hcc, hcm⟩ := hV.cap.ints.form
            have hQ : Q = Sp.mkR ns q0 v := by rw [unhide HM', show n.toNat = v by omega]
            have HQ := hide hQ
            have Hn := hide (r1.trans (unhide hq).1)
            clear hQ r1 r2 r3 r4
            generalize Sp.mkR ns q0 v = q at *
            have HV := hide hV
            have HB := hide hM
            obtain ⟨x0, x1, x2, x3, z0, z1, z2, z3⟩ := obj_cells hM.b1
            obtain ⟨p0, p1, p2, p3, s0, s1, s2, s3⟩ := obj_cells hM.b0
            clear hV hM
            go_wp2
            have hfin := (unhide HB).done n (.slice ta q.tail.length tc) (.slice na q.next.length nc) (.slice ca q.cap.length cc)
            have HT' := four_own (unhide HV).tail (show w.heap.size < w.heap.size + 2 by omega) n (.slice ta q.tail.length tc) (.slice na q.next.length nc) (.slice ca q.cap.length cc)
            have HN' := four_own (unhide HV).next (show w.heap.size < w.heap.size + 2 by omega) n (.slice ta q.tail.length tc) (.slice na q.next.length nc) (.slice ca q.cap.length cc)
            have HC' := four_own (unhide HV).cap (show w.heap.size < w.heap.size + 2 by omega) n (.slice ta q.tail.length tc) (.slice na q.next.length nc) (.slice ca q.cap.length cc)
            have hbl' := four_below0 (unhide HB).bel n (.slice ta q.tail.length tc) (.slice na q.next.length nc) (.slice ca q.cap.length cc)
            clear p0 p1 p2 p3 s0 s1 s2 s3 x0 x1 x2 x3 z0 z1 z2 z3
            generalize (((wr.setCell ⟨w.heap.size, 0, none⟩ (.int .i64 n)).setCell ⟨w.heap.size, 1, none⟩ (.slice ta q.tail.length tc)).setCell ⟨w.heap.size, 2, none⟩ (.slice na q.next.length nc)).setCell ⟨w.heap.size, 3, none⟩ (.slice ca q.cap.length cc) = WF at *
            obtain ⟨r0, r1, r2, r3, -, -, -, -⟩ := obj_cells hfin
            have hNV : NetV WF w.heap.size (.agg #[.int .i64 n, .slice ta q.tail.length tc, .slice na q.next.length nc, .slice ca q.cap.length cc]) Q (.slice ta q.tail.length tc) (.slice na q.next.length nc) (.slice ca q.cap.length cc) := by
              rw [unhide HQ]
              exact ⟨by rw [unhide Hn], own_base HT' (by omega), own_base HN' (by omega), own_base HC' (by omega), (unhide HV).tn, (unhide HV).tc, (unhide HV).nc⟩
            refine bodyPost_ret (v := .agg #[.int .i64 n, .slice ta q.tail.length tc, .slice na q.next.length nc, .slice ca q.cap.length cc]) (by simp [results, Try.results14, go_sem, r0, r1, r2, r3]) rfl ?_
            first
              | exact ⟨_, _, _, _, rfl, hNV, hbl'⟩
              | exact ⟨⟨_, _, _, hNV⟩, hbl'⟩
              | exact ⟨_, rfl, ⟨_, _, _, hNV⟩, hbl'⟩
end Go.Proofs.Ytcdpgiklmonabaa


