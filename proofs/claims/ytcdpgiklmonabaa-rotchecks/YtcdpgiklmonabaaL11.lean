/- What the proof needs, part 11. -/
import Derived.Test.YtcdpgiklmonabaaL10
/- The law RotChecks, walked. -/
namespace Go.Proofs.Ytcdpgiklmonabaa
open Go Go.RowKit

/-- A net in its box, whatever it is. -/
structure ChkAt (w : World) (B : Nat) (wx : World) (q : Sp.Net) (tv nv cv : Value) : Prop where
  ob : wx.heap[B]? = some (.cells #[.int .i64 q.n, tv, nv, cv] 25 (0, 0))
  ni : NetI wx (.agg #[.int .i64 q.n, tv, nv, cv]) q tv nv cv
  bl : Below w.heap.size w wx
  lo : -9223372036854775808 ≤ q.n
  hi : q.n ≤ 9223372036854775807
set_option maxRecDepth 100000 in
set_option maxHeartbeats 8000000 in
theorem rotChecks_any (ns raw : List Int) (x y : Value) (which at_ v : Int) (w : World) (hx : Ints w x ns) (hy : Ints w y raw) (hv : -9223372036854775808 ≤ v ∧ v ≤ 9223372036854775807) :
    Calls Try.prog 3 #[x, .int .i64 which, .int .i64 at_, .int .i64 v, y] w fun e w' => e = .returned (.bool true) ∧ Below w.heap.size w w' := by
  obtain ⟨a, c, rfl, hc, hm⟩ := hx.form
  obtain ⟨a2, c2, rfl, hc2, hm2⟩ := hy.form
  have HPL := hide (fun w' (hb : Below w.heap.size w w') => plane_any ns (.slice a ns.length c) w' (hx.below hb))
  have HRw := hide (fun w' (hb : Below w.heap.size w w') => hy.below hb)
  have HOK := hide (Sp.plane_ok ns)
  generalize Sp.plane ns = q at *
  generalize ns.length = n at *
  clear hx hy
  obtain ⟨P, hP⟩ : ∃ P : Ending → World → Prop, P = fun e w' => e = .returned (.bool true) ∧ Below w.heap.size w w' := ⟨_, rfl⟩
  rw [← hP]
  have HP := hide hP
  clear hP
  obtain ⟨ln, hln⟩ : ∃ ln, q.tail.length = ln := ⟨_, rfl⟩
  have hl48 : ln ≤ 48 := by rw [← hln]; exact (unhide HOK).le
  have hnl : q.next.length = ln := by rw [(unhide HOK).nx, hln]
  have hcl : q.cap.length = ln := by rw [(unhide HOK).cp, hln]
  have Hln := hide hln
  have Hnl := hide hnl
  have Hcl := hide hcl
  clear hln hnl hcl
  have hn0 : 1 ≤ q.n := (unhide HOK).n0
  have hn1 : q.n ≤ 100 := by have := (unhide HOK).n1; omega
  obtain ⟨rl, hrl⟩ : ∃ rl, raw.length = rl := ⟨_, rfl⟩
  rw [hrl] at HRw hc2 ⊢
  clear hrl
  go_enter Try.func3, Try.ntmps3
  go_wp2_with fail
  go_at_call 9
  refine (known2_any w).mono ?_
  rintro e w2 ⟨rfl, hb2⟩
  have Hb2 := hide hb2
  clear hb2
  by_cases h300 : 300 < rl
  · have h300I : (300 : Int) < (rl : Int) := by omega
    go_wp2
    rw [unhide HP]
    exact ⟨by rfl, unhide Hb2⟩
  · have h300I : ¬ (300 : Int) < (rl : Int) := by omega
    have h300d : decide (300 < rl) = false := decide_eq_false h300
    go_wp2_with fail
    go_at_call 10
    refine (unhide HPL _ (unhide Hb2)).mono ?_
    clear HPL h300 h300I h300d
    rintro e w3 ⟨v0, tv, nv, cv, rfl, hnv, hb3⟩
    have hval := hnv.val
    subst hval
    obtain ⟨ta, tc, htv, htc, -⟩ := hnv.netI.tail.form
    rw [unhide Hln] at htc
    obtain ⟨na, nc, hnv', -, -⟩ := hnv.netI.next.form
    obtain ⟨ca, cc, hcv, -, -⟩ := hnv.netI.cap.form
    rw [unhide Hln] at htv
    rw [unhide Hnl] at hnv'
    rw [unhide Hcl] at hcv
    subst htv hnv' hcv
    obtain ⟨W4, hW4⟩ : ∃ W4, W4 = w3.alloc (.cells #[.int .i64 q.n, .slice ta ln tc, .slice na ln nc, .slice ca ln cc] 25) := ⟨_, rfl⟩
    have hs4 : W4.heap.size = w3.heap.size + 1 := by rw [hW4]; simp
    have hb34 : Below w3.heap.size w3 W4 := by rw [hW4]; exact (Below.refl _ w3).alloc (Nat.le_refl _) _
    have hbw3 : Below w.heap.size w w3 := (unhide Hb2).trans (hb3.mono (unhide Hb2).size)
    have hob : W4.heap[w3.heap.size]? = some (.cells #[.int .i64 q.n, .slice ta ln tc, .slice na ln nc, .slice ca ln cc] 25 (0, 0)) := by rw [hW4]; exact heap_alloc_new w3 _
    have HC0 : Hid (ChkAt w w3.heap.size W4 q (.slice ta ln tc) (.slice na ln nc) (.slice ca ln cc)) := hide ⟨hob, hnv.netI.below hb34, hbw3.trans (hb34.mono hbw3.size), by omega, by omega⟩
    -- the box alone
    have HBo : Hid (∀ wz, Below W4.heap.size W4 wz → Below w3.heap.size w3 wz ∧ wz.heap[w3.heap.size]? = some (.cells #[.int .i64 q.n, .slice ta ln tc, .slice na ln nc, .slice ca ln cc] 25 (0, 0))) := hide fun wz hb => ⟨hb34.trans (hb.mono (by omega)), (hb.block _ (by omega)).trans hob⟩
    have HBs : Hid (∀ wz, Below W4.heap.size W4 wz → ∀ y : Int, (-9223372036854775808 ≤ y ∧ y ≤ 9223372036854775807) → ChkAt w w3.heap.size (wz.setCell ⟨w3.heap.size, 0, none⟩ (.int .i64 y)) ⟨y, q.tail, q.next, q.cap⟩ (.slice ta ln tc) (.slice na ln nc) (.slice ca ln cc)) := hide fun wz hb y hy => by
      obtain ⟨h1, h2⟩ := unhide HBo wz hb
      have h3 : Below w3.heap.size w3 (wz.setCell ⟨w3.heap.size, 0, none⟩ (.int .i64 y)) := h1.setCell (by exact Nat.le_refl _) _
      exact ⟨by rw [heap_setCell_same wz w3.heap.size 0 _ _ _ h2]; rfl, ⟨rfl, hnv.netI.tail.below h3, hnv.netI.next.below h3, hnv.netI.cap.below h3⟩, hbw3.trans (h3.mono hbw3.size), hy.1, hy.2⟩
    have HRaw : Hid (ChkAt w w3.heap.size (W4.setCell ⟨w3.heap.size, 2, none⟩ (.slice a2 rl c2)) ⟨q.n, q.tail, raw, q.cap⟩ (.slice ta ln tc) (.slice a2 rl c2) (.slice ca ln cc)) := hide (by
      obtain ⟨h1, h2⟩ := unhide HBo W4 (Below.refl _ _)
      have h3 : Below w3.heap.size w3 (W4.setCell ⟨w3.heap.size, 2, none⟩ (.slice a2 rl c2)) := h1.setCell (by exact Nat.le_refl _) _
      have h4 := hbw3.trans (h3.mono hbw3.size)
      exact ⟨by rw [heap_setCell_same W4 w3.heap.size 2 _ _ _ h2]; rfl, ⟨rfl, hnv.netI.tail.below h3, unhide HRw _ h4, hnv.netI.cap.below h3⟩, h4, by show _ ≤ q.n; omega, by show q.n ≤ _; omega⟩)
    have HLs : Hid (0 < ln → ∃ g1 g2 g3, ta = some ⟨g1, 0, none⟩ ∧ na = some ⟨g2, 0, none⟩ ∧ ca = some ⟨g3, 0, none⟩ ∧ Hid (g2 ≠ w3.heap.size) ∧
        Hid (∀ j, j < ln → ∀ wz, Below W4.heap.size W4 wz → (∃ z, wz.cell? ⟨g1, j, none⟩ = some z ∧ wz.frozen? ⟨g1, j, none⟩ = false) ∧ ∀ y : Int, ChkAt w w3.heap.size (wz.setCell ⟨g1, j, none⟩ (.int .i64 y)) ⟨q.n, q.tail.set j y, q.next, q.cap⟩ (.slice (some ⟨g1, 0, none⟩) ln tc) (.slice (some ⟨g2, 0, none⟩) ln nc) (.slice (some ⟨g3, 0, none⟩) ln cc)) ∧
        Hid (∀ j, j < ln → ∀ wz, Below W4.heap.size W4 wz → (∃ z, wz.cell? ⟨g2, j, none⟩ = some z ∧ wz.frozen? ⟨g2, j, none⟩ = false) ∧ ∀ y : Int, ChkAt w w3.heap.size (wz.setCell ⟨g2, j, none⟩ (.int .i64 y)) ⟨q.n, q.tail, q.next.set j y, q.cap⟩ (.slice (some ⟨g1, 0, none⟩) ln tc) (.slice (some ⟨g2, 0, none⟩) ln nc) (.slice (some ⟨g3, 0, none⟩) ln cc)) ∧
        Hid (∀ j, j < ln → ∀ wz, Below W4.heap.size W4 wz → (∃ z, wz.cell? ⟨g3, j, none⟩ = some z ∧ wz.frozen? ⟨g3, j, none⟩ = false) ∧ ∀ y : Int, ChkAt w w3.heap.size (wz.setCell ⟨g3, j, none⟩ (.int .i64 y)) ⟨q.n, q.tail, q.next, q.cap.set j y⟩ (.slice (some ⟨g1, 0, none⟩) ln tc) (.slice (some ⟨g2, 0, none⟩) ln nc) (.slice (some ⟨g3, 0, none⟩) ln cc)) ∧
        Hid (∀ i j, i < ln → j < ln → ∀ wz, Below W4.heap.size W4 wz → wz.cell? ⟨g2, i, none⟩ = some (.int .i64 (q.next.getD i 0)) ∧ wz.frozen? ⟨g2, i, none⟩ = false ∧ ∀ y y' : Int, ChkAt w w3.heap.size ((wz.setCell ⟨g2, i, none⟩ (.int .i64 y)).setCell ⟨g2, j, none⟩ (.int .i64 y')) ⟨q.n, q.tail, (q.next.set i y).set j y', q.cap⟩ (.slice (some ⟨g1, 0, none⟩) ln tc) (.slice (some ⟨g2, 0, none⟩) ln nc) (.slice (some ⟨g3, 0, none⟩) ln cc))) := hide fun h0 => by
      obtain ⟨g1, c1, e1, b1, s1, -, -⟩ := own_form hnv.tail (by rw [unhide Hln]; exact h0)
      obtain ⟨g2, c2', e2, b2, s2, -, -⟩ := own_form hnv.next (by rw [unhide Hnl]; exact h0)
      obtain ⟨g3, c3, e3, b3, s3, -, -⟩ := own_form hnv.cap (by rw [unhide Hcl]; exact h0)
      injection e1 with e1
      injection e2 with e2
      injection e3 with e3
      subst e1 e2 e3
      have w2w := (unhide Hb2).size
      have n12 : g1 ≠ g2 := by
        intro e
        rcases hnv.tn with h | h
        · cases h
        · exact h (by rw [e]; rfl)
      have n13 : g1 ≠ g3 := by
        intro e
        rcases hnv.tc with h | h
        · cases h
        · exact h (by rw [e]; rfl)
      have n23 : g2 ≠ g3 := by
        intro e
        rcases hnv.nc with h | h
        · cases h
        · exact h (by rw [e]; rfl)
      have key : ∀ wz wz' g, Below W4.heap.size W4 wz → ButRow g wz wz' → g < w3.heap.size → w.heap.size ≤ g → wz'.heap[w3.heap.size]? = some (.cells #[.int .i64 q.n, .slice (some ⟨g1, 0, none⟩) ln tc, .slice (some ⟨g2, 0, none⟩) ln nc, .slice (some ⟨g3, 0, none⟩) ln cc] 25 (0, 0)) ∧ Below w.heap.size w wz' := fun wz wz' g hb hbt hg hgw => by
        obtain ⟨h1, h2⟩ := unhide HBo wz hb
        refine ⟨(hbt.block _ (by omega)).trans h2, ?_⟩
        have h3 := hbw3.trans (h1.mono hbw3.size)
        exact ⟨hbt.os.trans h3.os, hbt.tape.trans h3.tape, hbt.output.trans h3.output, by rw [hbt.size]; exact h3.size, fun k hk => (hbt.block k (by omega)).trans (h3.block k hk)⟩
      refine ⟨g1, g2, g3, rfl, rfl, rfl, hide (by omega), hide fun j hj wz hb => ?_, hide fun j hj wz hb => ?_, hide fun j hj wz hb => ?_, hide fun i j hi hj wz hb => ?_⟩
      · have hV := hnv.keep (unhide HBo wz hb).1
        refine ⟨⟨_, own_cell hV.tail j (by rw [unhide Hln]; exact hj), own_frozen hV.tail j⟩, fun y => ?_⟩
        have hbt := (ButRow.refl g1 wz).setCell j (.int .i64 y)
        obtain ⟨k1, k2⟩ := key wz _ g1 hb hbt s1 (by omega)
        exact ⟨k1, ⟨rfl, (own_setCell hV.tail j y).ints, (own_but hV.next hbt (fun e => n12 (by injection e with e; exact e.symm))).ints, (own_but hV.cap hbt (fun e => n13 (by injection e with e; exact e.symm))).ints⟩, k2, by show _ ≤ q.n; omega, by show q.n ≤ _; omega⟩
      · have hV := hnv.keep (unhide HBo wz hb).1
        refine ⟨⟨_, own_cell hV.next j (by rw [unhide Hnl]; exact hj), own_frozen hV.next j⟩, fun y => ?_⟩
        have hbt := (ButRow.refl g2 wz).setCell j (.int .i64 y)
        obtain ⟨k1, k2⟩ := key wz _ g2 hb hbt s2 (by omega)
        exact ⟨k1, ⟨rfl, (own_but hV.tail hbt (fun e => n12 (by injection e with e))).ints, (own_setCell hV.next j y).ints, (own_but hV.cap hbt (fun e => n23 (by injection e with e; exact e.symm))).ints⟩, k2, by show _ ≤ q.n; omega, by show q.n ≤ _; omega⟩
      · have hV := hnv.keep (unhide HBo wz hb).1
        refine ⟨⟨_, own_cell hV.cap j (by rw [unhide Hcl]; exact hj), own_frozen hV.cap j⟩, fun y => ?_⟩
        have hbt := (ButRow.refl g3 wz).setCell j (.int .i64 y)
        obtain ⟨k1, k2⟩ := key wz _ g3 hb hbt s3 (by omega)
        exact ⟨k1, ⟨rfl, (own_but hV.tail hbt (fun e => n13 (by injection e with e))).ints, (own_but hV.next hbt (fun e => n23 (by injection e with e))).ints, (own_setCell hV.cap j y).ints⟩, k2, by show _ ≤ q.n; omega, by show q.n ≤ _; omega⟩
      · have hV := hnv.keep (unhide HBo wz hb).1
        have hc := own_cell hV.next i (by rw [unhide Hnl]; exact hi)
        rw [← Sp.getD_eq] at hc
        refine ⟨hc, own_frozen hV.next i, fun y y' => ?_⟩
        have hbt := ((ButRow.refl g2 wz).setCell i (.int .i64 y)).setCell j (.int .i64 y')
        obtain ⟨k1, k2⟩ := key wz _ g2 hb hbt s2 (by omega)
        exact ⟨k1, ⟨rfl, (own_but hV.tail hbt (fun e => n12 (by injection e with e))).ints, (own_setCell (own_setCell hV.next i y) j y').ints, (own_but hV.cap hbt (fun e => n23 (by injection e with e; exact e.symm))).ints⟩, k2, by show _ ≤ q.n; omega, by show q.n ≤ _; omega⟩
    have HTk : Hid (∀ j, j ≤ ln → ∀ wz, Below W4.heap.size W4 wz → ChkAt w w3.heap.size (wz.setCell ⟨w3.heap.size, 1, none⟩ (.slice ta j tc)) ⟨q.n, q.tail.take j, q.next, q.cap⟩ (.slice ta j tc) (.slice na ln nc) (.slice ca ln cc)) := hide fun j hj wz hb => by
      obtain ⟨h1, h2⟩ := unhide HBo wz hb
      have h3 : Below w3.heap.size w3 (wz.setCell ⟨w3.heap.size, 1, none⟩ (.slice ta j tc)) := h1.setCell (by exact Nat.le_refl _) _
      refine ⟨by rw [heap_setCell_same wz w3.heap.size 1 _ _ _ h2]; rfl, ⟨rfl, ?_, hnv.netI.next.below h3, hnv.netI.cap.below h3⟩, hbw3.trans (h3.mono hbw3.size), by show _ ≤ q.n; omega, by show q.n ≤ _; omega⟩
      have ht := hnv.netI.tail.below h3
      obtain ⟨a', c', e1, e2, e3, e4⟩ := ht
      injection e1 with e1 e5 e6
      subst e1 e6
      have hlen : (q.tail.take j).length = j := by rw [List.length_take, unhide Hln]; omega
      refine ⟨ta, tc, by rw [hlen], by rw [hlen]; have := unhide Hln; omega, e3, fun k hk => ?_⟩
      rw [hlen] at hk
      obtain ⟨b, o, f1, f2, f3⟩ := e4 k (by rw [unhide Hln]; omega)
      exact ⟨b, o, f1, f2, by rw [f3, List.getElem_take]⟩
    have HW4 := hide hW4
    have Hs4 := hide hs4
    clear hnv hb3 Hb2 hob hb34 hs4 hW4 hbw3 HBo
    have HWi := hide (within2_any which 9 W4 (by decide) (by decide))
    have hwc : which % 9 = 0 ∨ which % 9 = 1 ∨ which % 9 = 2 ∨ which % 9 = 3 ∨ which % 9 = 4 ∨ which % 9 = 5 ∨ which % 9 = 6 ∨ which % 9 = 7 ∨ which % 9 = 8 := by omega
    generalize which % 9 = r at *
    obtain ⟨x0, x1, x2, x3, -, -, -, -⟩ := obj_cells (unhide HC0).ob
    go_wp2_with fail
    rw [← unhide HW4]
    go_at_call 11
    refine (unhide HWi).mono ?_
    rintro e w9 ⟨rfl, h9⟩
    have h9' := h9.symm
    clear h9 HWi x0 x1 x2 x3
    subst h9'
    rcases hwc with rfl | rfl | rfl | rfl | rfl | rfl | rfl | rfl | rfl
    · go_upto_region 9 with fail
      obtain ⟨x0, x1, x2, x3, f0, f1, f2, f3⟩ := obj_cells (unhide HC0).ob
      have HN := hide ((unhide HBs) W4 (Below.refl _ _) v hv)
      go_upto_region 32 with fail
      clear x0 x1 x2 x3 f0 f1 f2 f3
      have HC' : Hid (ChkAt w w3.heap.size (W4.setCell ⟨w3.heap.size, 0, none⟩ (.int .i64 v)) _ _ _ _) := hide (unhide HN)
      obtain ⟨qE, tE, nE, cE, HC⟩ : ∃ qE tE nE cE, Hid (ChkAt w w3.heap.size (W4.setCell ⟨w3.heap.size, 0, none⟩ (.int .i64 v)) qE tE nE cE) := ⟨_, _, _, _, HC'⟩
      clear HC'
      generalize W4.setCell ⟨w3.heap.size, 0, none⟩ (.int .i64 v) = wP at *
      have HS : Hid (∀ w', Below wP.heap.size wP w' → w'.cell? ⟨w3.heap.size, 0, none⟩ = some (.int .i64 qE.n) ∧ w'.cell? ⟨w3.heap.size, 1, none⟩ = some tE ∧ w'.cell? ⟨w3.heap.size, 2, none⟩ = some nE ∧ w'.cell? ⟨w3.heap.size, 3, none⟩ = some cE) := hide fun w' hb => by
        obtain ⟨e0, e1, e2, e3, -, -, -, -⟩ := obj_cells ((hb.block _ (heap_lt (unhide HC).ob)).trans (unhide HC).ob)
        exact ⟨e0, e1, e2, e3⟩
      have HK1 := hide (fun w' (hb : Below wP.heap.size wP w') => check_any qE _ _ _ _ w' ((unhide HC).ni.below hb) (unhide HC).lo (unhide HC).hi)
      have HK2 := hide (fun w' (hb : Below wP.heap.size wP w') => check2_any qE _ _ _ _ w' ((unhide HC).ni.below hb) (unhide HC).lo (unhide HC).hi)
      have HF : Hid (∀ w', Below wP.heap.size wP w' → Below w.heap.size w w') := hide fun w' hb => (unhide HC).bl.trans (hb.mono (unhide HC).bl.size)
      clear HC
      generalize Sp.checkI qE = ck at *
      have hck : (ck == ck) = true := beq_self_eq_true _
      go_upto_region 32 with fail
      have hb0 : Below wP.heap.size wP wP.drew := (Below.refl _ _).drew
      refine wp_region_G (fun w' => w'.cell? ⟨w3.heap.size, 0, none⟩ = some (.int .i64 qE.n) ∧ w'.cell? ⟨w3.heap.size, 1, none⟩ = some tE ∧ w'.cell? ⟨w3.heap.size, 2, none⟩ = some nE ∧ w'.cell? ⟨w3.heap.size, 3, none⟩ = some cE) (fun _ => false) (by kernel_rfl) (unhide HS _ hb0) (fun hHeld => ?_)
      generalize wP.drew = wq at *
      refine wpAnyG_take (v := ?_) 0 (by rfl) (by kernel_rfl) (by kernel_rfl) (by kernel_rfl) (by kernel_rfl) (fun _ _ _ h => h) (Or.inl ⟨by rfl, ?_⟩) (by assumption) ?_
      rotate_left
      · (intro w' hSw; (try dsimp only at hSw); (try simp only [List.getElem_toArray, List.getElem_cons_zero]); go_simp; try (with_reducible rfl))
      simp only [Act.put, List.getElem_toArray, List.getElem_cons_zero, List.setIfInBounds_toArray, List.set_cons_zero, List.set_cons_succ]
      refine wpAnyG_take (v := ?_) 2 (by rfl) (by kernel_rfl) (by kernel_rfl) (by kernel_rfl) (by kernel_rfl) (fun _ _ _ h => h) (Or.inl ⟨by rfl, ?_⟩) (by assumption) ?_
      rotate_left
      · (intro w' hSw; (try dsimp only at hSw); (try simp only [List.getElem_toArray, List.getElem_cons_succ, List.getElem_cons_zero]); go_simp; try (with_reducible rfl))
      simp only [Act.put, List.getElem_toArray, List.getElem_cons_succ, List.getElem_cons_zero, List.setIfInBounds_toArray, List.set_cons_zero, List.set_cons_succ]
      refine wpAnyG_ready [1] (by kernel_rfl) (by simp) ?_
      refine AllReadyG.cons 1 (by rfl) (fun K hK => ?_) ?_
      · simp only [List.getElem_toArray, List.getElem_cons_succ, List.getElem_cons_zero]
        go_simp
        go_at_call 12
        refine (unhide HK1 _ hb0).mono ?_
        rintro e wA ⟨rfl, hl1⟩
        have hb1 := hb0.trans (hl1.mono hb0.size)
        refine hK.out _ _ (unhide HS _ hb1) (fun _ => ?_)
        clear hK K
        try simp only [Act.put, List.setIfInBounds_toArray, List.set_cons_zero, List.set_cons_succ]
        refine wpAnyG_ready [3] (by kernel_rfl) (by simp) ?_
        refine AllReadyG.cons 3 (by rfl) (fun K hK => ?_) ?_
        · simp only [List.getElem_toArray, List.getElem_cons_succ, List.getElem_cons_zero]
          go_simp
          go_at_call 13
          refine (unhide HK2 _ hb1).mono ?_
          rintro e wB ⟨rfl, hl2⟩
          have hb2 := hb1.trans (hl2.mono hb1.size)
          refine hK.out _ _ (unhide HS _ hb2) (fun _ => ?_)
          clear hK K
          try simp only [Act.put, List.setIfInBounds_toArray, List.set_cons_zero, List.set_cons_succ]
          refine wpAnyG_take (v := ?_) 4 (by rfl) (by kernel_rfl) (by kernel_rfl) (by kernel_rfl) (by kernel_rfl) (fun _ _ _ h => h) (Or.inl ⟨by rfl, ?_⟩) (by assumption) ?_
          rotate_left
          · (intro w' hSw; (try dsimp only at hSw); (try simp only [List.getElem_toArray, List.getElem_cons_succ, List.getElem_cons_zero]); go_simp; try (with_reducible rfl))
          simp only [Act.put, List.getElem_toArray, List.getElem_cons_succ, List.getElem_cons_zero, List.setIfInBounds_toArray, List.set_cons_zero, List.set_cons_succ]
          refine wpAnyG_take (v := ?_) 5 (by rfl) (by kernel_rfl) (by kernel_rfl) (by kernel_rfl) (by kernel_rfl) (fun _ _ _ h => h) (Or.inl ⟨by rfl, ?_⟩) (by assumption) ?_
          rotate_left
          · (intro w' hSw; (try dsimp only at hSw); (try simp only [List.getElem_toArray, List.getElem_cons_succ, List.getElem_cons_zero]); go_simp; try (with_reducible rfl))
          simp only [Act.put, List.getElem_toArray, List.getElem_cons_succ, List.getElem_cons_zero, List.setIfInBounds_toArray, List.set_cons_zero, List.set_cons_succ]
          refine wpAnyG_done (by kernel_rfl) ?_ _
          refine NoPanic.normal ?_
          go_wp2
          rw [unhide HP]
          exact ⟨by rfl, unhide HF _ hb2⟩
        exact AllReadyG.nil
      exact AllReadyG.nil
    · go_upto_region 11 with fail
      obtain ⟨x0, x1, x2, x3, f0, f1, f2, f3⟩ := obj_cells (unhide HC0).ob
      have HWi := hide (fun w' => within2_any v 3 w' (by decide) (by decide))
      have vm0 := Int.emod_nonneg v (b := 3) (by decide)
      have vm1 := Int.emod_lt_of_pos v (b := 3) (by decide)
      generalize v % 3 = vm at *
      have hw1 : IntKind.i64.wrap (q.n + vm) = q.n + vm := by rw [IntKind.wrap_i64]; omega
      have hw2 : IntKind.i64.wrap (q.n + vm - 1) = q.n + vm - 1 := by rw [IntKind.wrap_i64]; omega
      have HN := hide ((unhide HBs) W4.drew (Below.refl _ _).drew (q.n + vm - 1) ⟨by omega, by omega⟩)
      have hS0 : W4.drew.cell? ⟨w3.heap.size, 0, none⟩ = some (.int .i64 q.n) := x0
      have y0 : W4.drew.frozen? ⟨w3.heap.size, 0, none⟩ = false := f0
      clear x0 x1 x2 x3 f0 f1 f2 f3
      refine wp_region_G (fun w' => w'.cell? ⟨w3.heap.size, 0, none⟩ = some (.int .i64 q.n)) (fun i => i == 7) (by kernel_rfl) hS0 (fun hHeld => ?_)
      generalize W4.drew = wq at *
      refine wpAnyG_take (v := ?_) 0 (by rfl) (by kernel_rfl) (by kernel_rfl) (by kernel_rfl) (by kernel_rfl) (fun _ _ _ h => h) (Or.inl ⟨by rfl, ?_⟩) (by assumption) ?_
      rotate_left
      · (intro w' hSw; (try dsimp only at hSw); (try simp only [List.getElem_toArray, List.getElem_cons_zero]); go_simp; try (with_reducible rfl))
      simp only [Act.put, List.getElem_toArray, List.getElem_cons_zero, List.setIfInBounds_toArray, List.set_cons_zero, List.set_cons_succ]
      refine wpAnyG_take (v := ?_) 1 (by rfl) (by kernel_rfl) (by kernel_rfl) (by kernel_rfl) (by kernel_rfl) (fun _ _ _ h => h) (Or.inl ⟨by rfl, ?_⟩) (by assumption) ?_
      rotate_left
      · (intro w' hSw; (try dsimp only at hSw); (try simp only [List.getElem_toArray, List.getElem_cons_succ, List.getElem_cons_zero]); go_simp; try (with_reducible rfl))
      simp only [Act.put, List.getElem_toArray, List.getElem_cons_succ, List.getElem_cons_zero, List.setIfInBounds_toArray, List.set_cons_zero, List.set_cons_succ]
      refine wpAnyG_take (v := ?_) 2 (by rfl) (by kernel_rfl) (by kernel_rfl) (by kernel_rfl) (by kernel_rfl) (fun _ _ _ h => h) (Or.inl ⟨by rfl, ?_⟩) (by assumption) ?_
      rotate_left
      · (intro w' hSw; (try dsimp only at hSw); (try simp only [List.getElem_toArray, List.getElem_cons_succ, List.getElem_cons_zero]); go_simp; try (with_reducible rfl))
      simp only [Act.put, List.getElem_toArray, List.getElem_cons_succ, List.getElem_cons_zero, List.setIfInBounds_toArray, List.set_cons_zero, List.set_cons_succ]
      refine wpAnyG_ready [3] (by kernel_rfl) (by simp) ?_
      refine AllReadyG.cons 3 (by rfl) (fun K hK => ?_) ?_
      · simp only [List.getElem_toArray, List.getElem_cons_succ, List.getElem_cons_zero]
        go_simp
        go_at_call 11
        refine (unhide HWi _).mono ?_
        rintro e w9 ⟨rfl, h9⟩
        have h9' := h9.symm
        clear h9
        subst h9'
        refine hK.out _ _ hS0 (fun _ => ?_)
        clear hK K
        try simp only [Act.put, List.setIfInBounds_toArray, List.set_cons_zero, List.set_cons_succ]
        refine wpAnyG_take (v := ?_) 4 (by rfl) (by kernel_rfl) (by kernel_rfl) (by kernel_rfl) (by kernel_rfl) (fun _ _ _ h => h) (Or.inl ⟨by rfl, ?_⟩) (by assumption) ?_
        rotate_left
        · (intro w' hSw; (try dsimp only at hSw); (try simp only [List.getElem_toArray, List.getElem_cons_succ, List.getElem_cons_zero]); go_simp; try (with_reducible rfl))
        simp only [Act.put, List.getElem_toArray, List.getElem_cons_succ, List.getElem_cons_zero, List.setIfInBounds_toArray, List.set_cons_zero, List.set_cons_succ]
        refine wpAnyG_take (v := ?_) 5 (by rfl) (by kernel_rfl) (by kernel_rfl) (by kernel_rfl) (by kernel_rfl) (fun _ _ _ h => h) (Or.inl ⟨by rfl, ?_⟩) (by assumption) ?_
        rotate_left
        · (intro w' hSw; (try dsimp only at hSw); (try simp only [List.getElem_toArray, List.getElem_cons_succ, List.getElem_cons_zero]); go_simp; try (with_reducible rfl))
        simp only [Act.put, List.getElem_toArray, List.getElem_cons_succ, List.getElem_cons_zero, List.setIfInBounds_toArray, List.set_cons_zero, List.set_cons_succ]
        refine wpAnyG_take (v := ?_) 6 (by rfl) (by kernel_rfl) (by kernel_rfl) (by kernel_rfl) (by kernel_rfl) (fun _ _ _ h => h) (Or.inl ⟨by rfl, ?_⟩) (by assumption) ?_
        rotate_left
        · (intro w' hSw; (try dsimp only at hSw); (try simp only [List.getElem_toArray, List.getElem_cons_succ, List.getElem_cons_zero]); go_simp; try (with_reducible rfl))
        simp only [Act.put, List.getElem_toArray, List.getElem_cons_succ, List.getElem_cons_zero, List.setIfInBounds_toArray, List.set_cons_zero, List.set_cons_succ]
        refine wpAnyG_ready [7] (by kernel_rfl) (by simp) ?_
        refine AllReadyG.last 7 (by rfl) (by kernel_rfl) (fun K hK => ?_) ?_
        · simp only [List.getElem_toArray, List.getElem_cons_succ, List.getElem_cons_zero]
          go_simp
          refine hK.out _ _ ?_
          clear hK K
          try simp only [Act.put, List.setIfInBounds_toArray, List.set_cons_zero, List.set_cons_succ]
          refine wpAnyG_done (by kernel_rfl) ?_ _
          refine NoPanic.normal ?_
          have HC' : Hid (ChkAt w w3.heap.size (wq.setCell ⟨w3.heap.size, 0, none⟩ (.int .i64 (q.n + vm - 1))) _ _ _ _) := hide (unhide HN)
          obtain ⟨qE, tE, nE, cE, HC⟩ : ∃ qE tE nE cE, Hid (ChkAt w w3.heap.size (wq.setCell ⟨w3.heap.size, 0, none⟩ (.int .i64 (q.n + vm - 1))) qE tE nE cE) := ⟨_, _, _, _, HC'⟩
          clear HC'
          generalize wq.setCell ⟨w3.heap.size, 0, none⟩ (.int .i64 (q.n + vm - 1)) = wP at *
          have HS : Hid (∀ w', Below wP.heap.size wP w' → w'.cell? ⟨w3.heap.size, 0, none⟩ = some (.int .i64 qE.n) ∧ w'.cell? ⟨w3.heap.size, 1, none⟩ = some tE ∧ w'.cell? ⟨w3.heap.size, 2, none⟩ = some nE ∧ w'.cell? ⟨w3.heap.size, 3, none⟩ = some cE) := hide fun w' hb => by
            obtain ⟨e0, e1, e2, e3, -, -, -, -⟩ := obj_cells ((hb.block _ (heap_lt (unhide HC).ob)).trans (unhide HC).ob)
            exact ⟨e0, e1, e2, e3⟩
          have HK1 := hide (fun w' (hb : Below wP.heap.size wP w') => check_any qE _ _ _ _ w' ((unhide HC).ni.below hb) (unhide HC).lo (unhide HC).hi)
          have HK2 := hide (fun w' (hb : Below wP.heap.size wP w') => check2_any qE _ _ _ _ w' ((unhide HC).ni.below hb) (unhide HC).lo (unhide HC).hi)
          have HF : Hid (∀ w', Below wP.heap.size wP w' → Below w.heap.size w w') := hide fun w' hb => (unhide HC).bl.trans (hb.mono (unhide HC).bl.size)
          clear HC
          generalize Sp.checkI qE = ck at *
          have hck : (ck == ck) = true := beq_self_eq_true _
          go_upto_region 32 with fail
          have hb0 : Below wP.heap.size wP wP.drew := (Below.refl _ _).drew
          refine wp_region_G (fun w' => w'.cell? ⟨w3.heap.size, 0, none⟩ = some (.int .i64 qE.n) ∧ w'.cell? ⟨w3.heap.size, 1, none⟩ = some tE ∧ w'.cell? ⟨w3.heap.size, 2, none⟩ = some nE ∧ w'.cell? ⟨w3.heap.size, 3, none⟩ = some cE) (fun _ => false) (by kernel_rfl) (unhide HS _ hb0) (fun hHeld => ?_)
          generalize wP.drew = wq at *
          refine wpAnyG_take (v := ?_) 0 (by rfl) (by kernel_rfl) (by kernel_rfl) (by kernel_rfl) (by kernel_rfl) (fun _ _ _ h => h) (Or.inl ⟨by rfl, ?_⟩) (by assumption) ?_
          rotate_left
          · (intro w' hSw; (try dsimp only at hSw); (try simp only [List.getElem_toArray, List.getElem_cons_zero]); go_simp; try (with_reducible rfl))
          simp only [Act.put, List.getElem_toArray, List.getElem_cons_zero, List.setIfInBounds_toArray, List.set_cons_zero, List.set_cons_succ]
          refine wpAnyG_take (v := ?_) 2 (by rfl) (by kernel_rfl) (by kernel_rfl) (by kernel_rfl) (by kernel_rfl) (fun _ _ _ h => h) (Or.inl ⟨by rfl, ?_⟩) (by assumption) ?_
          rotate_left
          · (intro w' hSw; (try dsimp only at hSw); (try simp only [List.getElem_toArray, List.getElem_cons_succ, List.getElem_cons_zero]); go_simp; try (with_reducible rfl))
          simp only [Act.put, List.getElem_toArray, List.getElem_cons_succ, List.getElem_cons_zero, List.setIfInBounds_toArray, List.set_cons_zero, List.set_cons_succ]
          refine wpAnyG_ready [1] (by kernel_rfl) (by simp) ?_
          refine AllReadyG.cons 1 (by rfl) (fun K hK => ?_) ?_
          · simp only [List.getElem_toArray, List.getElem_cons_succ, List.getElem_cons_zero]
            go_simp
            go_at_call 12
            refine (unhide HK1 _ hb0).mono ?_
            rintro e wA ⟨rfl, hl1⟩
            have hb1 := hb0.trans (hl1.mono hb0.size)
            refine hK.out _ _ (unhide HS _ hb1) (fun _ => ?_)
            clear hK K
            try simp only [Act.put, List.setIfInBounds_toArray, List.set_cons_zero, List.set_cons_succ]
            refine wpAnyG_ready [3] (by kernel_rfl) (by simp) ?_
            refine AllReadyG.cons 3 (by rfl) (fun K hK => ?_) ?_
            · simp only [List.getElem_toArray, List.getElem_cons_succ, List.getElem_cons_zero]
              go_simp
              go_at_call 13
              refine (unhide HK2 _ hb1).mono ?_
              rintro e wB ⟨rfl, hl2⟩
              have hb2 := hb1.trans (hl2.mono hb1.size)
              refine hK.out _ _ (unhide HS _ hb2) (fun _ => ?_)
              clear hK K
              try simp only [Act.put, List.setIfInBounds_toArray, List.set_cons_zero, List.set_cons_succ]
              refine wpAnyG_take (v := ?_) 4 (by rfl) (by kernel_rfl) (by kernel_rfl) (by kernel_rfl) (by kernel_rfl) (fun _ _ _ h => h) (Or.inl ⟨by rfl, ?_⟩) (by assumption) ?_
              rotate_left
              · (intro w' hSw; (try dsimp only at hSw); (try simp only [List.getElem_toArray, List.getElem_cons_succ, List.getElem_cons_zero]); go_simp; try (with_reducible rfl))
              simp only [Act.put, List.getElem_toArray, List.getElem_cons_succ, List.getElem_cons_zero, List.setIfInBounds_toArray, List.set_cons_zero, List.set_cons_succ]
              refine wpAnyG_take (v := ?_) 5 (by rfl) (by kernel_rfl) (by kernel_rfl) (by kernel_rfl) (by kernel_rfl) (fun _ _ _ h => h) (Or.inl ⟨by rfl, ?_⟩) (by assumption) ?_
              rotate_left
              · (intro w' hSw; (try dsimp only at hSw); (try simp only [List.getElem_toArray, List.getElem_cons_succ, List.getElem_cons_zero]); go_simp; try (with_reducible rfl))
              simp only [Act.put, List.getElem_toArray, List.getElem_cons_succ, List.getElem_cons_zero, List.setIfInBounds_toArray, List.set_cons_zero, List.set_cons_succ]
              refine wpAnyG_done (by kernel_rfl) ?_ _
              refine NoPanic.normal ?_
              go_wp2
              rw [unhide HP]
              exact ⟨by rfl, unhide HF _ hb2⟩
            exact AllReadyG.nil
          exact AllReadyG.nil
        exact AllReadyG.nil
      exact AllReadyG.nil
    · by_cases hz : ln = 0
      · obtain ⟨qE, tE, nE, cE, HC⟩ : ∃ qE tE nE cE, Hid (ChkAt w w3.heap.size W4 qE tE nE cE) := ⟨_, _, _, _, hide (unhide HC0)⟩
        have hz0 : ¬ (0 : Int) < (ln : Int) := by omega
        have hz1 : ¬ 0 < ln := by omega
        have hz2 : decide (0 < ln) = false := decide_eq_false hz1
        clear hz
        have HS : Hid (∀ w', Below W4.heap.size W4 w' → w'.cell? ⟨w3.heap.size, 0, none⟩ = some (.int .i64 qE.n) ∧ w'.cell? ⟨w3.heap.size, 1, none⟩ = some tE ∧ w'.cell? ⟨w3.heap.size, 2, none⟩ = some nE ∧ w'.cell? ⟨w3.heap.size, 3, none⟩ = some cE) := hide fun w' hb => by
          obtain ⟨e0, e1, e2, e3, -, -, -, -⟩ := obj_cells ((hb.block _ (heap_lt (unhide HC).ob)).trans (unhide HC).ob)
          exact ⟨e0, e1, e2, e3⟩
        have HK1 := hide (fun w' (hb : Below W4.heap.size W4 w') => check_any qE _ _ _ _ w' ((unhide HC).ni.below hb) (unhide HC).lo (unhide HC).hi)
        have HK2 := hide (fun w' (hb : Below W4.heap.size W4 w') => check2_any qE _ _ _ _ w' ((unhide HC).ni.below hb) (unhide HC).lo (unhide HC).hi)
        have HF : Hid (∀ w', Below W4.heap.size W4 w' → Below w.heap.size w w') := hide fun w' hb => (unhide HC).bl.trans (hb.mono (unhide HC).bl.size)
        clear HC
        generalize Sp.checkI qE = ck at *
        have hck : (ck == ck) = true := beq_self_eq_true _
        go_upto_region 32 with fail
        have hb0 : Below W4.heap.size W4 W4.drew := (Below.refl _ _).drew
        refine wp_region_G (fun w' => w'.cell? ⟨w3.heap.size, 0, none⟩ = some (.int .i64 qE.n) ∧ w'.cell? ⟨w3.heap.size, 1, none⟩ = some tE ∧ w'.cell? ⟨w3.heap.size, 2, none⟩ = some nE ∧ w'.cell? ⟨w3.heap.size, 3, none⟩ = some cE) (fun _ => false) (by kernel_rfl) (unhide HS _ hb0) (fun hHeld => ?_)
        generalize W4.drew = wq at *
        refine wpAnyG_take (v := ?_) 0 (by rfl) (by kernel_rfl) (by kernel_rfl) (by kernel_rfl) (by kernel_rfl) (fun _ _ _ h => h) (Or.inl ⟨by rfl, ?_⟩) (by assumption) ?_
        rotate_left
        · (intro w' hSw; (try dsimp only at hSw); (try simp only [List.getElem_toArray, List.getElem_cons_zero]); go_simp; try (with_reducible rfl))
        simp only [Act.put, List.getElem_toArray, List.getElem_cons_zero, List.setIfInBounds_toArray, List.set_cons_zero, List.set_cons_succ]
        refine wpAnyG_take (v := ?_) 2 (by rfl) (by kernel_rfl) (by kernel_rfl) (by kernel_rfl) (by kernel_rfl) (fun _ _ _ h => h) (Or.inl ⟨by rfl, ?_⟩) (by assumption) ?_
        rotate_left
        · (intro w' hSw; (try dsimp only at hSw); (try simp only [List.getElem_toArray, List.getElem_cons_succ, List.getElem_cons_zero]); go_simp; try (with_reducible rfl))
        simp only [Act.put, List.getElem_toArray, List.getElem_cons_succ, List.getElem_cons_zero, List.setIfInBounds_toArray, List.set_cons_zero, List.set_cons_succ]
        refine wpAnyG_ready [1] (by kernel_rfl) (by simp) ?_
        refine AllReadyG.cons 1 (by rfl) (fun K hK => ?_) ?_
        · simp only [List.getElem_toArray, List.getElem_cons_succ, List.getElem_cons_zero]
          go_simp
          go_at_call 12
          refine (unhide HK1 _ hb0).mono ?_
          rintro e wA ⟨rfl, hl1⟩
          have hb1 := hb0.trans (hl1.mono hb0.size)
          refine hK.out _ _ (unhide HS _ hb1) (fun _ => ?_)
          clear hK K
          try simp only [Act.put, List.setIfInBounds_toArray, List.set_cons_zero, List.set_cons_succ]
          refine wpAnyG_ready [3] (by kernel_rfl) (by simp) ?_
          refine AllReadyG.cons 3 (by rfl) (fun K hK => ?_) ?_
          · simp only [List.getElem_toArray, List.getElem_cons_succ, List.getElem_cons_zero]
            go_simp
            go_at_call 13
            refine (unhide HK2 _ hb1).mono ?_
            rintro e wB ⟨rfl, hl2⟩
            have hb2 := hb1.trans (hl2.mono hb1.size)
            refine hK.out _ _ (unhide HS _ hb2) (fun _ => ?_)
            clear hK K
            try simp only [Act.put, List.setIfInBounds_toArray, List.set_cons_zero, List.set_cons_succ]
            refine wpAnyG_take (v := ?_) 4 (by rfl) (by kernel_rfl) (by kernel_rfl) (by kernel_rfl) (by kernel_rfl) (fun _ _ _ h => h) (Or.inl ⟨by rfl, ?_⟩) (by assumption) ?_
            rotate_left
            · (intro w' hSw; (try dsimp only at hSw); (try simp only [List.getElem_toArray, List.getElem_cons_succ, List.getElem_cons_zero]); go_simp; try (with_reducible rfl))
            simp only [Act.put, List.getElem_toArray, List.getElem_cons_succ, List.getElem_cons_zero, List.setIfInBounds_toArray, List.set_cons_zero, List.set_cons_succ]
            refine wpAnyG_take (v := ?_) 5 (by rfl) (by kernel_rfl) (by kernel_rfl) (by kernel_rfl) (by kernel_rfl) (fun _ _ _ h => h) (Or.inl ⟨by rfl, ?_⟩) (by assumption) ?_
            rotate_left
            · (intro w' hSw; (try dsimp only at hSw); (try simp only [List.getElem_toArray, List.getElem_cons_succ, List.getElem_cons_zero]); go_simp; try (with_reducible rfl))
            simp only [Act.put, List.getElem_toArray, List.getElem_cons_succ, List.getElem_cons_zero, List.setIfInBounds_toArray, List.set_cons_zero, List.set_cons_succ]
            refine wpAnyG_done (by kernel_rfl) ?_ _
            refine NoPanic.normal ?_
            go_wp2
            rw [unhide HP]
            exact ⟨by rfl, unhide HF _ hb2⟩
          exact AllReadyG.nil
        exact AllReadyG.nil
      · have hz0 : (0 : Int) < (ln : Int) := by omega
        have hz1 : 0 < ln := by omega
        obtain ⟨g1, g2, g3, rfl, rfl, rfl, HgB, HTs, HNs, HCs, HSw⟩ := unhide HLs hz1
        go_upto_region 14 with fail
        obtain ⟨x0, x1, x2, x3, -, -, -, -⟩ := obj_cells (unhide HC0).ob
        have HWa := hide (fun w' => within2_any at_ ln w' (by omega) (by omega))
        have a0 := Int.emod_nonneg at_ (b := (ln : Int)) (by omega)
        have a1 : at_ % (ln : Int) < ln := Int.emod_lt_of_pos _ (by omega)
        obtain ⟨j, hj⟩ : ∃ j : Nat, at_ % (ln : Int) = (j : Int) := ⟨(at_ % (ln : Int)).toNat, by omega⟩
        rw [hj] at HWa a1
        have hjl : j < ln := by omega
        have hjI : (j : Int) < (ln : Int) := by omega
        have hS0 : W4.drew.cell? ⟨w3.heap.size, 0, none⟩ = some (.int .i64 q.n) ∧ W4.drew.cell? ⟨w3.heap.size, 1, none⟩ = some (.slice (some ⟨g1, 0, none⟩) ln tc) := ⟨x0, x1⟩
        have HN := hide (unhide HTs j hjl)
        clear x0 x1 x2 x3 a0 a1 hj
        refine wp_region_G (fun w' => w'.cell? ⟨w3.heap.size, 0, none⟩ = some (.int .i64 q.n) ∧ w'.cell? ⟨w3.heap.size, 1, none⟩ = some (.slice (some ⟨g1, 0, none⟩) ln tc)) (fun i => i == 7) (by kernel_rfl) hS0 (fun hHeld => ?_)
        have hbw : Below W4.heap.size W4 W4.drew := (Below.refl _ _).drew
        generalize W4.drew = wq at *
        obtain ⟨⟨zc, kc, fc'⟩, hN⟩ := unhide HN wq hbw
        have HN2 := hide hN
        clear hN
        refine wpAnyG_take (v := ?_) 0 (by rfl) (by kernel_rfl) (by kernel_rfl) (by kernel_rfl) (by kernel_rfl) (fun _ _ _ h => h) (Or.inl ⟨by rfl, ?_⟩) (by assumption) ?_
        rotate_left
        · (intro w' hSw; (try dsimp only at hSw); (try simp only [List.getElem_toArray, List.getElem_cons_zero]); go_simp; try (with_reducible rfl))
        simp only [Act.put, List.getElem_toArray, List.getElem_cons_zero, List.setIfInBounds_toArray, List.set_cons_zero, List.set_cons_succ]
        refine wpAnyG_take (v := ?_) 1 (by rfl) (by kernel_rfl) (by kernel_rfl) (by kernel_rfl) (by kernel_rfl) (fun _ _ _ h => h) (Or.inl ⟨by rfl, ?_⟩) (by assumption) ?_
        rotate_left
        · (intro w' hSw; (try dsimp only at hSw); (try simp only [List.getElem_toArray, List.getElem_cons_succ, List.getElem_cons_zero]); go_simp; try (with_reducible rfl))
        simp only [Act.put, List.getElem_toArray, List.getElem_cons_succ, List.getElem_cons_zero, List.setIfInBounds_toArray, List.set_cons_zero, List.set_cons_succ]
        refine wpAnyG_take (v := ?_) 2 (by rfl) (by kernel_rfl) (by kernel_rfl) (by kernel_rfl) (by kernel_rfl) (fun _ _ _ h => h) (Or.inl ⟨by rfl, ?_⟩) (by assumption) ?_
        rotate_left
        · (intro w' hSw; (try dsimp only at hSw); (try simp only [List.getElem_toArray, List.getElem_cons_succ, List.getElem_cons_zero]); go_simp; try (with_reducible rfl))
        simp only [Act.put, List.getElem_toArray, List.getElem_cons_succ, List.getElem_cons_zero, List.setIfInBounds_toArray, List.set_cons_zero, List.set_cons_succ]
        refine wpAnyG_take (v := ?_) 3 (by rfl) (by kernel_rfl) (by kernel_rfl) (by kernel_rfl) (by kernel_rfl) (fun _ _ _ h => h) (Or.inl ⟨by rfl, ?_⟩) (by assumption) ?_
        rotate_left
        · (intro w' hSw; (try dsimp only at hSw); (try simp only [List.getElem_toArray, List.getElem_cons_succ, List.getElem_cons_zero]); go_simp; try (with_reducible rfl))
        simp only [Act.put, List.getElem_toArray, List.getElem_cons_succ, List.getElem_cons_zero, List.setIfInBounds_toArray, List.set_cons_zero, List.set_cons_succ]
        refine wpAnyG_take (v := ?_) 5 (by rfl) (by kernel_rfl) (by kernel_rfl) (by kernel_rfl) (by kernel_rfl) (fun _ _ _ h => h) (Or.inl ⟨by rfl, ?_⟩) (by assumption) ?_
        rotate_left
        · (intro w' hSw; (try dsimp only at hSw); (try simp only [List.getElem_toArray, List.getElem_cons_succ, List.getElem_cons_zero]); go_simp; try (with_reducible rfl))
        simp only [Act.put, List.getElem_toArray, List.getElem_cons_succ, List.getElem_cons_zero, List.setIfInBounds_toArray, List.set_cons_zero, List.set_cons_succ]
        refine wpAnyG_ready [4] (by kernel_rfl) (by simp) ?_
        refine AllReadyG.cons 4 (by rfl) (fun K hK => ?_) ?_
        · simp only [List.getElem_toArray, List.getElem_cons_succ, List.getElem_cons_zero]
          go_simp
          go_at_call 11
          refine (unhide HWa _).mono ?_
          rintro e w9 ⟨rfl, h9⟩
          have h9' := h9.symm
          clear h9
          subst h9'
          refine hK.out _ _ hS0 (fun _ => ?_)
          clear hK K
          try simp only [Act.put, List.setIfInBounds_toArray, List.set_cons_zero, List.set_cons_succ]
          refine wpAnyG_take (v := ?_) 6 (by rfl) (by kernel_rfl) (by kernel_rfl) (by kernel_rfl) (by kernel_rfl) (fun _ _ _ h => h) (Or.inl ⟨by rfl, ?_⟩) (by assumption) ?_
          rotate_left
          · (intro w' hSw; (try dsimp only at hSw); (try simp only [List.getElem_toArray, List.getElem_cons_succ, List.getElem_cons_zero]); go_simp; try (with_reducible rfl))
          simp only [Act.put, List.getElem_toArray, List.getElem_cons_succ, List.getElem_cons_zero, List.setIfInBounds_toArray, List.set_cons_zero, List.set_cons_succ]
          refine wpAnyG_ready [7] (by kernel_rfl) (by simp) ?_
          refine AllReadyG.last 7 (by rfl) (by kernel_rfl) (fun K hK => ?_) ?_
          · simp only [List.getElem_toArray, List.getElem_cons_succ, List.getElem_cons_zero]
            go_simp
            refine hK.out _ _ ?_
            clear hK K
            try simp only [Act.put, List.setIfInBounds_toArray, List.set_cons_zero, List.set_cons_succ]
            refine wpAnyG_done (by kernel_rfl) ?_ _
            refine NoPanic.normal ?_
            have HC' : Hid (ChkAt w w3.heap.size (wq.setCell ⟨g1, j, none⟩ (.int .i64 v)) _ _ _ _) := hide (unhide HN2 _)
            obtain ⟨qE, tE, nE, cE, HC⟩ : ∃ qE tE nE cE, Hid (ChkAt w w3.heap.size (wq.setCell ⟨g1, j, none⟩ (.int .i64 v)) qE tE nE cE) := ⟨_, _, _, _, HC'⟩
            clear HC'
            generalize wq.setCell ⟨g1, j, none⟩ (.int .i64 v) = wP at *
            have HS : Hid (∀ w', Below wP.heap.size wP w' → w'.cell? ⟨w3.heap.size, 0, none⟩ = some (.int .i64 qE.n) ∧ w'.cell? ⟨w3.heap.size, 1, none⟩ = some tE ∧ w'.cell? ⟨w3.heap.size, 2, none⟩ = some nE ∧ w'.cell? ⟨w3.heap.size, 3, none⟩ = some cE) := hide fun w' hb => by
              obtain ⟨e0, e1, e2, e3, -, -, -, -⟩ := obj_cells ((hb.block _ (heap_lt (unhide HC).ob)).trans (unhide HC).ob)
              exact ⟨e0, e1, e2, e3⟩
            have HK1 := hide (fun w' (hb : Below wP.heap.size wP w') => check_any qE _ _ _ _ w' ((unhide HC).ni.below hb) (unhide HC).lo (unhide HC).hi)
            have HK2 := hide (fun w' (hb : Below wP.heap.size wP w') => check2_any qE _ _ _ _ w' ((unhide HC).ni.below hb) (unhide HC).lo (unhide HC).hi)
            have HF : Hid (∀ w', Below wP.heap.size wP w' → Below w.heap.size w w') := hide fun w' hb => (unhide HC).bl.trans (hb.mono (unhide HC).bl.size)
            clear HC
            generalize Sp.checkI qE = ck at *
            have hck : (ck == ck) = true := beq_self_eq_true _
            go_upto_region 32 with fail
            have hb0 : Below wP.heap.size wP wP.drew := (Below.refl _ _).drew
            refine wp_region_G (fun w' => w'.cell? ⟨w3.heap.size, 0, none⟩ = some (.int .i64 qE.n) ∧ w'.cell? ⟨w3.heap.size, 1, none⟩ = some tE ∧ w'.cell? ⟨w3.heap.size, 2, none⟩ = some nE ∧ w'.cell? ⟨w3.heap.size, 3, none⟩ = some cE) (fun _ => false) (by kernel_rfl) (unhide HS _ hb0) (fun hHeld => ?_)
            generalize wP.drew = wq at *
            refine wpAnyG_take (v := ?_) 0 (by rfl) (by kernel_rfl) (by kernel_rfl) (by kernel_rfl) (by kernel_rfl) (fun _ _ _ h => h) (Or.inl ⟨by rfl, ?_⟩) (by assumption) ?_
            rotate_left
            · (intro w' hSw; (try dsimp only at hSw); (try simp only [List.getElem_toArray, List.getElem_cons_zero]); go_simp; try (with_reducible rfl))
            simp only [Act.put, List.getElem_toArray, List.getElem_cons_zero, List.setIfInBounds_toArray, List.set_cons_zero, List.set_cons_succ]
            refine wpAnyG_take (v := ?_) 2 (by rfl) (by kernel_rfl) (by kernel_rfl) (by kernel_rfl) (by kernel_rfl) (fun _ _ _ h => h) (Or.inl ⟨by rfl, ?_⟩) (by assumption) ?_
            rotate_left
            · (intro w' hSw; (try dsimp only at hSw); (try simp only [List.getElem_toArray, List.getElem_cons_succ, List.getElem_cons_zero]); go_simp; try (with_reducible rfl))
            simp only [Act.put, List.getElem_toArray, List.getElem_cons_succ, List.getElem_cons_zero, List.setIfInBounds_toArray, List.set_cons_zero, List.set_cons_succ]
            refine wpAnyG_ready [1] (by kernel_rfl) (by simp) ?_
            refine AllReadyG.cons 1 (by rfl) (fun K hK => ?_) ?_
            · simp only [List.getElem_toArray, List.getElem_cons_succ, List.getElem_cons_zero]
              go_simp
              go_at_call 12
              refine (unhide HK1 _ hb0).mono ?_
              rintro e wA ⟨rfl, hl1⟩
              have hb1 := hb0.trans (hl1.mono hb0.size)
              refine hK.out _ _ (unhide HS _ hb1) (fun _ => ?_)
              clear hK K
              try simp only [Act.put, List.setIfInBounds_toArray, List.set_cons_zero, List.set_cons_succ]
              refine wpAnyG_ready [3] (by kernel_rfl) (by simp) ?_
              refine AllReadyG.cons 3 (by rfl) (fun K hK => ?_) ?_
              · simp only [List.getElem_toArray, List.getElem_cons_succ, List.getElem_cons_zero]
                go_simp
                go_at_call 13
                refine (unhide HK2 _ hb1).mono ?_
                rintro e wB ⟨rfl, hl2⟩
                have hb2 := hb1.trans (hl2.mono hb1.size)
                refine hK.out _ _ (unhide HS _ hb2) (fun _ => ?_)
                clear hK K
                try simp only [Act.put, List.setIfInBounds_toArray, List.set_cons_zero, List.set_cons_succ]
                refine wpAnyG_take (v := ?_) 4 (by rfl) (by kernel_rfl) (by kernel_rfl) (by kernel_rfl) (by kernel_rfl) (fun _ _ _ h => h) (Or.inl ⟨by rfl, ?_⟩) (by assumption) ?_
                rotate_left
                · (intro w' hSw; (try dsimp only at hSw); (try simp only [List.getElem_toArray, List.getElem_cons_succ, List.getElem_cons_zero]); go_simp; try (with_reducible rfl))
                simp only [Act.put, List.getElem_toArray, List.getElem_cons_succ, List.getElem_cons_zero, List.setIfInBounds_toArray, List.set_cons_zero, List.set_cons_succ]
                refine wpAnyG_take (v := ?_) 5 (by rfl) (by kernel_rfl) (by kernel_rfl) (by kernel_rfl) (by kernel_rfl) (fun _ _ _ h => h) (Or.inl ⟨by rfl, ?_⟩) (by assumption) ?_
                rotate_left
                · (intro w' hSw; (try dsimp only at hSw); (try simp only [List.getElem_toArray, List.getElem_cons_succ, List.getElem_cons_zero]); go_simp; try (with_reducible rfl))
                simp only [Act.put, List.getElem_toArray, List.getElem_cons_succ, List.getElem_cons_zero, List.setIfInBounds_toArray, List.set_cons_zero, List.set_cons_succ]
                refine wpAnyG_done (by kernel_rfl) ?_ _
                refine NoPanic.normal ?_
                go_wp2
                rw [unhide HP]
                exact ⟨by rfl, unhide HF _ hb2⟩
              exact AllReadyG.nil
            exact AllReadyG.nil
          exact AllReadyG.nil
        exact AllReadyG.nil
    · by_cases hz : ln = 0
      · obtain ⟨qE, tE, nE, cE, HC⟩ : ∃ qE tE nE cE, Hid (ChkAt w w3.heap.size W4 qE tE nE cE) := ⟨_, _, _, _, hide (unhide HC0)⟩
        have hz0 : ¬ (0 : Int) < (ln : Int) := by omega
        have hz1 : ¬ 0 < ln := by omega
        have hz2 : decide (0 < ln) = false := decide_eq_false hz1
        clear hz
        have HS : Hid (∀ w', Below W4.heap.size W4 w' → w'.cell? ⟨w3.heap.size, 0, none⟩ = some (.int .i64 qE.n) ∧ w'.cell? ⟨w3.heap.size, 1, none⟩ = some tE ∧ w'.cell? ⟨w3.heap.size, 2, none⟩ = some nE ∧ w'.cell? ⟨w3.heap.size, 3, none⟩ = some cE) := hide fun w' hb => by
          obtain ⟨e0, e1, e2, e3, -, -, -, -⟩ := obj_cells ((hb.block _ (heap_lt (unhide HC).ob)).trans (unhide HC).ob)
          exact ⟨e0, e1, e2, e3⟩
        have HK1 := hide (fun w' (hb : Below W4.heap.size W4 w') => check_any qE _ _ _ _ w' ((unhide HC).ni.below hb) (unhide HC).lo (unhide HC).hi)
        have HK2 := hide (fun w' (hb : Below W4.heap.size W4 w') => check2_any qE _ _ _ _ w' ((unhide HC).ni.below hb) (unhide HC).lo (unhide HC).hi)
        have HF : Hid (∀ w', Below W4.heap.size W4 w' → Below w.heap.size w w') := hide fun w' hb => (unhide HC).bl.trans (hb.mono (unhide HC).bl.size)
        clear HC
        generalize Sp.checkI qE = ck at *
        have hck : (ck == ck) = true := beq_self_eq_true _
        go_upto_region 32 with fail
        have hb0 : Below W4.heap.size W4 W4.drew := (Below.refl _ _).drew
        refine wp_region_G (fun w' => w'.cell? ⟨w3.heap.size, 0, none⟩ = some (.int .i64 qE.n) ∧ w'.cell? ⟨w3.heap.size, 1, none⟩ = some tE ∧ w'.cell? ⟨w3.heap.size, 2, none⟩ = some nE ∧ w'.cell? ⟨w3.heap.size, 3, none⟩ = some cE) (fun _ => false) (by kernel_rfl) (unhide HS _ hb0) (fun hHeld => ?_)
        generalize W4.drew = wq at *
        refine wpAnyG_take (v := ?_) 0 (by rfl) (by kernel_rfl) (by kernel_rfl) (by kernel_rfl) (by kernel_rfl) (fun _ _ _ h => h) (Or.inl ⟨by rfl, ?_⟩) (by assumption) ?_
        rotate_left
        · (intro w' hSw; (try dsimp only at hSw); (try simp only [List.getElem_toArray, List.getElem_cons_zero]); go_simp; try (with_reducible rfl))
        simp only [Act.put, List.getElem_toArray, List.getElem_cons_zero, List.setIfInBounds_toArray, List.set_cons_zero, List.set_cons_succ]
        refine wpAnyG_take (v := ?_) 2 (by rfl) (by kernel_rfl) (by kernel_rfl) (by kernel_rfl) (by kernel_rfl) (fun _ _ _ h => h) (Or.inl ⟨by rfl, ?_⟩) (by assumption) ?_
        rotate_left
        · (intro w' hSw; (try dsimp only at hSw); (try simp only [List.getElem_toArray, List.getElem_cons_succ, List.getElem_cons_zero]); go_simp; try (with_reducible rfl))
        simp only [Act.put, List.getElem_toArray, List.getElem_cons_succ, List.getElem_cons_zero, List.setIfInBounds_toArray, List.set_cons_zero, List.set_cons_succ]
        refine wpAnyG_ready [1] (by kernel_rfl) (by simp) ?_
        refine AllReadyG.cons 1 (by rfl) (fun K hK => ?_) ?_
        · simp only [List.getElem_toArray, List.getElem_cons_succ, List.getElem_cons_zero]
          go_simp
          go_at_call 12
          refine (unhide HK1 _ hb0).mono ?_
          rintro e wA ⟨rfl, hl1⟩
          have hb1 := hb0.trans (hl1.mono hb0.size)
          refine hK.out _ _ (unhide HS _ hb1) (fun _ => ?_)
          clear hK K
          try simp only [Act.put, List.setIfInBounds_toArray, List.set_cons_zero, List.set_cons_succ]
          refine wpAnyG_ready [3] (by kernel_rfl) (by simp) ?_
          refine AllReadyG.cons 3 (by rfl) (fun K hK => ?_) ?_
          · simp only [List.getElem_toArray, List.getElem_cons_succ, List.getElem_cons_zero]
            go_simp
            go_at_call 13
            refine (unhide HK2 _ hb1).mono ?_
            rintro e wB ⟨rfl, hl2⟩
            have hb2 := hb1.trans (hl2.mono hb1.size)
            refine hK.out _ _ (unhide HS _ hb2) (fun _ => ?_)
            clear hK K
            try simp only [Act.put, List.setIfInBounds_toArray, List.set_cons_zero, List.set_cons_succ]
            refine wpAnyG_take (v := ?_) 4 (by rfl) (by kernel_rfl) (by kernel_rfl) (by kernel_rfl) (by kernel_rfl) (fun _ _ _ h => h) (Or.inl ⟨by rfl, ?_⟩) (by assumption) ?_
            rotate_left
            · (intro w' hSw; (try dsimp only at hSw); (try simp only [List.getElem_toArray, List.getElem_cons_succ, List.getElem_cons_zero]); go_simp; try (with_reducible rfl))
            simp only [Act.put, List.getElem_toArray, List.getElem_cons_succ, List.getElem_cons_zero, List.setIfInBounds_toArray, List.set_cons_zero, List.set_cons_succ]
            refine wpAnyG_take (v := ?_) 5 (by rfl) (by kernel_rfl) (by kernel_rfl) (by kernel_rfl) (by kernel_rfl) (fun _ _ _ h => h) (Or.inl ⟨by rfl, ?_⟩) (by assumption) ?_
            rotate_left
            · (intro w' hSw; (try dsimp only at hSw); (try simp only [List.getElem_toArray, List.getElem_cons_succ, List.getElem_cons_zero]); go_simp; try (with_reducible rfl))
            simp only [Act.put, List.getElem_toArray, List.getElem_cons_succ, List.getElem_cons_zero, List.setIfInBounds_toArray, List.set_cons_zero, List.set_cons_succ]
            refine wpAnyG_done (by kernel_rfl) ?_ _
            refine NoPanic.normal ?_
            go_wp2
            rw [unhide HP]
            exact ⟨by rfl, unhide HF _ hb2⟩
          exact AllReadyG.nil
        exact AllReadyG.nil
      · have hz0 : (0 : Int) < (ln : Int) := by omega
        have hz1 : 0 < ln := by omega
        obtain ⟨g1, g2, g3, rfl, rfl, rfl, HgB, HTs, HNs, HCs, HSw⟩ := unhide HLs hz1
        go_upto_region 17 with fail
        have HWv := hide (fun w' => within2_any v q.n w' (by omega) (by omega))
        generalize v % q.n = vm at *
        obtain ⟨x0, x1, x2, x3, -, -, -, -⟩ := obj_cells (unhide HC0).ob
        have HWa := hide (fun w' => within2_any at_ ln w' (by omega) (by omega))
        have a0 := Int.emod_nonneg at_ (b := (ln : Int)) (by omega)
        have a1 : at_ % (ln : Int) < ln := Int.emod_lt_of_pos _ (by omega)
        obtain ⟨j, hj⟩ : ∃ j : Nat, at_ % (ln : Int) = (j : Int) := ⟨(at_ % (ln : Int)).toNat, by omega⟩
        rw [hj] at HWa a1
        have hjl : j < ln := by omega
        have hjI : (j : Int) < (ln : Int) := by omega
        have hS0 : W4.drew.cell? ⟨w3.heap.size, 0, none⟩ = some (.int .i64 q.n) ∧ W4.drew.cell? ⟨w3.heap.size, 1, none⟩ = some (.slice (some ⟨g1, 0, none⟩) ln tc) := ⟨x0, x1⟩
        have HN := hide (unhide HTs j hjl)
        clear x0 x1 x2 x3 a0 a1 hj
        refine wp_region_G (fun w' => w'.cell? ⟨w3.heap.size, 0, none⟩ = some (.int .i64 q.n) ∧ w'.cell? ⟨w3.heap.size, 1, none⟩ = some (.slice (some ⟨g1, 0, none⟩) ln tc)) (fun i => i == 10) (by kernel_rfl) hS0 (fun hHeld => ?_)
        have hbw : Below W4.heap.size W4 W4.drew := (Below.refl _ _).drew
        generalize W4.drew = wq at *
        obtain ⟨⟨zc, kc, fc'⟩, hN⟩ := unhide HN wq hbw
        have HN2 := hide hN
        clear hN
        refine wpAnyG_take (v := ?_) 0 (by rfl) (by kernel_rfl) (by kernel_rfl) (by kernel_rfl) (by kernel_rfl) (fun _ _ _ h => h) (Or.inl ⟨by rfl, ?_⟩) (by assumption) ?_
        rotate_left
        · (intro w' hSw; (try dsimp only at hSw); (try simp only [List.getElem_toArray, List.getElem_cons_zero]); go_simp; try (with_reducible rfl))
        simp only [Act.put, List.getElem_toArray, List.getElem_cons_zero, List.setIfInBounds_toArray, List.set_cons_zero, List.set_cons_succ]
        refine wpAnyG_take (v := ?_) 1 (by rfl) (by kernel_rfl) (by kernel_rfl) (by kernel_rfl) (by kernel_rfl) (fun _ _ _ h => h) (Or.inl ⟨by rfl, ?_⟩) (by assumption) ?_
        rotate_left
        · (intro w' hSw; (try dsimp only at hSw); (try simp only [List.getElem_toArray, List.getElem_cons_succ, List.getElem_cons_zero]); go_simp; try (with_reducible rfl))
        simp only [Act.put, List.getElem_toArray, List.getElem_cons_succ, List.getElem_cons_zero, List.setIfInBounds_toArray, List.set_cons_zero, List.set_cons_succ]
        refine wpAnyG_take (v := ?_) 2 (by rfl) (by kernel_rfl) (by kernel_rfl) (by kernel_rfl) (by kernel_rfl) (fun _ _ _ h => h) (Or.inl ⟨by rfl, ?_⟩) (by assumption) ?_
        rotate_left
        · (intro w' hSw; (try dsimp only at hSw); (try simp only [List.getElem_toArray, List.getElem_cons_succ, List.getElem_cons_zero]); go_simp; try (with_reducible rfl))
        simp only [Act.put, List.getElem_toArray, List.getElem_cons_succ, List.getElem_cons_zero, List.setIfInBounds_toArray, List.set_cons_zero, List.set_cons_succ]
        refine wpAnyG_take (v := ?_) 3 (by rfl) (by kernel_rfl) (by kernel_rfl) (by kernel_rfl) (by kernel_rfl) (fun _ _ _ h => h) (Or.inl ⟨by rfl, ?_⟩) (by assumption) ?_
        rotate_left
        · (intro w' hSw; (try dsimp only at hSw); (try simp only [List.getElem_toArray, List.getElem_cons_succ, List.getElem_cons_zero]); go_simp; try (with_reducible rfl))
        simp only [Act.put, List.getElem_toArray, List.getElem_cons_succ, List.getElem_cons_zero, List.setIfInBounds_toArray, List.set_cons_zero, List.set_cons_succ]
        refine wpAnyG_take (v := ?_) 5 (by rfl) (by kernel_rfl) (by kernel_rfl) (by kernel_rfl) (by kernel_rfl) (fun _ _ _ h => h) (Or.inl ⟨by rfl, ?_⟩) (by assumption) ?_
        rotate_left
        · (intro w' hSw; (try dsimp only at hSw); (try simp only [List.getElem_toArray, List.getElem_cons_succ, List.getElem_cons_zero]); go_simp; try (with_reducible rfl))
        simp only [Act.put, List.getElem_toArray, List.getElem_cons_succ, List.getElem_cons_zero, List.setIfInBounds_toArray, List.set_cons_zero, List.set_cons_succ]
        refine wpAnyG_take (v := ?_) 6 (by rfl) (by kernel_rfl) (by kernel_rfl) (by kernel_rfl) (by kernel_rfl) (fun _ _ _ h => h) (Or.inl ⟨by rfl, ?_⟩) (by assumption) ?_
        rotate_left
        · (intro w' hSw; (try dsimp only at hSw); (try simp only [List.getElem_toArray, List.getElem_cons_succ, List.getElem_cons_zero]); go_simp; try (with_reducible rfl))
        simp only [Act.put, List.getElem_toArray, List.getElem_cons_succ, List.getElem_cons_zero, List.setIfInBounds_toArray, List.set_cons_zero, List.set_cons_succ]
        refine wpAnyG_take (v := ?_) 7 (by rfl) (by kernel_rfl) (by kernel_rfl) (by kernel_rfl) (by kernel_rfl) (fun _ _ _ h => h) (Or.inl ⟨by rfl, ?_⟩) (by assumption) ?_
        rotate_left
        · (intro w' hSw; (try dsimp only at hSw); (try simp only [List.getElem_toArray, List.getElem_cons_succ, List.getElem_cons_zero]); go_simp; try (with_reducible rfl))
        simp only [Act.put, List.getElem_toArray, List.getElem_cons_succ, List.getElem_cons_zero, List.setIfInBounds_toArray, List.set_cons_zero, List.set_cons_succ]
        refine wpAnyG_ready [4] (by kernel_rfl) (by simp) ?_
        refine AllReadyG.cons 4 (by rfl) (fun K hK => ?_) ?_
        · simp only [List.getElem_toArray, List.getElem_cons_succ, List.getElem_cons_zero]
          go_simp
          go_at_call 11
          refine (unhide HWa _).mono ?_
          rintro e w9 ⟨rfl, h9⟩
          have h9' := h9.symm
          clear h9
          subst h9'
          refine hK.out _ _ hS0 (fun _ => ?_)
          clear hK K
          try simp only [Act.put, List.setIfInBounds_toArray, List.set_cons_zero, List.set_cons_succ]
          refine wpAnyG_ready [8] (by kernel_rfl) (by simp) ?_
          refine AllReadyG.cons 8 (by rfl) (fun K hK => ?_) ?_
          · simp only [List.getElem_toArray, List.getElem_cons_succ, List.getElem_cons_zero]
            go_simp
            go_at_call 11
            refine (unhide HWv _).mono ?_
            rintro e w9 ⟨rfl, h9⟩
            have h9' := h9.symm
            clear h9
            subst h9'
            refine hK.out _ _ hS0 (fun _ => ?_)
            clear hK K
            try simp only [Act.put, List.setIfInBounds_toArray, List.set_cons_zero, List.set_cons_succ]
            refine wpAnyG_take (v := ?_) 9 (by rfl) (by kernel_rfl) (by kernel_rfl) (by kernel_rfl) (by kernel_rfl) (fun _ _ _ h => h) (Or.inl ⟨by rfl, ?_⟩) (by assumption) ?_
            rotate_left
            · (intro w' hSw; (try dsimp only at hSw); (try simp only [List.getElem_toArray, List.getElem_cons_succ, List.getElem_cons_zero]); go_simp; try (with_reducible rfl))
            simp only [Act.put, List.getElem_toArray, List.getElem_cons_succ, List.getElem_cons_zero, List.setIfInBounds_toArray, List.set_cons_zero, List.set_cons_succ]
            refine wpAnyG_ready [10] (by kernel_rfl) (by simp) ?_
            refine AllReadyG.last 10 (by rfl) (by kernel_rfl) (fun K hK => ?_) ?_
            · simp only [List.getElem_toArray, List.getElem_cons_succ, List.getElem_cons_zero]
              go_simp
              refine hK.out _ _ ?_
              clear hK K
              try simp only [Act.put, List.setIfInBounds_toArray, List.set_cons_zero, List.set_cons_succ]
              refine wpAnyG_done (by kernel_rfl) ?_ _
              refine NoPanic.normal ?_
              have HC' : Hid (ChkAt w w3.heap.size (wq.setCell ⟨g1, j, none⟩ (.int .i64 vm)) _ _ _ _) := hide (unhide HN2 _)
              obtain ⟨qE, tE, nE, cE, HC⟩ : ∃ qE tE nE cE, Hid (ChkAt w w3.heap.size (wq.setCell ⟨g1, j, none⟩ (.int .i64 vm)) qE tE nE cE) := ⟨_, _, _, _, HC'⟩
              clear HC'
              generalize wq.setCell ⟨g1, j, none⟩ (.int .i64 vm) = wP at *
              have HS : Hid (∀ w', Below wP.heap.size wP w' → w'.cell? ⟨w3.heap.size, 0, none⟩ = some (.int .i64 qE.n) ∧ w'.cell? ⟨w3.heap.size, 1, none⟩ = some tE ∧ w'.cell? ⟨w3.heap.size, 2, none⟩ = some nE ∧ w'.cell? ⟨w3.heap.size, 3, none⟩ = some cE) := hide fun w' hb => by
                obtain ⟨e0, e1, e2, e3, -, -, -, -⟩ := obj_cells ((hb.block _ (heap_lt (unhide HC).ob)).trans (unhide HC).ob)
                exact ⟨e0, e1, e2, e3⟩
              have HK1 := hide (fun w' (hb : Below wP.heap.size wP w') => check_any qE _ _ _ _ w' ((unhide HC).ni.below hb) (unhide HC).lo (unhide HC).hi)
              have HK2 := hide (fun w' (hb : Below wP.heap.size wP w') => check2_any qE _ _ _ _ w' ((unhide HC).ni.below hb) (unhide HC).lo (unhide HC).hi)
              have HF : Hid (∀ w', Below wP.heap.size wP w' → Below w.heap.size w w') := hide fun w' hb => (unhide HC).bl.trans (hb.mono (unhide HC).bl.size)
              clear HC
              generalize Sp.checkI qE = ck at *
              have hck : (ck == ck) = true := beq_self_eq_true _
              go_upto_region 32 with fail
              have hb0 : Below wP.heap.size wP wP.drew := (Below.refl _ _).drew
              refine wp_region_G (fun w' => w'.cell? ⟨w3.heap.size, 0, none⟩ = some (.int .i64 qE.n) ∧ w'.cell? ⟨w3.heap.size, 1, none⟩ = some tE ∧ w'.cell? ⟨w3.heap.size, 2, none⟩ = some nE ∧ w'.cell? ⟨w3.heap.size, 3, none⟩ = some cE) (fun _ => false) (by kernel_rfl) (unhide HS _ hb0) (fun hHeld => ?_)
              generalize wP.drew = wq at *
              refine wpAnyG_take (v := ?_) 0 (by rfl) (by kernel_rfl) (by kernel_rfl) (by kernel_rfl) (by kernel_rfl) (fun _ _ _ h => h) (Or.inl ⟨by rfl, ?_⟩) (by assumption) ?_
              rotate_left
              · (intro w' hSw; (try dsimp only at hSw); (try simp only [List.getElem_toArray, List.getElem_cons_zero]); go_simp; try (with_reducible rfl))
              simp only [Act.put, List.getElem_toArray, List.getElem_cons_zero, List.setIfInBounds_toArray, List.set_cons_zero, List.set_cons_succ]
              refine wpAnyG_take (v := ?_) 2 (by rfl) (by kernel_rfl) (by kernel_rfl) (by kernel_rfl) (by kernel_rfl) (fun _ _ _ h => h) (Or.inl ⟨by rfl, ?_⟩) (by assumption) ?_
              rotate_left
              · (intro w' hSw; (try dsimp only at hSw); (try simp only [List.getElem_toArray, List.getElem_cons_succ, List.getElem_cons_zero]); go_simp; try (with_reducible rfl))
              simp only [Act.put, List.getElem_toArray, List.getElem_cons_succ, List.getElem_cons_zero, List.setIfInBounds_toArray, List.set_cons_zero, List.set_cons_succ]
              refine wpAnyG_ready [1] (by kernel_rfl) (by simp) ?_
              refine AllReadyG.cons 1 (by rfl) (fun K hK => ?_) ?_
              · simp only [List.getElem_toArray, List.getElem_cons_succ, List.getElem_cons_zero]
                go_simp
                go_at_call 12
                refine (unhide HK1 _ hb0).mono ?_
                rintro e wA ⟨rfl, hl1⟩
                have hb1 := hb0.trans (hl1.mono hb0.size)
                refine hK.out _ _ (unhide HS _ hb1) (fun _ => ?_)
                clear hK K
                try simp only [Act.put, List.setIfInBounds_toArray, List.set_cons_zero, List.set_cons_succ]
                refine wpAnyG_ready [3] (by kernel_rfl) (by simp) ?_
                refine AllReadyG.cons 3 (by rfl) (fun K hK => ?_) ?_
                · simp only [List.getElem_toArray, List.getElem_cons_succ, List.getElem_cons_zero]
                  go_simp
                  go_at_call 13
                  refine (unhide HK2 _ hb1).mono ?_
                  rintro e wB ⟨rfl, hl2⟩
                  have hb2 := hb1.trans (hl2.mono hb1.size)
                  refine hK.out _ _ (unhide HS _ hb2) (fun _ => ?_)
                  clear hK K
                  try simp only [Act.put, List.setIfInBounds_toArray, List.set_cons_zero, List.set_cons_succ]
                  refine wpAnyG_take (v := ?_) 4 (by rfl) (by kernel_rfl) (by kernel_rfl) (by kernel_rfl) (by kernel_rfl) (fun _ _ _ h => h) (Or.inl ⟨by rfl, ?_⟩) (by assumption) ?_
                  rotate_left
                  · (intro w' hSw; (try dsimp only at hSw); (try simp only [List.getElem_toArray, List.getElem_cons_succ, List.getElem_cons_zero]); go_simp; try (with_reducible rfl))
                  simp only [Act.put, List.getElem_toArray, List.getElem_cons_succ, List.getElem_cons_zero, List.setIfInBounds_toArray, List.set_cons_zero, List.set_cons_succ]
                  refine wpAnyG_take (v := ?_) 5 (by rfl) (by kernel_rfl) (by kernel_rfl) (by kernel_rfl) (by kernel_rfl) (fun _ _ _ h => h) (Or.inl ⟨by rfl, ?_⟩) (by assumption) ?_
                  rotate_left
                  · (intro w' hSw; (try dsimp only at hSw); (try simp only [List.getElem_toArray, List.getElem_cons_succ, List.getElem_cons_zero]); go_simp; try (with_reducible rfl))
                  simp only [Act.put, List.getElem_toArray, List.getElem_cons_succ, List.getElem_cons_zero, List.setIfInBounds_toArray, List.set_cons_zero, List.set_cons_succ]
                  refine wpAnyG_done (by kernel_rfl) ?_ _
                  refine NoPanic.normal ?_
                  go_wp2
                  rw [unhide HP]
                  exact ⟨by rfl, unhide HF _ hb2⟩
                exact AllReadyG.nil
              exact AllReadyG.nil
            exact AllReadyG.nil
          exact AllReadyG.nil
        exact AllReadyG.nil
    · by_cases hz : ln = 0
      · obtain ⟨qE, tE, nE, cE, HC⟩ : ∃ qE tE nE cE, Hid (ChkAt w w3.heap.size W4 qE tE nE cE) := ⟨_, _, _, _, hide (unhide HC0)⟩
        have hz0 : ¬ (0 : Int) < (ln : Int) := by omega
        have hz1 : ¬ 0 < ln := by omega
        have hz2 : decide (0 < ln) = false := decide_eq_false hz1
        clear hz
        have HS : Hid (∀ w', Below W4.heap.size W4 w' → w'.cell? ⟨w3.heap.size, 0, none⟩ = some (.int .i64 qE.n) ∧ w'.cell? ⟨w3.heap.size, 1, none⟩ = some tE ∧ w'.cell? ⟨w3.heap.size, 2, none⟩ = some nE ∧ w'.cell? ⟨w3.heap.size, 3, none⟩ = some cE) := hide fun w' hb => by
          obtain ⟨e0, e1, e2, e3, -, -, -, -⟩ := obj_cells ((hb.block _ (heap_lt (unhide HC).ob)).trans (unhide HC).ob)
          exact ⟨e0, e1, e2, e3⟩
        have HK1 := hide (fun w' (hb : Below W4.heap.size W4 w') => check_any qE _ _ _ _ w' ((unhide HC).ni.below hb) (unhide HC).lo (unhide HC).hi)
        have HK2 := hide (fun w' (hb : Below W4.heap.size W4 w') => check2_any qE _ _ _ _ w' ((unhide HC).ni.below hb) (unhide HC).lo (unhide HC).hi)
        have HF : Hid (∀ w', Below W4.heap.size W4 w' → Below w.heap.size w w') := hide fun w' hb => (unhide HC).bl.trans (hb.mono (unhide HC).bl.size)
        clear HC
        generalize Sp.checkI qE = ck at *
        have hck : (ck == ck) = true := beq_self_eq_true _
        go_upto_region 32 with fail
        have hb0 : Below W4.heap.size W4 W4.drew := (Below.refl _ _).drew
        refine wp_region_G (fun w' => w'.cell? ⟨w3.heap.size, 0, none⟩ = some (.int .i64 qE.n) ∧ w'.cell? ⟨w3.heap.size, 1, none⟩ = some tE ∧ w'.cell? ⟨w3.heap.size, 2, none⟩ = some nE ∧ w'.cell? ⟨w3.heap.size, 3, none⟩ = some cE) (fun _ => false) (by kernel_rfl) (unhide HS _ hb0) (fun hHeld => ?_)
        generalize W4.drew = wq at *
        refine wpAnyG_take (v := ?_) 0 (by rfl) (by kernel_rfl) (by kernel_rfl) (by kernel_rfl) (by kernel_rfl) (fun _ _ _ h => h) (Or.inl ⟨by rfl, ?_⟩) (by assumption) ?_
        rotate_left
        · (intro w' hSw; (try dsimp only at hSw); (try simp only [List.getElem_toArray, List.getElem_cons_zero]); go_simp; try (with_reducible rfl))
        simp only [Act.put, List.getElem_toArray, List.getElem_cons_zero, List.setIfInBounds_toArray, List.set_cons_zero, List.set_cons_succ]
        refine wpAnyG_take (v := ?_) 2 (by rfl) (by kernel_rfl) (by kernel_rfl) (by kernel_rfl) (by kernel_rfl) (fun _ _ _ h => h) (Or.inl ⟨by rfl, ?_⟩) (by assumption) ?_
        rotate_left
        · (intro w' hSw; (try dsimp only at hSw); (try simp only [List.getElem_toArray, List.getElem_cons_succ, List.getElem_cons_zero]); go_simp; try (with_reducible rfl))
        simp only [Act.put, List.getElem_toArray, List.getElem_cons_succ, List.getElem_cons_zero, List.setIfInBounds_toArray, List.set_cons_zero, List.set_cons_succ]
        refine wpAnyG_ready [1] (by kernel_rfl) (by simp) ?_
        refine AllReadyG.cons 1 (by rfl) (fun K hK => ?_) ?_
        · simp only [List.getElem_toArray, List.getElem_cons_succ, List.getElem_cons_zero]
          go_simp
          go_at_call 12
          refine (unhide HK1 _ hb0).mono ?_
          rintro e wA ⟨rfl, hl1⟩
          have hb1 := hb0.trans (hl1.mono hb0.size)
          refine hK.out _ _ (unhide HS _ hb1) (fun _ => ?_)
          clear hK K
          try simp only [Act.put, List.setIfInBounds_toArray, List.set_cons_zero, List.set_cons_succ]
          refine wpAnyG_ready [3] (by kernel_rfl) (by simp) ?_
          refine AllReadyG.cons 3 (by rfl) (fun K hK => ?_) ?_
          · simp only [List.getElem_toArray, List.getElem_cons_succ, List.getElem_cons_zero]
            go_simp
            go_at_call 13
            refine (unhide HK2 _ hb1).mono ?_
            rintro e wB ⟨rfl, hl2⟩
            have hb2 := hb1.trans (hl2.mono hb1.size)
            refine hK.out _ _ (unhide HS _ hb2) (fun _ => ?_)
            clear hK K
            try simp only [Act.put, List.setIfInBounds_toArray, List.set_cons_zero, List.set_cons_succ]
            refine wpAnyG_take (v := ?_) 4 (by rfl) (by kernel_rfl) (by kernel_rfl) (by kernel_rfl) (by kernel_rfl) (fun _ _ _ h => h) (Or.inl ⟨by rfl, ?_⟩) (by assumption) ?_
            rotate_left
            · (intro w' hSw; (try dsimp only at hSw); (try simp only [List.getElem_toArray, List.getElem_cons_succ, List.getElem_cons_zero]); go_simp; try (with_reducible rfl))
            simp only [Act.put, List.getElem_toArray, List.getElem_cons_succ, List.getElem_cons_zero, List.setIfInBounds_toArray, List.set_cons_zero, List.set_cons_succ]
            refine wpAnyG_take (v := ?_) 5 (by rfl) (by kernel_rfl) (by kernel_rfl) (by kernel_rfl) (by kernel_rfl) (fun _ _ _ h => h) (Or.inl ⟨by rfl, ?_⟩) (by assumption) ?_
            rotate_left
            · (intro w' hSw; (try dsimp only at hSw); (try simp only [List.getElem_toArray, List.getElem_cons_succ, List.getElem_cons_zero]); go_simp; try (with_reducible rfl))
            simp only [Act.put, List.getElem_toArray, List.getElem_cons_succ, List.getElem_cons_zero, List.setIfInBounds_toArray, List.set_cons_zero, List.set_cons_succ]
            refine wpAnyG_done (by kernel_rfl) ?_ _
            refine NoPanic.normal ?_
            go_wp2
            rw [unhide HP]
            exact ⟨by rfl, unhide HF _ hb2⟩
          exact AllReadyG.nil
        exact AllReadyG.nil
      · have hz0 : (0 : Int) < (ln : Int) := by omega
        have hz1 : 0 < ln := by omega
        obtain ⟨g1, g2, g3, rfl, rfl, rfl, HgB, HTs, HNs, HCs, HSw⟩ := unhide HLs hz1
        go_upto_region 20 with fail
        have HWk := hide (fun w' => within2_any v ln w' (by omega) (by omega))
        have HWb := hide (fun w' => within2_any v 2 w' (by decide) (by decide))
        generalize v % (ln : Int) = vk at *
        obtain ⟨bt, zl, hbt, hb2, hzl⟩ : ∃ (b : Nat) (z : Int), v % 2 = (b : Int) ∧ b < 2 ∧ (#[.int .i64 v, .int .i64 vk] : Array Value)[b]? = some (.int .i64 z) := by
          rcases (show v % 2 = 0 ∨ v % 2 = 1 by omega) with h | h
          · exact ⟨0, v, h, by omega, rfl⟩
          · exact ⟨1, vk, h, by omega, rfl⟩
        rw [hbt] at HWb
        have hb2I : (bt : Int) < 2 := by omega
        clear hbt
        obtain ⟨x0, x1, x2, x3, -, -, -, -⟩ := obj_cells (unhide HC0).ob
        have HWa := hide (fun w' => within2_any at_ ln w' (by omega) (by omega))
        have a0 := Int.emod_nonneg at_ (b := (ln : Int)) (by omega)
        have a1 : at_ % (ln : Int) < ln := Int.emod_lt_of_pos _ (by omega)
        obtain ⟨j, hj⟩ : ∃ j : Nat, at_ % (ln : Int) = (j : Int) := ⟨(at_ % (ln : Int)).toNat, by omega⟩
        rw [hj] at HWa a1
        have hjl : j < ln := by omega
        have hjI : (j : Int) < (ln : Int) := by omega
        have hS0 : W4.drew.cell? ⟨w3.heap.size, 0, none⟩ = some (.int .i64 q.n) ∧ W4.drew.cell? ⟨w3.heap.size, 2, none⟩ = some (.slice (some ⟨g2, 0, none⟩) ln nc) := ⟨x0, x2⟩
        have HN := hide (unhide HNs j hjl)
        clear x0 x1 x2 x3 a0 a1 hj
        have Hlt : Hid (w3.heap.size < W4.heap.size) := hide (by rw [unhide Hs4]; omega)
        have HX : Hid (W4.cell? ⟨w3.heap.size, 0, none⟩ = some (.int .i64 q.n) ∧ W4.cell? ⟨w3.heap.size, 2, none⟩ = some (.slice (some ⟨g2, 0, none⟩) ln nc)) := hide hS0
        refine wp_region_G (fun w' => w'.cell? ⟨w3.heap.size, 0, none⟩ = some (.int .i64 q.n) ∧ w'.cell? ⟨w3.heap.size, 2, none⟩ = some (.slice (some ⟨g2, 0, none⟩) ln nc)) (fun i => i == 15) (by kernel_rfl) hS0 (fun hHeld => ?_)
        have hbw : Below W4.heap.size W4 W4.drew := (Below.refl _ _).drew
        have hSq := hS0
        generalize W4.drew = wq at *
        clear hS0
        refine wpAnyG_take (v := ?_) 0 (by rfl) (by kernel_rfl) (by kernel_rfl) (by kernel_rfl) (by kernel_rfl) (fun _ _ _ h => h) (Or.inl ⟨by rfl, ?_⟩) (by assumption) ?_
        rotate_left
        · (intro w' hSw; (try dsimp only at hSw); (try simp only [List.getElem_toArray, List.getElem_cons_zero]); go_simp; try (with_reducible rfl))
        simp only [Act.put, List.getElem_toArray, List.getElem_cons_zero, List.setIfInBounds_toArray, List.set_cons_zero, List.set_cons_succ]
        refine wpAnyG_take (v := ?_) 1 (by rfl) (by kernel_rfl) (by kernel_rfl) (by kernel_rfl) (by kernel_rfl) (fun _ _ _ h => h) (Or.inl ⟨by rfl, ?_⟩) (by assumption) ?_
        rotate_left
        · (intro w' hSw; (try dsimp only at hSw); (try simp only [List.getElem_toArray, List.getElem_cons_succ, List.getElem_cons_zero]); go_simp; try (with_reducible rfl))
        simp only [Act.put, List.getElem_toArray, List.getElem_cons_succ, List.getElem_cons_zero, List.setIfInBounds_toArray, List.set_cons_zero, List.set_cons_succ]
        refine wpAnyG_take (v := ?_) 2 (by rfl) (by kernel_rfl) (by kernel_rfl) (by kernel_rfl) (by kernel_rfl) (fun _ _ _ h => h) (Or.inl ⟨by rfl, ?_⟩) (by assumption) ?_
        rotate_left
        · (intro w' hSw; (try dsimp only at hSw); (try simp only [List.getElem_toArray, List.getElem_cons_succ, List.getElem_cons_zero]); go_simp; try (with_reducible rfl))
        simp only [Act.put, List.getElem_toArray, List.getElem_cons_succ, List.getElem_cons_zero, List.setIfInBounds_toArray, List.set_cons_zero, List.set_cons_succ]
        refine wpAnyG_take (v := ?_) 3 (by rfl) (by kernel_rfl) (by kernel_rfl) (by kernel_rfl) (by kernel_rfl) (fun _ _ _ h => h) (Or.inl ⟨by rfl, ?_⟩) (by assumption) ?_
        rotate_left
        · (intro w' hSw; (try dsimp only at hSw); (try simp only [List.getElem_toArray, List.getElem_cons_succ, List.getElem_cons_zero]); go_simp; try (with_reducible rfl))
        simp only [Act.put, List.getElem_toArray, List.getElem_cons_succ, List.getElem_cons_zero, List.setIfInBounds_toArray, List.set_cons_zero, List.set_cons_succ]
        refine wpAnyG_take (v := ?_) 5 (by rfl) (by kernel_rfl) (by kernel_rfl) (by kernel_rfl) (by kernel_rfl) (fun _ _ _ h => h) (Or.inl ⟨by rfl, ?_⟩) (by assumption) ?_
        rotate_left
        · (intro w' hSw; (try dsimp only at hSw); (try simp only [List.getElem_toArray, List.getElem_cons_succ, List.getElem_cons_zero]); go_simp; try (with_reducible rfl))
        simp only [Act.put, List.getElem_toArray, List.getElem_cons_succ, List.getElem_cons_zero, List.setIfInBounds_toArray, List.set_cons_zero, List.set_cons_succ]
        refine wpAnyG_take (v := ?_) 6 (by rfl) (by kernel_rfl) (by kernel_rfl) (by kernel_rfl) (by kernel_rfl) (fun _ _ _ h => h) (Or.inl ⟨by rfl, ?_⟩) (by assumption) ?_
        rotate_left
        · (intro w' hSw; (try dsimp only at hSw); (try simp only [List.getElem_toArray, List.getElem_cons_succ, List.getElem_cons_zero]); go_simp; try (with_reducible rfl))
        simp only [Act.put, List.getElem_toArray, List.getElem_cons_succ, List.getElem_cons_zero, List.setIfInBounds_toArray, List.set_cons_zero, List.set_cons_succ]
        refine wpAnyG_take (v := ?_) 7 (by rfl) (by kernel_rfl) (by kernel_rfl) (by kernel_rfl) (by kernel_rfl) (fun _ _ _ h => h) (Or.inl ⟨by rfl, ?_⟩) (by assumption) ?_
        rotate_left
        · (intro w' hSw; (try dsimp only at hSw); (try simp only [List.getElem_toArray, List.getElem_cons_succ, List.getElem_cons_zero]); go_simp; try (with_reducible rfl))
        simp only [Act.put, List.getElem_toArray, List.getElem_cons_succ, List.getElem_cons_zero, List.setIfInBounds_toArray, List.set_cons_zero, List.set_cons_succ]
        refine wpAnyG_take (v := ?_) 10 (by rfl) (by kernel_rfl) (by kernel_rfl) (by kernel_rfl) (by kernel_rfl) (fun _ _ _ h => h) (Or.inl ⟨by rfl, ?_⟩) (by assumption) ?_
        rotate_left
        · (intro w' hSw; (try dsimp only at hSw); (try simp only [List.getElem_toArray, List.getElem_cons_succ, List.getElem_cons_zero]); go_simp; try (with_reducible rfl))
        simp only [Act.put, List.getElem_toArray, List.getElem_cons_succ, List.getElem_cons_zero, List.setIfInBounds_toArray, List.set_cons_zero, List.set_cons_succ]
        refine wpAnyG_ready [4] (by kernel_rfl) (by simp) ?_
        refine AllReadyG.cons 4 (by rfl) (fun K hK => ?_) ?_
        · simp only [List.getElem_toArray, List.getElem_cons_succ, List.getElem_cons_zero]
          go_simp
          go_at_call 11
          refine (unhide HWa _).mono ?_
          rintro e w9 ⟨rfl, h9⟩
          have h9' := h9.symm
          clear h9
          subst h9'
          refine hK.out _ _ hSq (fun _ => ?_)
          clear hK K
          try simp only [Act.put, List.setIfInBounds_toArray, List.set_cons_zero, List.set_cons_succ]
          refine wpAnyG_ready [8] (by kernel_rfl) (by simp) ?_
          refine AllReadyG.cons 8 (by rfl) (fun K hK => ?_) ?_
          · simp only [List.getElem_toArray, List.getElem_cons_succ, List.getElem_cons_zero]
            go_simp
            go_at_call 11
            refine (unhide HWk _).mono ?_
            rintro e w9 ⟨rfl, h9⟩
            have h9' := h9.symm
            clear h9
            subst h9'
            refine hK.out _ _ hSq (fun _ => ?_)
            clear hK K
            try simp only [Act.put, List.setIfInBounds_toArray, List.set_cons_zero, List.set_cons_succ]
            refine wpAnyG_ready [9, 11] (by kernel_rfl) (by simp) ?_
            refine AllReadyG.cons 9 (by rfl) (fun K hK => ?_) ?_
            · simp only [List.getElem_toArray, List.getElem_cons_succ, List.getElem_cons_zero]
              go_simp
              refine hK.out _ _ ⟨((hbw.alloc hbw.size _).cell (by exact unhide Hlt)).trans (unhide HX).1, ((hbw.alloc hbw.size _).cell (by exact unhide Hlt)).trans (unhide HX).2⟩ (fun _ => ?_)
              clear hK K
              try simp only [Act.put, List.setIfInBounds_toArray, List.set_cons_zero, List.set_cons_succ]
              obtain ⟨gl, hgl⟩ : ∃ g, g = wq.heap.size := ⟨_, rfl⟩
              rw [← hgl]
              have hL : (wq.alloc (.cells #[.int .i64 v, .int .i64 vk] 3)).heap[gl]? = some (.cells #[.int .i64 v, .int .i64 vk] 3) := by rw [hgl]; exact heap_alloc_new wq _
              have hbl : Below W4.heap.size W4 (wq.alloc (.cells #[.int .i64 v, .int .i64 vk] 3)) := hbw.alloc hbw.size _
              have hglb : W4.heap.size ≤ gl := by rw [hgl]; exact hbw.size
              clear hgl
              generalize wq.alloc (.cells #[.int .i64 v, .int .i64 vk] 3) = wl at *
              have hS1 : (wl.cell? ⟨w3.heap.size, 0, none⟩ = some (.int .i64 q.n) ∧ wl.cell? ⟨w3.heap.size, 2, none⟩ = some (.slice (some ⟨g2, 0, none⟩) ln nc)) := ⟨(hbl.cell (by exact unhide Hlt)).trans (unhide HX).1, (hbl.cell (by exact unhide Hlt)).trans (unhide HX).2⟩
              refine wpAnyG_ready [11] (by kernel_rfl) (by simp) ?_
              refine AllReadyG.cons 11 (by rfl) (fun K hK => ?_) ?_
              · simp only [List.getElem_toArray, List.getElem_cons_succ, List.getElem_cons_zero]
                go_simp
                go_at_call 11
                refine (unhide HWb _).mono ?_
                rintro e w9 ⟨rfl, h9⟩
                have h9' := h9.symm
                clear h9
                subst h9'
                refine hK.out _ _ hS1 (fun _ => ?_)
                clear hK K
                try simp only [Act.put, List.setIfInBounds_toArray, List.set_cons_zero, List.set_cons_succ]
                have kl : wl.cell? ⟨gl, bt, none⟩ = some (.int .i64 zl) := by rw [cell_of_row _ _ _ _ _ _ hL]; exact hzl
                refine wpAnyG_take (v := ?_) 12 (by rfl) (by kernel_rfl) (by kernel_rfl) (by kernel_rfl) (by kernel_rfl) (fun _ _ _ h => h) (Or.inl ⟨by rfl, ?_⟩) (by assumption) ?_
                rotate_left
                · (intro w' hSw; (try dsimp only at hSw); (try simp only [List.getElem_toArray, List.getElem_cons_succ, List.getElem_cons_zero]); go_simp; try (with_reducible rfl))
                simp only [Act.put, List.getElem_toArray, List.getElem_cons_succ, List.getElem_cons_zero, List.setIfInBounds_toArray, List.set_cons_zero, List.set_cons_succ]
                refine wpAnyG_ready [13] (by kernel_rfl) (by simp) ?_
                refine AllReadyG.cons 13 (by rfl) (fun K hK => ?_) ?_
                · simp only [List.getElem_toArray, List.getElem_cons_succ, List.getElem_cons_zero]
                  go_simp
                  refine hK.out _ _ hS1 (fun _ => ?_)
                  clear hK K
                  try simp only [Act.put, List.setIfInBounds_toArray, List.set_cons_zero, List.set_cons_succ]
                  obtain ⟨⟨zc, kc, fc'⟩, hN⟩ := unhide HN wl hbl
                  have HN2 := hide hN
                  clear hN
                  refine wpAnyG_take (v := ?_) 14 (by rfl) (by kernel_rfl) (by kernel_rfl) (by kernel_rfl) (by kernel_rfl) (fun _ _ _ h => h) (Or.inl ⟨by rfl, ?_⟩) (by assumption) ?_
                  rotate_left
                  · (intro w' hSw; (try dsimp only at hSw); (try simp only [List.getElem_toArray, List.getElem_cons_succ, List.getElem_cons_zero]); go_simp; try (with_reducible rfl))
                  simp only [Act.put, List.getElem_toArray, List.getElem_cons_succ, List.getElem_cons_zero, List.setIfInBounds_toArray, List.set_cons_zero, List.set_cons_succ]
                  refine wpAnyG_ready [15] (by kernel_rfl) (by simp) ?_
                  refine AllReadyG.last 15 (by rfl) (by kernel_rfl) (fun K hK => ?_) ?_
                  · simp only [List.getElem_toArray, List.getElem_cons_succ, List.getElem_cons_zero]
                    go_simp
                    refine hK.out _ _ ?_
                    clear hK K
                    try simp only [Act.put, List.setIfInBounds_toArray, List.set_cons_zero, List.set_cons_succ]
                    refine wpAnyG_done (by kernel_rfl) ?_ _
                    refine NoPanic.normal ?_
                    have HC' : Hid (ChkAt w w3.heap.size (wl.setCell ⟨g2, j, none⟩ (.int .i64 zl)) _ _ _ _) := hide (unhide HN2 _)
                    obtain ⟨qE, tE, nE, cE, HC⟩ : ∃ qE tE nE cE, Hid (ChkAt w w3.heap.size (wl.setCell ⟨g2, j, none⟩ (.int .i64 zl)) qE tE nE cE) := ⟨_, _, _, _, HC'⟩
                    clear HC'
                    generalize wl.setCell ⟨g2, j, none⟩ (.int .i64 zl) = wP at *
                    have HS : Hid (∀ w', Below wP.heap.size wP w' → w'.cell? ⟨w3.heap.size, 0, none⟩ = some (.int .i64 qE.n) ∧ w'.cell? ⟨w3.heap.size, 1, none⟩ = some tE ∧ w'.cell? ⟨w3.heap.size, 2, none⟩ = some nE ∧ w'.cell? ⟨w3.heap.size, 3, none⟩ = some cE) := hide fun w' hb => by
                      obtain ⟨e0, e1, e2, e3, -, -, -, -⟩ := obj_cells ((hb.block _ (heap_lt (unhide HC).ob)).trans (unhide HC).ob)
                      exact ⟨e0, e1, e2, e3⟩
                    have HK1 := hide (fun w' (hb : Below wP.heap.size wP w') => check_any qE _ _ _ _ w' ((unhide HC).ni.below hb) (unhide HC).lo (unhide HC).hi)
                    have HK2 := hide (fun w' (hb : Below wP.heap.size wP w') => check2_any qE _ _ _ _ w' ((unhide HC).ni.below hb) (unhide HC).lo (unhide HC).hi)
                    have HF : Hid (∀ w', Below wP.heap.size wP w' → Below w.heap.size w w') := hide fun w' hb => (unhide HC).bl.trans (hb.mono (unhide HC).bl.size)
                    clear HC
                    generalize Sp.checkI qE = ck at *
                    have hck : (ck == ck) = true := beq_self_eq_true _
                    go_upto_region 32 with fail
                    have hb0 : Below wP.heap.size wP wP.drew := (Below.refl _ _).drew
                    refine wp_region_G (fun w' => w'.cell? ⟨w3.heap.size, 0, none⟩ = some (.int .i64 qE.n) ∧ w'.cell? ⟨w3.heap.size, 1, none⟩ = some tE ∧ w'.cell? ⟨w3.heap.size, 2, none⟩ = some nE ∧ w'.cell? ⟨w3.heap.size, 3, none⟩ = some cE) (fun _ => false) (by kernel_rfl) (unhide HS _ hb0) (fun hHeld => ?_)
                    generalize wP.drew = wq at *
                    refine wpAnyG_take (v := ?_) 0 (by rfl) (by kernel_rfl) (by kernel_rfl) (by kernel_rfl) (by kernel_rfl) (fun _ _ _ h => h) (Or.inl ⟨by rfl, ?_⟩) (by assumption) ?_
                    rotate_left
                    · (intro w' hSw; (try dsimp only at hSw); (try simp only [List.getElem_toArray, List.getElem_cons_zero]); go_simp; try (with_reducible rfl))
                    simp only [Act.put, List.getElem_toArray, List.getElem_cons_zero, List.setIfInBounds_toArray, List.set_cons_zero, List.set_cons_succ]
                    refine wpAnyG_take (v := ?_) 2 (by rfl) (by kernel_rfl) (by kernel_rfl) (by kernel_rfl) (by kernel_rfl) (fun _ _ _ h => h) (Or.inl ⟨by rfl, ?_⟩) (by assumption) ?_
                    rotate_left
                    · (intro w' hSw; (try dsimp only at hSw); (try simp only [List.getElem_toArray, List.getElem_cons_succ, List.getElem_cons_zero]); go_simp; try (with_reducible rfl))
                    simp only [Act.put, List.getElem_toArray, List.getElem_cons_succ, List.getElem_cons_zero, List.setIfInBounds_toArray, List.set_cons_zero, List.set_cons_succ]
                    refine wpAnyG_ready [1] (by kernel_rfl) (by simp) ?_
                    refine AllReadyG.cons 1 (by rfl) (fun K hK => ?_) ?_
                    · simp only [List.getElem_toArray, List.getElem_cons_succ, List.getElem_cons_zero]
                      go_simp
                      go_at_call 12
                      refine (unhide HK1 _ hb0).mono ?_
                      rintro e wA ⟨rfl, hl1⟩
                      have hb1 := hb0.trans (hl1.mono hb0.size)
                      refine hK.out _ _ (unhide HS _ hb1) (fun _ => ?_)
                      clear hK K
                      try simp only [Act.put, List.setIfInBounds_toArray, List.set_cons_zero, List.set_cons_succ]
                      refine wpAnyG_ready [3] (by kernel_rfl) (by simp) ?_
                      refine AllReadyG.cons 3 (by rfl) (fun K hK => ?_) ?_
                      · simp only [List.getElem_toArray, List.getElem_cons_succ, List.getElem_cons_zero]
                        go_simp
                        go_at_call 13
                        refine (unhide HK2 _ hb1).mono ?_
                        rintro e wB ⟨rfl, hl2⟩
                        have hb2 := hb1.trans (hl2.mono hb1.size)
                        refine hK.out _ _ (unhide HS _ hb2) (fun _ => ?_)
                        clear hK K
                        try simp only [Act.put, List.setIfInBounds_toArray, List.set_cons_zero, List.set_cons_succ]
                        refine wpAnyG_take (v := ?_) 4 (by rfl) (by kernel_rfl) (by kernel_rfl) (by kernel_rfl) (by kernel_rfl) (fun _ _ _ h => h) (Or.inl ⟨by rfl, ?_⟩) (by assumption) ?_
                        rotate_left
                        · (intro w' hSw; (try dsimp only at hSw); (try simp only [List.getElem_toArray, List.getElem_cons_succ, List.getElem_cons_zero]); go_simp; try (with_reducible rfl))
                        simp only [Act.put, List.getElem_toArray, List.getElem_cons_succ, List.getElem_cons_zero, List.setIfInBounds_toArray, List.set_cons_zero, List.set_cons_succ]
                        refine wpAnyG_take (v := ?_) 5 (by rfl) (by kernel_rfl) (by kernel_rfl) (by kernel_rfl) (by kernel_rfl) (fun _ _ _ h => h) (Or.inl ⟨by rfl, ?_⟩) (by assumption) ?_
                        rotate_left
                        · (intro w' hSw; (try dsimp only at hSw); (try simp only [List.getElem_toArray, List.getElem_cons_succ, List.getElem_cons_zero]); go_simp; try (with_reducible rfl))
                        simp only [Act.put, List.getElem_toArray, List.getElem_cons_succ, List.getElem_cons_zero, List.setIfInBounds_toArray, List.set_cons_zero, List.set_cons_succ]
                        refine wpAnyG_done (by kernel_rfl) ?_ _
                        refine NoPanic.normal ?_
                        go_wp2
                        rw [unhide HP]
                        exact ⟨by rfl, unhide HF _ hb2⟩
                      exact AllReadyG.nil
                    exact AllReadyG.nil
                  exact AllReadyG.nil
                exact AllReadyG.nil
              exact AllReadyG.nil
            refine AllReadyG.cons 11 (by rfl) (fun K hK => ?_) ?_
            · simp only [List.getElem_toArray, List.getElem_cons_succ, List.getElem_cons_zero]
              go_simp
              go_at_call 11
              refine (unhide HWb _).mono ?_
              rintro e w9 ⟨rfl, h9⟩
              have h9' := h9.symm
              clear h9
              subst h9'
              refine hK.out _ _ hSq (fun _ => ?_)
              clear hK K
              try simp only [Act.put, List.setIfInBounds_toArray, List.set_cons_zero, List.set_cons_succ]
              refine wpAnyG_ready [9] (by kernel_rfl) (by simp) ?_
              refine AllReadyG.cons 9 (by rfl) (fun K hK => ?_) ?_
              · simp only [List.getElem_toArray, List.getElem_cons_succ, List.getElem_cons_zero]
                go_simp
                refine hK.out _ _ ⟨((hbw.alloc hbw.size _).cell (by exact unhide Hlt)).trans (unhide HX).1, ((hbw.alloc hbw.size _).cell (by exact unhide Hlt)).trans (unhide HX).2⟩ (fun _ => ?_)
                clear hK K
                try simp only [Act.put, List.setIfInBounds_toArray, List.set_cons_zero, List.set_cons_succ]
                obtain ⟨gl, hgl⟩ : ∃ g, g = wq.heap.size := ⟨_, rfl⟩
                rw [← hgl]
                have hL : (wq.alloc (.cells #[.int .i64 v, .int .i64 vk] 3)).heap[gl]? = some (.cells #[.int .i64 v, .int .i64 vk] 3) := by rw [hgl]; exact heap_alloc_new wq _
                have hbl : Below W4.heap.size W4 (wq.alloc (.cells #[.int .i64 v, .int .i64 vk] 3)) := hbw.alloc hbw.size _
                have hglb : W4.heap.size ≤ gl := by rw [hgl]; exact hbw.size
                clear hgl
                generalize wq.alloc (.cells #[.int .i64 v, .int .i64 vk] 3) = wl at *
                have hS1 : (wl.cell? ⟨w3.heap.size, 0, none⟩ = some (.int .i64 q.n) ∧ wl.cell? ⟨w3.heap.size, 2, none⟩ = some (.slice (some ⟨g2, 0, none⟩) ln nc)) := ⟨(hbl.cell (by exact unhide Hlt)).trans (unhide HX).1, (hbl.cell (by exact unhide Hlt)).trans (unhide HX).2⟩
                have kl : wl.cell? ⟨gl, bt, none⟩ = some (.int .i64 zl) := by rw [cell_of_row _ _ _ _ _ _ hL]; exact hzl
                refine wpAnyG_take (v := ?_) 12 (by rfl) (by kernel_rfl) (by kernel_rfl) (by kernel_rfl) (by kernel_rfl) (fun _ _ _ h => h) (Or.inl ⟨by rfl, ?_⟩) (by assumption) ?_
                rotate_left
                · (intro w' hSw; (try dsimp only at hSw); (try simp only [List.getElem_toArray, List.getElem_cons_succ, List.getElem_cons_zero]); go_simp; try (with_reducible rfl))
                simp only [Act.put, List.getElem_toArray, List.getElem_cons_succ, List.getElem_cons_zero, List.setIfInBounds_toArray, List.set_cons_zero, List.set_cons_succ]
                refine wpAnyG_ready [13] (by kernel_rfl) (by simp) ?_
                refine AllReadyG.cons 13 (by rfl) (fun K hK => ?_) ?_
                · simp only [List.getElem_toArray, List.getElem_cons_succ, List.getElem_cons_zero]
                  go_simp
                  refine hK.out _ _ hS1 (fun _ => ?_)
                  clear hK K
                  try simp only [Act.put, List.setIfInBounds_toArray, List.set_cons_zero, List.set_cons_succ]
                  obtain ⟨⟨zc, kc, fc'⟩, hN⟩ := unhide HN wl hbl
                  have HN2 := hide hN
                  clear hN
                  refine wpAnyG_take (v := ?_) 14 (by rfl) (by kernel_rfl) (by kernel_rfl) (by kernel_rfl) (by kernel_rfl) (fun _ _ _ h => h) (Or.inl ⟨by rfl, ?_⟩) (by assumption) ?_
                  rotate_left
                  · (intro w' hSw; (try dsimp only at hSw); (try simp only [List.getElem_toArray, List.getElem_cons_succ, List.getElem_cons_zero]); go_simp; try (with_reducible rfl))
                  simp only [Act.put, List.getElem_toArray, List.getElem_cons_succ, List.getElem_cons_zero, List.setIfInBounds_toArray, List.set_cons_zero, List.set_cons_succ]
                  refine wpAnyG_ready [15] (by kernel_rfl) (by simp) ?_
                  refine AllReadyG.last 15 (by rfl) (by kernel_rfl) (fun K hK => ?_) ?_
                  · simp only [List.getElem_toArray, List.getElem_cons_succ, List.getElem_cons_zero]
                    go_simp
                    refine hK.out _ _ ?_
                    clear hK K
                    try simp only [Act.put, List.setIfInBounds_toArray, List.set_cons_zero, List.set_cons_succ]
                    refine wpAnyG_done (by kernel_rfl) ?_ _
                    refine NoPanic.normal ?_
                    have HC' : Hid (ChkAt w w3.heap.size (wl.setCell ⟨g2, j, none⟩ (.int .i64 zl)) _ _ _ _) := hide (unhide HN2 _)
                    obtain ⟨qE, tE, nE, cE, HC⟩ : ∃ qE tE nE cE, Hid (ChkAt w w3.heap.size (wl.setCell ⟨g2, j, none⟩ (.int .i64 zl)) qE tE nE cE) := ⟨_, _, _, _, HC'⟩
                    clear HC'
                    generalize wl.setCell ⟨g2, j, none⟩ (.int .i64 zl) = wP at *
                    have HS : Hid (∀ w', Below wP.heap.size wP w' → w'.cell? ⟨w3.heap.size, 0, none⟩ = some (.int .i64 qE.n) ∧ w'.cell? ⟨w3.heap.size, 1, none⟩ = some tE ∧ w'.cell? ⟨w3.heap.size, 2, none⟩ = some nE ∧ w'.cell? ⟨w3.heap.size, 3, none⟩ = some cE) := hide fun w' hb => by
                      obtain ⟨e0, e1, e2, e3, -, -, -, -⟩ := obj_cells ((hb.block _ (heap_lt (unhide HC).ob)).trans (unhide HC).ob)
                      exact ⟨e0, e1, e2, e3⟩
                    have HK1 := hide (fun w' (hb : Below wP.heap.size wP w') => check_any qE _ _ _ _ w' ((unhide HC).ni.below hb) (unhide HC).lo (unhide HC).hi)
                    have HK2 := hide (fun w' (hb : Below wP.heap.size wP w') => check2_any qE _ _ _ _ w' ((unhide HC).ni.below hb) (unhide HC).lo (unhide HC).hi)
                    have HF : Hid (∀ w', Below wP.heap.size wP w' → Below w.heap.size w w') := hide fun w' hb => (unhide HC).bl.trans (hb.mono (unhide HC).bl.size)
                    clear HC
                    generalize Sp.checkI qE = ck at *
                    have hck : (ck == ck) = true := beq_self_eq_true _
                    go_upto_region 32 with fail
                    have hb0 : Below wP.heap.size wP wP.drew := (Below.refl _ _).drew
                    refine wp_region_G (fun w' => w'.cell? ⟨w3.heap.size, 0, none⟩ = some (.int .i64 qE.n) ∧ w'.cell? ⟨w3.heap.size, 1, none⟩ = some tE ∧ w'.cell? ⟨w3.heap.size, 2, none⟩ = some nE ∧ w'.cell? ⟨w3.heap.size, 3, none⟩ = some cE) (fun _ => false) (by kernel_rfl) (unhide HS _ hb0) (fun hHeld => ?_)
                    generalize wP.drew = wq at *
                    refine wpAnyG_take (v := ?_) 0 (by rfl) (by kernel_rfl) (by kernel_rfl) (by kernel_rfl) (by kernel_rfl) (fun _ _ _ h => h) (Or.inl ⟨by rfl, ?_⟩) (by assumption) ?_
                    rotate_left
                    · (intro w' hSw; (try dsimp only at hSw); (try simp only [List.getElem_toArray, List.getElem_cons_zero]); go_simp; try (with_reducible rfl))
                    simp only [Act.put, List.getElem_toArray, List.getElem_cons_zero, List.setIfInBounds_toArray, List.set_cons_zero, List.set_cons_succ]
                    refine wpAnyG_take (v := ?_) 2 (by rfl) (by kernel_rfl) (by kernel_rfl) (by kernel_rfl) (by kernel_rfl) (fun _ _ _ h => h) (Or.inl ⟨by rfl, ?_⟩) (by assumption) ?_
                    rotate_left
                    · (intro w' hSw; (try dsimp only at hSw); (try simp only [List.getElem_toArray, List.getElem_cons_succ, List.getElem_cons_zero]); go_simp; try (with_reducible rfl))
                    simp only [Act.put, List.getElem_toArray, List.getElem_cons_succ, List.getElem_cons_zero, List.setIfInBounds_toArray, List.set_cons_zero, List.set_cons_succ]
                    refine wpAnyG_ready [1] (by kernel_rfl) (by simp) ?_
                    refine AllReadyG.cons 1 (by rfl) (fun K hK => ?_) ?_
                    · simp only [List.getElem_toArray, List.getElem_cons_succ, List.getElem_cons_zero]
                      go_simp
                      go_at_call 12
                      refine (unhide HK1 _ hb0).mono ?_
                      rintro e wA ⟨rfl, hl1⟩
                      have hb1 := hb0.trans (hl1.mono hb0.size)
                      refine hK.out _ _ (unhide HS _ hb1) (fun _ => ?_)
                      clear hK K
                      try simp only [Act.put, List.setIfInBounds_toArray, List.set_cons_zero, List.set_cons_succ]
                      refine wpAnyG_ready [3] (by kernel_rfl) (by simp) ?_
                      refine AllReadyG.cons 3 (by rfl) (fun K hK => ?_) ?_
                      · simp only [List.getElem_toArray, List.getElem_cons_succ, List.getElem_cons_zero]
                        go_simp
                        go_at_call 13
                        refine (unhide HK2 _ hb1).mono ?_
                        rintro e wB ⟨rfl, hl2⟩
                        have hb2 := hb1.trans (hl2.mono hb1.size)
                        refine hK.out _ _ (unhide HS _ hb2) (fun _ => ?_)
                        clear hK K
                        try simp only [Act.put, List.setIfInBounds_toArray, List.set_cons_zero, List.set_cons_succ]
                        refine wpAnyG_take (v := ?_) 4 (by rfl) (by kernel_rfl) (by kernel_rfl) (by kernel_rfl) (by kernel_rfl) (fun _ _ _ h => h) (Or.inl ⟨by rfl, ?_⟩) (by assumption) ?_
                        rotate_left
                        · (intro w' hSw; (try dsimp only at hSw); (try simp only [List.getElem_toArray, List.getElem_cons_succ, List.getElem_cons_zero]); go_simp; try (with_reducible rfl))
                        simp only [Act.put, List.getElem_toArray, List.getElem_cons_succ, List.getElem_cons_zero, List.setIfInBounds_toArray, List.set_cons_zero, List.set_cons_succ]
                        refine wpAnyG_take (v := ?_) 5 (by rfl) (by kernel_rfl) (by kernel_rfl) (by kernel_rfl) (by kernel_rfl) (fun _ _ _ h => h) (Or.inl ⟨by rfl, ?_⟩) (by assumption) ?_
                        rotate_left
                        · (intro w' hSw; (try dsimp only at hSw); (try simp only [List.getElem_toArray, List.getElem_cons_succ, List.getElem_cons_zero]); go_simp; try (with_reducible rfl))
                        simp only [Act.put, List.getElem_toArray, List.getElem_cons_succ, List.getElem_cons_zero, List.setIfInBounds_toArray, List.set_cons_zero, List.set_cons_succ]
                        refine wpAnyG_done (by kernel_rfl) ?_ _
                        refine NoPanic.normal ?_
                        go_wp2
                        rw [unhide HP]
                        exact ⟨by rfl, unhide HF _ hb2⟩
                      exact AllReadyG.nil
                    exact AllReadyG.nil
                  exact AllReadyG.nil
                exact AllReadyG.nil
              exact AllReadyG.nil
            exact AllReadyG.nil
          exact AllReadyG.nil
        exact AllReadyG.nil
    · by_cases hz : ln = 0
      · obtain ⟨qE, tE, nE, cE, HC⟩ : ∃ qE tE nE cE, Hid (ChkAt w w3.heap.size W4 qE tE nE cE) := ⟨_, _, _, _, hide (unhide HC0)⟩
        have hz0 : ¬ (0 : Int) < (ln : Int) := by omega
        have hz1 : ¬ 0 < ln := by omega
        have hz2 : decide (0 < ln) = false := decide_eq_false hz1
        clear hz
        have HS : Hid (∀ w', Below W4.heap.size W4 w' → w'.cell? ⟨w3.heap.size, 0, none⟩ = some (.int .i64 qE.n) ∧ w'.cell? ⟨w3.heap.size, 1, none⟩ = some tE ∧ w'.cell? ⟨w3.heap.size, 2, none⟩ = some nE ∧ w'.cell? ⟨w3.heap.size, 3, none⟩ = some cE) := hide fun w' hb => by
          obtain ⟨e0, e1, e2, e3, -, -, -, -⟩ := obj_cells ((hb.block _ (heap_lt (unhide HC).ob)).trans (unhide HC).ob)
          exact ⟨e0, e1, e2, e3⟩
        have HK1 := hide (fun w' (hb : Below W4.heap.size W4 w') => check_any qE _ _ _ _ w' ((unhide HC).ni.below hb) (unhide HC).lo (unhide HC).hi)
        have HK2 := hide (fun w' (hb : Below W4.heap.size W4 w') => check2_any qE _ _ _ _ w' ((unhide HC).ni.below hb) (unhide HC).lo (unhide HC).hi)
        have HF : Hid (∀ w', Below W4.heap.size W4 w' → Below w.heap.size w w') := hide fun w' hb => (unhide HC).bl.trans (hb.mono (unhide HC).bl.size)
        clear HC
        generalize Sp.checkI qE = ck at *
        have hck : (ck == ck) = true := beq_self_eq_true _
        go_upto_region 32 with fail
        have hb0 : Below W4.heap.size W4 W4.drew := (Below.refl _ _).drew
        refine wp_region_G (fun w' => w'.cell? ⟨w3.heap.size, 0, none⟩ = some (.int .i64 qE.n) ∧ w'.cell? ⟨w3.heap.size, 1, none⟩ = some tE ∧ w'.cell? ⟨w3.heap.size, 2, none⟩ = some nE ∧ w'.cell? ⟨w3.heap.size, 3, none⟩ = some cE) (fun _ => false) (by kernel_rfl) (unhide HS _ hb0) (fun hHeld => ?_)
        generalize W4.drew = wq at *
        refine wpAnyG_take (v := ?_) 0 (by rfl) (by kernel_rfl) (by kernel_rfl) (by kernel_rfl) (by kernel_rfl) (fun _ _ _ h => h) (Or.inl ⟨by rfl, ?_⟩) (by assumption) ?_
        rotate_left
        · (intro w' hSw; (try dsimp only at hSw); (try simp only [List.getElem_toArray, List.getElem_cons_zero]); go_simp; try (with_reducible rfl))
        simp only [Act.put, List.getElem_toArray, List.getElem_cons_zero, List.setIfInBounds_toArray, List.set_cons_zero, List.set_cons_succ]
        refine wpAnyG_take (v := ?_) 2 (by rfl) (by kernel_rfl) (by kernel_rfl) (by kernel_rfl) (by kernel_rfl) (fun _ _ _ h => h) (Or.inl ⟨by rfl, ?_⟩) (by assumption) ?_
        rotate_left
        · (intro w' hSw; (try dsimp only at hSw); (try simp only [List.getElem_toArray, List.getElem_cons_succ, List.getElem_cons_zero]); go_simp; try (with_reducible rfl))
        simp only [Act.put, List.getElem_toArray, List.getElem_cons_succ, List.getElem_cons_zero, List.setIfInBounds_toArray, List.set_cons_zero, List.set_cons_succ]
        refine wpAnyG_ready [1] (by kernel_rfl) (by simp) ?_
        refine AllReadyG.cons 1 (by rfl) (fun K hK => ?_) ?_
        · simp only [List.getElem_toArray, List.getElem_cons_succ, List.getElem_cons_zero]
          go_simp
          go_at_call 12
          refine (unhide HK1 _ hb0).mono ?_
          rintro e wA ⟨rfl, hl1⟩
          have hb1 := hb0.trans (hl1.mono hb0.size)
          refine hK.out _ _ (unhide HS _ hb1) (fun _ => ?_)
          clear hK K
          try simp only [Act.put, List.setIfInBounds_toArray, List.set_cons_zero, List.set_cons_succ]
          refine wpAnyG_ready [3] (by kernel_rfl) (by simp) ?_
          refine AllReadyG.cons 3 (by rfl) (fun K hK => ?_) ?_
          · simp only [List.getElem_toArray, List.getElem_cons_succ, List.getElem_cons_zero]
            go_simp
            go_at_call 13
            refine (unhide HK2 _ hb1).mono ?_
            rintro e wB ⟨rfl, hl2⟩
            have hb2 := hb1.trans (hl2.mono hb1.size)
            refine hK.out _ _ (unhide HS _ hb2) (fun _ => ?_)
            clear hK K
            try simp only [Act.put, List.setIfInBounds_toArray, List.set_cons_zero, List.set_cons_succ]
            refine wpAnyG_take (v := ?_) 4 (by rfl) (by kernel_rfl) (by kernel_rfl) (by kernel_rfl) (by kernel_rfl) (fun _ _ _ h => h) (Or.inl ⟨by rfl, ?_⟩) (by assumption) ?_
            rotate_left
            · (intro w' hSw; (try dsimp only at hSw); (try simp only [List.getElem_toArray, List.getElem_cons_succ, List.getElem_cons_zero]); go_simp; try (with_reducible rfl))
            simp only [Act.put, List.getElem_toArray, List.getElem_cons_succ, List.getElem_cons_zero, List.setIfInBounds_toArray, List.set_cons_zero, List.set_cons_succ]
            refine wpAnyG_take (v := ?_) 5 (by rfl) (by kernel_rfl) (by kernel_rfl) (by kernel_rfl) (by kernel_rfl) (fun _ _ _ h => h) (Or.inl ⟨by rfl, ?_⟩) (by assumption) ?_
            rotate_left
            · (intro w' hSw; (try dsimp only at hSw); (try simp only [List.getElem_toArray, List.getElem_cons_succ, List.getElem_cons_zero]); go_simp; try (with_reducible rfl))
            simp only [Act.put, List.getElem_toArray, List.getElem_cons_succ, List.getElem_cons_zero, List.setIfInBounds_toArray, List.set_cons_zero, List.set_cons_succ]
            refine wpAnyG_done (by kernel_rfl) ?_ _
            refine NoPanic.normal ?_
            go_wp2
            rw [unhide HP]
            exact ⟨by rfl, unhide HF _ hb2⟩
          exact AllReadyG.nil
        exact AllReadyG.nil
      · have hz0 : (0 : Int) < (ln : Int) := by omega
        have hz1 : 0 < ln := by omega
        obtain ⟨g1, g2, g3, rfl, rfl, rfl, HgB, HTs, HNs, HCs, HSw⟩ := unhide HLs hz1
        go_upto_region 23 with fail
        have HWb := hide (fun w' => within2_any v 5 w' (by decide) (by decide))
        obtain ⟨bt, zl, hbt, hb2, hzl⟩ : ∃ (b : Nat) (z : Int), v % 5 = (b : Int) ∧ b < 5 ∧ (#[.int .i64 (-1), .int .i64 0, .int .i64 2147483648, .int .i64 2147483649, .int .i64 v] : Array Value)[b]? = some (.int .i64 z) := by
          rcases (show v % 5 = 0 ∨ v % 5 = 1 ∨ v % 5 = 2 ∨ v % 5 = 3 ∨ v % 5 = 4 by omega) with h | h | h | h | h
          · exact ⟨0, -1, h, by omega, rfl⟩
          · exact ⟨1, 0, h, by omega, rfl⟩
          · exact ⟨2, 2147483648, h, by omega, rfl⟩
          · exact ⟨3, 2147483649, h, by omega, rfl⟩
          · exact ⟨4, v, h, by omega, rfl⟩
        rw [hbt] at HWb
        have hb2I : (bt : Int) < 5 := by omega
        clear hbt
        obtain ⟨x0, x1, x2, x3, -, -, -, -⟩ := obj_cells (unhide HC0).ob
        have HWa := hide (fun w' => within2_any at_ ln w' (by omega) (by omega))
        have a0 := Int.emod_nonneg at_ (b := (ln : Int)) (by omega)
        have a1 : at_ % (ln : Int) < ln := Int.emod_lt_of_pos _ (by omega)
        obtain ⟨j, hj⟩ : ∃ j : Nat, at_ % (ln : Int) = (j : Int) := ⟨(at_ % (ln : Int)).toNat, by omega⟩
        rw [hj] at HWa a1
        have hjl : j < ln := by omega
        have hjI : (j : Int) < (ln : Int) := by omega
        have hS0 : W4.drew.cell? ⟨w3.heap.size, 0, none⟩ = some (.int .i64 q.n) ∧ W4.drew.cell? ⟨w3.heap.size, 3, none⟩ = some (.slice (some ⟨g3, 0, none⟩) ln cc) := ⟨x0, x3⟩
        have HN := hide (unhide HCs j hjl)
        clear x0 x1 x2 x3 a0 a1 hj
        have Hlt : Hid (w3.heap.size < W4.heap.size) := hide (by rw [unhide Hs4]; omega)
        have HX : Hid (W4.cell? ⟨w3.heap.size, 0, none⟩ = some (.int .i64 q.n) ∧ W4.cell? ⟨w3.heap.size, 3, none⟩ = some (.slice (some ⟨g3, 0, none⟩) ln cc)) := hide hS0
        refine wp_region_G (fun w' => w'.cell? ⟨w3.heap.size, 0, none⟩ = some (.int .i64 q.n) ∧ w'.cell? ⟨w3.heap.size, 3, none⟩ = some (.slice (some ⟨g3, 0, none⟩) ln cc)) (fun i => i == 12) (by kernel_rfl) hS0 (fun hHeld => ?_)
        have hbw : Below W4.heap.size W4 W4.drew := (Below.refl _ _).drew
        have hSq := hS0
        generalize W4.drew = wq at *
        clear hS0
        refine wpAnyG_take (v := ?_) 0 (by rfl) (by kernel_rfl) (by kernel_rfl) (by kernel_rfl) (by kernel_rfl) (fun _ _ _ h => h) (Or.inl ⟨by rfl, ?_⟩) (by assumption) ?_
        rotate_left
        · (intro w' hSw; (try dsimp only at hSw); (try simp only [List.getElem_toArray, List.getElem_cons_zero]); go_simp; try (with_reducible rfl))
        simp only [Act.put, List.getElem_toArray, List.getElem_cons_zero, List.setIfInBounds_toArray, List.set_cons_zero, List.set_cons_succ]
        refine wpAnyG_take (v := ?_) 1 (by rfl) (by kernel_rfl) (by kernel_rfl) (by kernel_rfl) (by kernel_rfl) (fun _ _ _ h => h) (Or.inl ⟨by rfl, ?_⟩) (by assumption) ?_
        rotate_left
        · (intro w' hSw; (try dsimp only at hSw); (try simp only [List.getElem_toArray, List.getElem_cons_succ, List.getElem_cons_zero]); go_simp; try (with_reducible rfl))
        simp only [Act.put, List.getElem_toArray, List.getElem_cons_succ, List.getElem_cons_zero, List.setIfInBounds_toArray, List.set_cons_zero, List.set_cons_succ]
        refine wpAnyG_take (v := ?_) 2 (by rfl) (by kernel_rfl) (by kernel_rfl) (by kernel_rfl) (by kernel_rfl) (fun _ _ _ h => h) (Or.inl ⟨by rfl, ?_⟩) (by assumption) ?_
        rotate_left
        · (intro w' hSw; (try dsimp only at hSw); (try simp only [List.getElem_toArray, List.getElem_cons_succ, List.getElem_cons_zero]); go_simp; try (with_reducible rfl))
        simp only [Act.put, List.getElem_toArray, List.getElem_cons_succ, List.getElem_cons_zero, List.setIfInBounds_toArray, List.set_cons_zero, List.set_cons_succ]
        refine wpAnyG_take (v := ?_) 3 (by rfl) (by kernel_rfl) (by kernel_rfl) (by kernel_rfl) (by kernel_rfl) (fun _ _ _ h => h) (Or.inl ⟨by rfl, ?_⟩) (by assumption) ?_
        rotate_left
        · (intro w' hSw; (try dsimp only at hSw); (try simp only [List.getElem_toArray, List.getElem_cons_succ, List.getElem_cons_zero]); go_simp; try (with_reducible rfl))
        simp only [Act.put, List.getElem_toArray, List.getElem_cons_succ, List.getElem_cons_zero, List.setIfInBounds_toArray, List.set_cons_zero, List.set_cons_succ]
        refine wpAnyG_take (v := ?_) 5 (by rfl) (by kernel_rfl) (by kernel_rfl) (by kernel_rfl) (by kernel_rfl) (fun _ _ _ h => h) (Or.inl ⟨by rfl, ?_⟩) (by assumption) ?_
        rotate_left
        · (intro w' hSw; (try dsimp only at hSw); (try simp only [List.getElem_toArray, List.getElem_cons_succ, List.getElem_cons_zero]); go_simp; try (with_reducible rfl))
        simp only [Act.put, List.getElem_toArray, List.getElem_cons_succ, List.getElem_cons_zero, List.setIfInBounds_toArray, List.set_cons_zero, List.set_cons_succ]
        refine wpAnyG_take (v := ?_) 7 (by rfl) (by kernel_rfl) (by kernel_rfl) (by kernel_rfl) (by kernel_rfl) (fun _ _ _ h => h) (Or.inl ⟨by rfl, ?_⟩) (by assumption) ?_
        rotate_left
        · (intro w' hSw; (try dsimp only at hSw); (try simp only [List.getElem_toArray, List.getElem_cons_succ, List.getElem_cons_zero]); go_simp; try (with_reducible rfl))
        simp only [Act.put, List.getElem_toArray, List.getElem_cons_succ, List.getElem_cons_zero, List.setIfInBounds_toArray, List.set_cons_zero, List.set_cons_succ]
        refine wpAnyG_ready [4, 6] (by kernel_rfl) (by simp) ?_
        refine AllReadyG.cons 4 (by rfl) (fun K hK => ?_) ?_
        · simp only [List.getElem_toArray, List.getElem_cons_succ, List.getElem_cons_zero]
          go_simp
          go_at_call 11
          refine (unhide HWa _).mono ?_
          rintro e w9 ⟨rfl, h9⟩
          have h9' := h9.symm
          clear h9
          subst h9'
          refine hK.out _ _ hSq (fun _ => ?_)
          clear hK K
          try simp only [Act.put, List.setIfInBounds_toArray, List.set_cons_zero, List.set_cons_succ]
          refine wpAnyG_ready [6, 8] (by kernel_rfl) (by simp) ?_
          refine AllReadyG.cons 6 (by rfl) (fun K hK => ?_) ?_
          · simp only [List.getElem_toArray, List.getElem_cons_succ, List.getElem_cons_zero]
            go_simp
            refine hK.out _ _ ⟨((hbw.alloc hbw.size _).cell (by exact unhide Hlt)).trans (unhide HX).1, ((hbw.alloc hbw.size _).cell (by exact unhide Hlt)).trans (unhide HX).2⟩ (fun _ => ?_)
            clear hK K
            try simp only [Act.put, List.setIfInBounds_toArray, List.set_cons_zero, List.set_cons_succ]
            obtain ⟨gl, hgl⟩ : ∃ g, g = wq.heap.size := ⟨_, rfl⟩
            rw [← hgl]
            have hL : (wq.alloc (.cells #[.int .i64 (-1), .int .i64 0, .int .i64 2147483648, .int .i64 2147483649, .int .i64 v] 3)).heap[gl]? = some (.cells #[.int .i64 (-1), .int .i64 0, .int .i64 2147483648, .int .i64 2147483649, .int .i64 v] 3) := by rw [hgl]; exact heap_alloc_new wq _
            have hbl : Below W4.heap.size W4 (wq.alloc (.cells #[.int .i64 (-1), .int .i64 0, .int .i64 2147483648, .int .i64 2147483649, .int .i64 v] 3)) := hbw.alloc hbw.size _
            have hglb : W4.heap.size ≤ gl := by rw [hgl]; exact hbw.size
            clear hgl
            generalize wq.alloc (.cells #[.int .i64 (-1), .int .i64 0, .int .i64 2147483648, .int .i64 2147483649, .int .i64 v] 3) = wl at *
            have hS1 : (wl.cell? ⟨w3.heap.size, 0, none⟩ = some (.int .i64 q.n) ∧ wl.cell? ⟨w3.heap.size, 3, none⟩ = some (.slice (some ⟨g3, 0, none⟩) ln cc)) := ⟨(hbl.cell (by exact unhide Hlt)).trans (unhide HX).1, (hbl.cell (by exact unhide Hlt)).trans (unhide HX).2⟩
            refine wpAnyG_ready [8] (by kernel_rfl) (by simp) ?_
            refine AllReadyG.cons 8 (by rfl) (fun K hK => ?_) ?_
            · simp only [List.getElem_toArray, List.getElem_cons_succ, List.getElem_cons_zero]
              go_simp
              go_at_call 11
              refine (unhide HWb _).mono ?_
              rintro e w9 ⟨rfl, h9⟩
              have h9' := h9.symm
              clear h9
              subst h9'
              refine hK.out _ _ hS1 (fun _ => ?_)
              clear hK K
              try simp only [Act.put, List.setIfInBounds_toArray, List.set_cons_zero, List.set_cons_succ]
              have kl : wl.cell? ⟨gl, bt, none⟩ = some (.int .i64 zl) := by rw [cell_of_row _ _ _ _ _ _ hL]; exact hzl
              refine wpAnyG_take (v := ?_) 9 (by rfl) (by kernel_rfl) (by kernel_rfl) (by kernel_rfl) (by kernel_rfl) (fun _ _ _ h => h) (Or.inl ⟨by rfl, ?_⟩) (by assumption) ?_
              rotate_left
              · (intro w' hSw; (try dsimp only at hSw); (try simp only [List.getElem_toArray, List.getElem_cons_succ, List.getElem_cons_zero]); go_simp; try (with_reducible rfl))
              simp only [Act.put, List.getElem_toArray, List.getElem_cons_succ, List.getElem_cons_zero, List.setIfInBounds_toArray, List.set_cons_zero, List.set_cons_succ]
              refine wpAnyG_ready [10] (by kernel_rfl) (by simp) ?_
              refine AllReadyG.cons 10 (by rfl) (fun K hK => ?_) ?_
              · simp only [List.getElem_toArray, List.getElem_cons_succ, List.getElem_cons_zero]
                go_simp
                refine hK.out _ _ hS1 (fun _ => ?_)
                clear hK K
                try simp only [Act.put, List.setIfInBounds_toArray, List.set_cons_zero, List.set_cons_succ]
                obtain ⟨⟨zc, kc, fc'⟩, hN⟩ := unhide HN wl hbl
                have HN2 := hide hN
                clear hN
                refine wpAnyG_take (v := ?_) 11 (by rfl) (by kernel_rfl) (by kernel_rfl) (by kernel_rfl) (by kernel_rfl) (fun _ _ _ h => h) (Or.inl ⟨by rfl, ?_⟩) (by assumption) ?_
                rotate_left
                · (intro w' hSw; (try dsimp only at hSw); (try simp only [List.getElem_toArray, List.getElem_cons_succ, List.getElem_cons_zero]); go_simp; try (with_reducible rfl))
                simp only [Act.put, List.getElem_toArray, List.getElem_cons_succ, List.getElem_cons_zero, List.setIfInBounds_toArray, List.set_cons_zero, List.set_cons_succ]
                refine wpAnyG_ready [12] (by kernel_rfl) (by simp) ?_
                refine AllReadyG.last 12 (by rfl) (by kernel_rfl) (fun K hK => ?_) ?_
                · simp only [List.getElem_toArray, List.getElem_cons_succ, List.getElem_cons_zero]
                  go_simp
                  refine hK.out _ _ ?_
                  clear hK K
                  try simp only [Act.put, List.setIfInBounds_toArray, List.set_cons_zero, List.set_cons_succ]
                  refine wpAnyG_done (by kernel_rfl) ?_ _
                  refine NoPanic.normal ?_
                  have HC' : Hid (ChkAt w w3.heap.size (wl.setCell ⟨g3, j, none⟩ (.int .i64 zl)) _ _ _ _) := hide (unhide HN2 _)
                  obtain ⟨qE, tE, nE, cE, HC⟩ : ∃ qE tE nE cE, Hid (ChkAt w w3.heap.size (wl.setCell ⟨g3, j, none⟩ (.int .i64 zl)) qE tE nE cE) := ⟨_, _, _, _, HC'⟩
                  clear HC'
                  generalize wl.setCell ⟨g3, j, none⟩ (.int .i64 zl) = wP at *
                  have HS : Hid (∀ w', Below wP.heap.size wP w' → w'.cell? ⟨w3.heap.size, 0, none⟩ = some (.int .i64 qE.n) ∧ w'.cell? ⟨w3.heap.size, 1, none⟩ = some tE ∧ w'.cell? ⟨w3.heap.size, 2, none⟩ = some nE ∧ w'.cell? ⟨w3.heap.size, 3, none⟩ = some cE) := hide fun w' hb => by
                    obtain ⟨e0, e1, e2, e3, -, -, -, -⟩ := obj_cells ((hb.block _ (heap_lt (unhide HC).ob)).trans (unhide HC).ob)
                    exact ⟨e0, e1, e2, e3⟩
                  have HK1 := hide (fun w' (hb : Below wP.heap.size wP w') => check_any qE _ _ _ _ w' ((unhide HC).ni.below hb) (unhide HC).lo (unhide HC).hi)
                  have HK2 := hide (fun w' (hb : Below wP.heap.size wP w') => check2_any qE _ _ _ _ w' ((unhide HC).ni.below hb) (unhide HC).lo (unhide HC).hi)
                  have HF : Hid (∀ w', Below wP.heap.size wP w' → Below w.heap.size w w') := hide fun w' hb => (unhide HC).bl.trans (hb.mono (unhide HC).bl.size)
                  clear HC
                  generalize Sp.checkI qE = ck at *
                  have hck : (ck == ck) = true := beq_self_eq_true _
                  go_upto_region 32 with fail
                  have hb0 : Below wP.heap.size wP wP.drew := (Below.refl _ _).drew
                  refine wp_region_G (fun w' => w'.cell? ⟨w3.heap.size, 0, none⟩ = some (.int .i64 qE.n) ∧ w'.cell? ⟨w3.heap.size, 1, none⟩ = some tE ∧ w'.cell? ⟨w3.heap.size, 2, none⟩ = some nE ∧ w'.cell? ⟨w3.heap.size, 3, none⟩ = some cE) (fun _ => false) (by kernel_rfl) (unhide HS _ hb0) (fun hHeld => ?_)
                  generalize wP.drew = wq at *
                  refine wpAnyG_take (v := ?_) 0 (by rfl) (by kernel_rfl) (by kernel_rfl) (by kernel_rfl) (by kernel_rfl) (fun _ _ _ h => h) (Or.inl ⟨by rfl, ?_⟩) (by assumption) ?_
                  rotate_left
                  · (intro w' hSw; (try dsimp only at hSw); (try simp only [List.getElem_toArray, List.getElem_cons_zero]); go_simp; try (with_reducible rfl))
                  simp only [Act.put, List.getElem_toArray, List.getElem_cons_zero, List.setIfInBounds_toArray, List.set_cons_zero, List.set_cons_succ]
                  refine wpAnyG_take (v := ?_) 2 (by rfl) (by kernel_rfl) (by kernel_rfl) (by kernel_rfl) (by kernel_rfl) (fun _ _ _ h => h) (Or.inl ⟨by rfl, ?_⟩) (by assumption) ?_
                  rotate_left
                  · (intro w' hSw; (try dsimp only at hSw); (try simp only [List.getElem_toArray, List.getElem_cons_succ, List.getElem_cons_zero]); go_simp; try (with_reducible rfl))
                  simp only [Act.put, List.getElem_toArray, List.getElem_cons_succ, List.getElem_cons_zero, List.setIfInBounds_toArray, List.set_cons_zero, List.set_cons_succ]
                  refine wpAnyG_ready [1] (by kernel_rfl) (by simp) ?_
                  refine AllReadyG.cons 1 (by rfl) (fun K hK => ?_) ?_
                  · simp only [List.getElem_toArray, List.getElem_cons_succ, List.getElem_cons_zero]
                    go_simp
                    go_at_call 12
                    refine (unhide HK1 _ hb0).mono ?_
                    rintro e wA ⟨rfl, hl1⟩
                    have hb1 := hb0.trans (hl1.mono hb0.size)
                    refine hK.out _ _ (unhide HS _ hb1) (fun _ => ?_)
                    clear hK K
                    try simp only [Act.put, List.setIfInBounds_toArray, List.set_cons_zero, List.set_cons_succ]
                    refine wpAnyG_ready [3] (by kernel_rfl) (by simp) ?_
                    refine AllReadyG.cons 3 (by rfl) (fun K hK => ?_) ?_
                    · simp only [List.getElem_toArray, List.getElem_cons_succ, List.getElem_cons_zero]
                      go_simp
                      go_at_call 13
                      refine (unhide HK2 _ hb1).mono ?_
                      rintro e wB ⟨rfl, hl2⟩
                      have hb2 := hb1.trans (hl2.mono hb1.size)
                      refine hK.out _ _ (unhide HS _ hb2) (fun _ => ?_)
                      clear hK K
                      try simp only [Act.put, List.setIfInBounds_toArray, List.set_cons_zero, List.set_cons_succ]
                      refine wpAnyG_take (v := ?_) 4 (by rfl) (by kernel_rfl) (by kernel_rfl) (by kernel_rfl) (by kernel_rfl) (fun _ _ _ h => h) (Or.inl ⟨by rfl, ?_⟩) (by assumption) ?_
                      rotate_left
                      · (intro w' hSw; (try dsimp only at hSw); (try simp only [List.getElem_toArray, List.getElem_cons_succ, List.getElem_cons_zero]); go_simp; try (with_reducible rfl))
                      simp only [Act.put, List.getElem_toArray, List.getElem_cons_succ, List.getElem_cons_zero, List.setIfInBounds_toArray, List.set_cons_zero, List.set_cons_succ]
                      refine wpAnyG_take (v := ?_) 5 (by rfl) (by kernel_rfl) (by kernel_rfl) (by kernel_rfl) (by kernel_rfl) (fun _ _ _ h => h) (Or.inl ⟨by rfl, ?_⟩) (by assumption) ?_
                      rotate_left
                      · (intro w' hSw; (try dsimp only at hSw); (try simp only [List.getElem_toArray, List.getElem_cons_succ, List.getElem_cons_zero]); go_simp; try (with_reducible rfl))
                      simp only [Act.put, List.getElem_toArray, List.getElem_cons_succ, List.getElem_cons_zero, List.setIfInBounds_toArray, List.set_cons_zero, List.set_cons_succ]
                      refine wpAnyG_done (by kernel_rfl) ?_ _
                      refine NoPanic.normal ?_
                      go_wp2
                      rw [unhide HP]
                      exact ⟨by rfl, unhide HF _ hb2⟩
                    exact AllReadyG.nil
                  exact AllReadyG.nil
                exact AllReadyG.nil
              exact AllReadyG.nil
            exact AllReadyG.nil
          refine AllReadyG.cons 8 (by rfl) (fun K hK => ?_) ?_
          · simp only [List.getElem_toArray, List.getElem_cons_succ, List.getElem_cons_zero]
            go_simp
            go_at_call 11
            refine (unhide HWb _).mono ?_
            rintro e w9 ⟨rfl, h9⟩
            have h9' := h9.symm
            clear h9
            subst h9'
            refine hK.out _ _ hSq (fun _ => ?_)
            clear hK K
            try simp only [Act.put, List.setIfInBounds_toArray, List.set_cons_zero, List.set_cons_succ]
            refine wpAnyG_ready [6] (by kernel_rfl) (by simp) ?_
            refine AllReadyG.cons 6 (by rfl) (fun K hK => ?_) ?_
            · simp only [List.getElem_toArray, List.getElem_cons_succ, List.getElem_cons_zero]
              go_simp
              refine hK.out _ _ ⟨((hbw.alloc hbw.size _).cell (by exact unhide Hlt)).trans (unhide HX).1, ((hbw.alloc hbw.size _).cell (by exact unhide Hlt)).trans (unhide HX).2⟩ (fun _ => ?_)
              clear hK K
              try simp only [Act.put, List.setIfInBounds_toArray, List.set_cons_zero, List.set_cons_succ]
              obtain ⟨gl, hgl⟩ : ∃ g, g = wq.heap.size := ⟨_, rfl⟩
              rw [← hgl]
              have hL : (wq.alloc (.cells #[.int .i64 (-1), .int .i64 0, .int .i64 2147483648, .int .i64 2147483649, .int .i64 v] 3)).heap[gl]? = some (.cells #[.int .i64 (-1), .int .i64 0, .int .i64 2147483648, .int .i64 2147483649, .int .i64 v] 3) := by rw [hgl]; exact heap_alloc_new wq _
              have hbl : Below W4.heap.size W4 (wq.alloc (.cells #[.int .i64 (-1), .int .i64 0, .int .i64 2147483648, .int .i64 2147483649, .int .i64 v] 3)) := hbw.alloc hbw.size _
              have hglb : W4.heap.size ≤ gl := by rw [hgl]; exact hbw.size
              clear hgl
              generalize wq.alloc (.cells #[.int .i64 (-1), .int .i64 0, .int .i64 2147483648, .int .i64 2147483649, .int .i64 v] 3) = wl at *
              have hS1 : (wl.cell? ⟨w3.heap.size, 0, none⟩ = some (.int .i64 q.n) ∧ wl.cell? ⟨w3.heap.size, 3, none⟩ = some (.slice (some ⟨g3, 0, none⟩) ln cc)) := ⟨(hbl.cell (by exact unhide Hlt)).trans (unhide HX).1, (hbl.cell (by exact unhide Hlt)).trans (unhide HX).2⟩
              have kl : wl.cell? ⟨gl, bt, none⟩ = some (.int .i64 zl) := by rw [cell_of_row _ _ _ _ _ _ hL]; exact hzl
              refine wpAnyG_take (v := ?_) 9 (by rfl) (by kernel_rfl) (by kernel_rfl) (by kernel_rfl) (by kernel_rfl) (fun _ _ _ h => h) (Or.inl ⟨by rfl, ?_⟩) (by assumption) ?_
              rotate_left
              · (intro w' hSw; (try dsimp only at hSw); (try simp only [List.getElem_toArray, List.getElem_cons_succ, List.getElem_cons_zero]); go_simp; try (with_reducible rfl))
              simp only [Act.put, List.getElem_toArray, List.getElem_cons_succ, List.getElem_cons_zero, List.setIfInBounds_toArray, List.set_cons_zero, List.set_cons_succ]
              refine wpAnyG_ready [10] (by kernel_rfl) (by simp) ?_
              refine AllReadyG.cons 10 (by rfl) (fun K hK => ?_) ?_
              · simp only [List.getElem_toArray, List.getElem_cons_succ, List.getElem_cons_zero]
                go_simp
                refine hK.out _ _ hS1 (fun _ => ?_)
                clear hK K
                try simp only [Act.put, List.setIfInBounds_toArray, List.set_cons_zero, List.set_cons_succ]
                obtain ⟨⟨zc, kc, fc'⟩, hN⟩ := unhide HN wl hbl
                have HN2 := hide hN
                clear hN
                refine wpAnyG_take (v := ?_) 11 (by rfl) (by kernel_rfl) (by kernel_rfl) (by kernel_rfl) (by kernel_rfl) (fun _ _ _ h => h) (Or.inl ⟨by rfl, ?_⟩) (by assumption) ?_
                rotate_left
                · (intro w' hSw; (try dsimp only at hSw); (try simp only [List.getElem_toArray, List.getElem_cons_succ, List.getElem_cons_zero]); go_simp; try (with_reducible rfl))
                simp only [Act.put, List.getElem_toArray, List.getElem_cons_succ, List.getElem_cons_zero, List.setIfInBounds_toArray, List.set_cons_zero, List.set_cons_succ]
                refine wpAnyG_ready [12] (by kernel_rfl) (by simp) ?_
                refine AllReadyG.last 12 (by rfl) (by kernel_rfl) (fun K hK => ?_) ?_
                · simp only [List.getElem_toArray, List.getElem_cons_succ, List.getElem_cons_zero]
                  go_simp
                  refine hK.out _ _ ?_
                  clear hK K
                  try simp only [Act.put, List.setIfInBounds_toArray, List.set_cons_zero, List.set_cons_succ]
                  refine wpAnyG_done (by kernel_rfl) ?_ _
                  refine NoPanic.normal ?_
                  have HC' : Hid (ChkAt w w3.heap.size (wl.setCell ⟨g3, j, none⟩ (.int .i64 zl)) _ _ _ _) := hide (unhide HN2 _)
                  obtain ⟨qE, tE, nE, cE, HC⟩ : ∃ qE tE nE cE, Hid (ChkAt w w3.heap.size (wl.setCell ⟨g3, j, none⟩ (.int .i64 zl)) qE tE nE cE) := ⟨_, _, _, _, HC'⟩
                  clear HC'
                  generalize wl.setCell ⟨g3, j, none⟩ (.int .i64 zl) = wP at *
                  have HS : Hid (∀ w', Below wP.heap.size wP w' → w'.cell? ⟨w3.heap.size, 0, none⟩ = some (.int .i64 qE.n) ∧ w'.cell? ⟨w3.heap.size, 1, none⟩ = some tE ∧ w'.cell? ⟨w3.heap.size, 2, none⟩ = some nE ∧ w'.cell? ⟨w3.heap.size, 3, none⟩ = some cE) := hide fun w' hb => by
                    obtain ⟨e0, e1, e2, e3, -, -, -, -⟩ := obj_cells ((hb.block _ (heap_lt (unhide HC).ob)).trans (unhide HC).ob)
                    exact ⟨e0, e1, e2, e3⟩
                  have HK1 := hide (fun w' (hb : Below wP.heap.size wP w') => check_any qE _ _ _ _ w' ((unhide HC).ni.below hb) (unhide HC).lo (unhide HC).hi)
                  have HK2 := hide (fun w' (hb : Below wP.heap.size wP w') => check2_any qE _ _ _ _ w' ((unhide HC).ni.below hb) (unhide HC).lo (unhide HC).hi)
                  have HF : Hid (∀ w', Below wP.heap.size wP w' → Below w.heap.size w w') := hide fun w' hb => (unhide HC).bl.trans (hb.mono (unhide HC).bl.size)
                  clear HC
                  generalize Sp.checkI qE = ck at *
                  have hck : (ck == ck) = true := beq_self_eq_true _
                  go_upto_region 32 with fail
                  have hb0 : Below wP.heap.size wP wP.drew := (Below.refl _ _).drew
                  refine wp_region_G (fun w' => w'.cell? ⟨w3.heap.size, 0, none⟩ = some (.int .i64 qE.n) ∧ w'.cell? ⟨w3.heap.size, 1, none⟩ = some tE ∧ w'.cell? ⟨w3.heap.size, 2, none⟩ = some nE ∧ w'.cell? ⟨w3.heap.size, 3, none⟩ = some cE) (fun _ => false) (by kernel_rfl) (unhide HS _ hb0) (fun hHeld => ?_)
                  generalize wP.drew = wq at *
                  refine wpAnyG_take (v := ?_) 0 (by rfl) (by kernel_rfl) (by kernel_rfl) (by kernel_rfl) (by kernel_rfl) (fun _ _ _ h => h) (Or.inl ⟨by rfl, ?_⟩) (by assumption) ?_
                  rotate_left
                  · (intro w' hSw; (try dsimp only at hSw); (try simp only [List.getElem_toArray, List.getElem_cons_zero]); go_simp; try (with_reducible rfl))
                  simp only [Act.put, List.getElem_toArray, List.getElem_cons_zero, List.setIfInBounds_toArray, List.set_cons_zero, List.set_cons_succ]
                  refine wpAnyG_take (v := ?_) 2 (by rfl) (by kernel_rfl) (by kernel_rfl) (by kernel_rfl) (by kernel_rfl) (fun _ _ _ h => h) (Or.inl ⟨by rfl, ?_⟩) (by assumption) ?_
                  rotate_left
                  · (intro w' hSw; (try dsimp only at hSw); (try simp only [List.getElem_toArray, List.getElem_cons_succ, List.getElem_cons_zero]); go_simp; try (with_reducible rfl))
                  simp only [Act.put, List.getElem_toArray, List.getElem_cons_succ, List.getElem_cons_zero, List.setIfInBounds_toArray, List.set_cons_zero, List.set_cons_succ]
                  refine wpAnyG_ready [1] (by kernel_rfl) (by simp) ?_
                  refine AllReadyG.cons 1 (by rfl) (fun K hK => ?_) ?_
                  · simp only [List.getElem_toArray, List.getElem_cons_succ, List.getElem_cons_zero]
                    go_simp
                    go_at_call 12
                    refine (unhide HK1 _ hb0).mono ?_
                    rintro e wA ⟨rfl, hl1⟩
                    have hb1 := hb0.trans (hl1.mono hb0.size)
                    refine hK.out _ _ (unhide HS _ hb1) (fun _ => ?_)
                    clear hK K
                    try simp only [Act.put, List.setIfInBounds_toArray, List.set_cons_zero, List.set_cons_succ]
                    refine wpAnyG_ready [3] (by kernel_rfl) (by simp) ?_
                    refine AllReadyG.cons 3 (by rfl) (fun K hK => ?_) ?_
                    · simp only [List.getElem_toArray, List.getElem_cons_succ, List.getElem_cons_zero]
                      go_simp
                      go_at_call 13
                      refine (unhide HK2 _ hb1).mono ?_
                      rintro e wB ⟨rfl, hl2⟩
                      have hb2 := hb1.trans (hl2.mono hb1.size)
                      refine hK.out _ _ (unhide HS _ hb2) (fun _ => ?_)
                      clear hK K
                      try simp only [Act.put, List.setIfInBounds_toArray, List.set_cons_zero, List.set_cons_succ]
                      refine wpAnyG_take (v := ?_) 4 (by rfl) (by kernel_rfl) (by kernel_rfl) (by kernel_rfl) (by kernel_rfl) (fun _ _ _ h => h) (Or.inl ⟨by rfl, ?_⟩) (by assumption) ?_
                      rotate_left
                      · (intro w' hSw; (try dsimp only at hSw); (try simp only [List.getElem_toArray, List.getElem_cons_succ, List.getElem_cons_zero]); go_simp; try (with_reducible rfl))
                      simp only [Act.put, List.getElem_toArray, List.getElem_cons_succ, List.getElem_cons_zero, List.setIfInBounds_toArray, List.set_cons_zero, List.set_cons_succ]
                      refine wpAnyG_take (v := ?_) 5 (by rfl) (by kernel_rfl) (by kernel_rfl) (by kernel_rfl) (by kernel_rfl) (fun _ _ _ h => h) (Or.inl ⟨by rfl, ?_⟩) (by assumption) ?_
                      rotate_left
                      · (intro w' hSw; (try dsimp only at hSw); (try simp only [List.getElem_toArray, List.getElem_cons_succ, List.getElem_cons_zero]); go_simp; try (with_reducible rfl))
                      simp only [Act.put, List.getElem_toArray, List.getElem_cons_succ, List.getElem_cons_zero, List.setIfInBounds_toArray, List.set_cons_zero, List.set_cons_succ]
                      refine wpAnyG_done (by kernel_rfl) ?_ _
                      refine NoPanic.normal ?_
                      go_wp2
                      rw [unhide HP]
                      exact ⟨by rfl, unhide HF _ hb2⟩
                    exact AllReadyG.nil
                  exact AllReadyG.nil
                exact AllReadyG.nil
              exact AllReadyG.nil
            exact AllReadyG.nil
          exact AllReadyG.nil
        refine AllReadyG.cons 6 (by rfl) (fun K hK => ?_) ?_
        · simp only [List.getElem_toArray, List.getElem_cons_succ, List.getElem_cons_zero]
          go_simp
          refine hK.out _ _ ⟨((hbw.alloc hbw.size _).cell (by exact unhide Hlt)).trans (unhide HX).1, ((hbw.alloc hbw.size _).cell (by exact unhide Hlt)).trans (unhide HX).2⟩ (fun _ => ?_)
          clear hK K
          try simp only [Act.put, List.setIfInBounds_toArray, List.set_cons_zero, List.set_cons_succ]
          obtain ⟨gl, hgl⟩ : ∃ g, g = wq.heap.size := ⟨_, rfl⟩
          rw [← hgl]
          have hL : (wq.alloc (.cells #[.int .i64 (-1), .int .i64 0, .int .i64 2147483648, .int .i64 2147483649, .int .i64 v] 3)).heap[gl]? = some (.cells #[.int .i64 (-1), .int .i64 0, .int .i64 2147483648, .int .i64 2147483649, .int .i64 v] 3) := by rw [hgl]; exact heap_alloc_new wq _
          have hbl : Below W4.heap.size W4 (wq.alloc (.cells #[.int .i64 (-1), .int .i64 0, .int .i64 2147483648, .int .i64 2147483649, .int .i64 v] 3)) := hbw.alloc hbw.size _
          have hglb : W4.heap.size ≤ gl := by rw [hgl]; exact hbw.size
          clear hgl
          generalize wq.alloc (.cells #[.int .i64 (-1), .int .i64 0, .int .i64 2147483648, .int .i64 2147483649, .int .i64 v] 3) = wl at *
          have hS1 : (wl.cell? ⟨w3.heap.size, 0, none⟩ = some (.int .i64 q.n) ∧ wl.cell? ⟨w3.heap.size, 3, none⟩ = some (.slice (some ⟨g3, 0, none⟩) ln cc)) := ⟨(hbl.cell (by exact unhide Hlt)).trans (unhide HX).1, (hbl.cell (by exact unhide Hlt)).trans (unhide HX).2⟩
          refine wpAnyG_ready [4] (by kernel_rfl) (by simp) ?_
          refine AllReadyG.cons 4 (by rfl) (fun K hK => ?_) ?_
          · simp only [List.getElem_toArray, List.getElem_cons_succ, List.getElem_cons_zero]
            go_simp
            go_at_call 11
            refine (unhide HWa _).mono ?_
            rintro e w9 ⟨rfl, h9⟩
            have h9' := h9.symm
            clear h9
            subst h9'
            refine hK.out _ _ hS1 (fun _ => ?_)
            clear hK K
            try simp only [Act.put, List.setIfInBounds_toArray, List.set_cons_zero, List.set_cons_succ]
            refine wpAnyG_ready [8] (by kernel_rfl) (by simp) ?_
            refine AllReadyG.cons 8 (by rfl) (fun K hK => ?_) ?_
            · simp only [List.getElem_toArray, List.getElem_cons_succ, List.getElem_cons_zero]
              go_simp
              go_at_call 11
              refine (unhide HWb _).mono ?_
              rintro e w9 ⟨rfl, h9⟩
              have h9' := h9.symm
              clear h9
              subst h9'
              refine hK.out _ _ hS1 (fun _ => ?_)
              clear hK K
              try simp only [Act.put, List.setIfInBounds_toArray, List.set_cons_zero, List.set_cons_succ]
              have kl : wl.cell? ⟨gl, bt, none⟩ = some (.int .i64 zl) := by rw [cell_of_row _ _ _ _ _ _ hL]; exact hzl
              refine wpAnyG_take (v := ?_) 9 (by rfl) (by kernel_rfl) (by kernel_rfl) (by kernel_rfl) (by kernel_rfl) (fun _ _ _ h => h) (Or.inl ⟨by rfl, ?_⟩) (by assumption) ?_
              rotate_left
              · (intro w' hSw; (try dsimp only at hSw); (try simp only [List.getElem_toArray, List.getElem_cons_succ, List.getElem_cons_zero]); go_simp; try (with_reducible rfl))
              simp only [Act.put, List.getElem_toArray, List.getElem_cons_succ, List.getElem_cons_zero, List.setIfInBounds_toArray, List.set_cons_zero, List.set_cons_succ]
              refine wpAnyG_ready [10] (by kernel_rfl) (by simp) ?_
              refine AllReadyG.cons 10 (by rfl) (fun K hK => ?_) ?_
              · simp only [List.getElem_toArray, List.getElem_cons_succ, List.getElem_cons_zero]
                go_simp
                refine hK.out _ _ hS1 (fun _ => ?_)
                clear hK K
                try simp only [Act.put, List.setIfInBounds_toArray, List.set_cons_zero, List.set_cons_succ]
                obtain ⟨⟨zc, kc, fc'⟩, hN⟩ := unhide HN wl hbl
                have HN2 := hide hN
                clear hN
                refine wpAnyG_take (v := ?_) 11 (by rfl) (by kernel_rfl) (by kernel_rfl) (by kernel_rfl) (by kernel_rfl) (fun _ _ _ h => h) (Or.inl ⟨by rfl, ?_⟩) (by assumption) ?_
                rotate_left
                · (intro w' hSw; (try dsimp only at hSw); (try simp only [List.getElem_toArray, List.getElem_cons_succ, List.getElem_cons_zero]); go_simp; try (with_reducible rfl))
                simp only [Act.put, List.getElem_toArray, List.getElem_cons_succ, List.getElem_cons_zero, List.setIfInBounds_toArray, List.set_cons_zero, List.set_cons_succ]
                refine wpAnyG_ready [12] (by kernel_rfl) (by simp) ?_
                refine AllReadyG.last 12 (by rfl) (by kernel_rfl) (fun K hK => ?_) ?_
                · simp only [List.getElem_toArray, List.getElem_cons_succ, List.getElem_cons_zero]
                  go_simp
                  refine hK.out _ _ ?_
                  clear hK K
                  try simp only [Act.put, List.setIfInBounds_toArray, List.set_cons_zero, List.set_cons_succ]
                  refine wpAnyG_done (by kernel_rfl) ?_ _
                  refine NoPanic.normal ?_
                  have HC' : Hid (ChkAt w w3.heap.size (wl.setCell ⟨g3, j, none⟩ (.int .i64 zl)) _ _ _ _) := hide (unhide HN2 _)
                  obtain ⟨qE, tE, nE, cE, HC⟩ : ∃ qE tE nE cE, Hid (ChkAt w w3.heap.size (wl.setCell ⟨g3, j, none⟩ (.int .i64 zl)) qE tE nE cE) := ⟨_, _, _, _, HC'⟩
                  clear HC'
                  generalize wl.setCell ⟨g3, j, none⟩ (.int .i64 zl) = wP at *
                  have HS : Hid (∀ w', Below wP.heap.size wP w' → w'.cell? ⟨w3.heap.size, 0, none⟩ = some (.int .i64 qE.n) ∧ w'.cell? ⟨w3.heap.size, 1, none⟩ = some tE ∧ w'.cell? ⟨w3.heap.size, 2, none⟩ = some nE ∧ w'.cell? ⟨w3.heap.size, 3, none⟩ = some cE) := hide fun w' hb => by
                    obtain ⟨e0, e1, e2, e3, -, -, -, -⟩ := obj_cells ((hb.block _ (heap_lt (unhide HC).ob)).trans (unhide HC).ob)
                    exact ⟨e0, e1, e2, e3⟩
                  have HK1 := hide (fun w' (hb : Below wP.heap.size wP w') => check_any qE _ _ _ _ w' ((unhide HC).ni.below hb) (unhide HC).lo (unhide HC).hi)
                  have HK2 := hide (fun w' (hb : Below wP.heap.size wP w') => check2_any qE _ _ _ _ w' ((unhide HC).ni.below hb) (unhide HC).lo (unhide HC).hi)
                  have HF : Hid (∀ w', Below wP.heap.size wP w' → Below w.heap.size w w') := hide fun w' hb => (unhide HC).bl.trans (hb.mono (unhide HC).bl.size)
                  clear HC
                  generalize Sp.checkI qE = ck at *
                  have hck : (ck == ck) = true := beq_self_eq_true _
                  go_upto_region 32 with fail
                  have hb0 : Below wP.heap.size wP wP.drew := (Below.refl _ _).drew
                  refine wp_region_G (fun w' => w'.cell? ⟨w3.heap.size, 0, none⟩ = some (.int .i64 qE.n) ∧ w'.cell? ⟨w3.heap.size, 1, none⟩ = some tE ∧ w'.cell? ⟨w3.heap.size, 2, none⟩ = some nE ∧ w'.cell? ⟨w3.heap.size, 3, none⟩ = some cE) (fun _ => false) (by kernel_rfl) (unhide HS _ hb0) (fun hHeld => ?_)
                  generalize wP.drew = wq at *
                  refine wpAnyG_take (v := ?_) 0 (by rfl) (by kernel_rfl) (by kernel_rfl) (by kernel_rfl) (by kernel_rfl) (fun _ _ _ h => h) (Or.inl ⟨by rfl, ?_⟩) (by assumption) ?_
                  rotate_left
                  · (intro w' hSw; (try dsimp only at hSw); (try simp only [List.getElem_toArray, List.getElem_cons_zero]); go_simp; try (with_reducible rfl))
                  simp only [Act.put, List.getElem_toArray, List.getElem_cons_zero, List.setIfInBounds_toArray, List.set_cons_zero, List.set_cons_succ]
                  refine wpAnyG_take (v := ?_) 2 (by rfl) (by kernel_rfl) (by kernel_rfl) (by kernel_rfl) (by kernel_rfl) (fun _ _ _ h => h) (Or.inl ⟨by rfl, ?_⟩) (by assumption) ?_
                  rotate_left
                  · (intro w' hSw; (try dsimp only at hSw); (try simp only [List.getElem_toArray, List.getElem_cons_succ, List.getElem_cons_zero]); go_simp; try (with_reducible rfl))
                  simp only [Act.put, List.getElem_toArray, List.getElem_cons_succ, List.getElem_cons_zero, List.setIfInBounds_toArray, List.set_cons_zero, List.set_cons_succ]
                  refine wpAnyG_ready [1] (by kernel_rfl) (by simp) ?_
                  refine AllReadyG.cons 1 (by rfl) (fun K hK => ?_) ?_
                  · simp only [List.getElem_toArray, List.getElem_cons_succ, List.getElem_cons_zero]
                    go_simp
                    go_at_call 12
                    refine (unhide HK1 _ hb0).mono ?_
                    rintro e wA ⟨rfl, hl1⟩
                    have hb1 := hb0.trans (hl1.mono hb0.size)
                    refine hK.out _ _ (unhide HS _ hb1) (fun _ => ?_)
                    clear hK K
                    try simp only [Act.put, List.setIfInBounds_toArray, List.set_cons_zero, List.set_cons_succ]
                    refine wpAnyG_ready [3] (by kernel_rfl) (by simp) ?_
                    refine AllReadyG.cons 3 (by rfl) (fun K hK => ?_) ?_
                    · simp only [List.getElem_toArray, List.getElem_cons_succ, List.getElem_cons_zero]
                      go_simp
                      go_at_call 13
                      refine (unhide HK2 _ hb1).mono ?_
                      rintro e wB ⟨rfl, hl2⟩
                      have hb2 := hb1.trans (hl2.mono hb1.size)
                      refine hK.out _ _ (unhide HS _ hb2) (fun _ => ?_)
                      clear hK K
                      try simp only [Act.put, List.setIfInBounds_toArray, List.set_cons_zero, List.set_cons_succ]
                      refine wpAnyG_take (v := ?_) 4 (by rfl) (by kernel_rfl) (by kernel_rfl) (by kernel_rfl) (by kernel_rfl) (fun _ _ _ h => h) (Or.inl ⟨by rfl, ?_⟩) (by assumption) ?_
                      rotate_left
                      · (intro w' hSw; (try dsimp only at hSw); (try simp only [List.getElem_toArray, List.getElem_cons_succ, List.getElem_cons_zero]); go_simp; try (with_reducible rfl))
                      simp only [Act.put, List.getElem_toArray, List.getElem_cons_succ, List.getElem_cons_zero, List.setIfInBounds_toArray, List.set_cons_zero, List.set_cons_succ]
                      refine wpAnyG_take (v := ?_) 5 (by rfl) (by kernel_rfl) (by kernel_rfl) (by kernel_rfl) (by kernel_rfl) (fun _ _ _ h => h) (Or.inl ⟨by rfl, ?_⟩) (by assumption) ?_
                      rotate_left
                      · (intro w' hSw; (try dsimp only at hSw); (try simp only [List.getElem_toArray, List.getElem_cons_succ, List.getElem_cons_zero]); go_simp; try (with_reducible rfl))
                      simp only [Act.put, List.getElem_toArray, List.getElem_cons_succ, List.getElem_cons_zero, List.setIfInBounds_toArray, List.set_cons_zero, List.set_cons_succ]
                      refine wpAnyG_done (by kernel_rfl) ?_ _
                      refine NoPanic.normal ?_
                      go_wp2
                      rw [unhide HP]
                      exact ⟨by rfl, unhide HF _ hb2⟩
                    exact AllReadyG.nil
                  exact AllReadyG.nil
                exact AllReadyG.nil
              exact AllReadyG.nil
            exact AllReadyG.nil
          exact AllReadyG.nil
        exact AllReadyG.nil
    · go_upto_region 25 with fail
      obtain ⟨x0, x1, x2, x3, -, f1, -, -⟩ := obj_cells (unhide HC0).ob
      have HWa := hide (fun w' => within2_any at_ ((ln : Int) + 1) w' (by omega) (by omega))
      have a0 := Int.emod_nonneg at_ (b := (ln : Int) + 1) (by omega)
      have a1 : at_ % ((ln : Int) + 1) < (ln : Int) + 1 := Int.emod_lt_of_pos _ (by omega)
      obtain ⟨j, hj⟩ : ∃ j : Nat, at_ % ((ln : Int) + 1) = (j : Int) := ⟨(at_ % ((ln : Int) + 1)).toNat, by omega⟩
      rw [hj] at HWa a1
      have hjl : j ≤ ln := by omega
      have hjI : (j : Int) ≤ (ln : Int) := by omega
      have hjc : j ≤ tc := Nat.le_trans hjl htc
      have hjcI : (j : Int) ≤ (tc : Int) := by omega
      have hw1 : IntKind.i64.wrap ((ln : Int) + 1) = (ln : Int) + 1 := by rw [IntKind.wrap_i64]; omega
      have hS0 : W4.drew.cell? ⟨w3.heap.size, 1, none⟩ = some (.slice ta ln tc) := x1
      have y1 : W4.drew.frozen? ⟨w3.heap.size, 1, none⟩ = false := f1
      have HN := hide (unhide HTk j hjl W4.drew (Below.refl _ _).drew)
      clear x0 x1 x2 x3 f1 a0 a1 hj
      refine wp_region_G (fun w' => w'.cell? ⟨w3.heap.size, 1, none⟩ = some (.slice ta ln tc)) (fun i => i == 8) (by kernel_rfl) hS0 (fun hHeld => ?_)
      generalize W4.drew = wq at *
      refine wpAnyG_take (v := ?_) 0 (by rfl) (by kernel_rfl) (by kernel_rfl) (by kernel_rfl) (by kernel_rfl) (fun _ _ _ h => h) (Or.inl ⟨by rfl, ?_⟩) (by assumption) ?_
      rotate_left
      · (intro w' hSw; (try dsimp only at hSw); (try simp only [List.getElem_toArray, List.getElem_cons_zero]); go_simp; try (with_reducible rfl))
      simp only [Act.put, List.getElem_toArray, List.getElem_cons_zero, List.setIfInBounds_toArray, List.set_cons_zero, List.set_cons_succ]
      refine wpAnyG_take (v := ?_) 1 (by rfl) (by kernel_rfl) (by kernel_rfl) (by kernel_rfl) (by kernel_rfl) (fun _ _ _ h => h) (Or.inl ⟨by rfl, ?_⟩) (by assumption) ?_
      rotate_left
      · (intro w' hSw; (try dsimp only at hSw); (try simp only [List.getElem_toArray, List.getElem_cons_succ, List.getElem_cons_zero]); go_simp; try (with_reducible rfl))
      simp only [Act.put, List.getElem_toArray, List.getElem_cons_succ, List.getElem_cons_zero, List.setIfInBounds_toArray, List.set_cons_zero, List.set_cons_succ]
      refine wpAnyG_take (v := ?_) 2 (by rfl) (by kernel_rfl) (by kernel_rfl) (by kernel_rfl) (by kernel_rfl) (fun _ _ _ h => h) (Or.inl ⟨by rfl, ?_⟩) (by assumption) ?_
      rotate_left
      · (intro w' hSw; (try dsimp only at hSw); (try simp only [List.getElem_toArray, List.getElem_cons_succ, List.getElem_cons_zero]); go_simp; try (with_reducible rfl))
      simp only [Act.put, List.getElem_toArray, List.getElem_cons_succ, List.getElem_cons_zero, List.setIfInBounds_toArray, List.set_cons_zero, List.set_cons_succ]
      refine wpAnyG_take (v := ?_) 3 (by rfl) (by kernel_rfl) (by kernel_rfl) (by kernel_rfl) (by kernel_rfl) (fun _ _ _ h => h) (Or.inl ⟨by rfl, ?_⟩) (by assumption) ?_
      rotate_left
      · (intro w' hSw; (try dsimp only at hSw); (try simp only [List.getElem_toArray, List.getElem_cons_succ, List.getElem_cons_zero]); go_simp; try (with_reducible rfl))
      simp only [Act.put, List.getElem_toArray, List.getElem_cons_succ, List.getElem_cons_zero, List.setIfInBounds_toArray, List.set_cons_zero, List.set_cons_succ]
      refine wpAnyG_take (v := ?_) 4 (by rfl) (by kernel_rfl) (by kernel_rfl) (by kernel_rfl) (by kernel_rfl) (fun _ _ _ h => h) (Or.inl ⟨by rfl, ?_⟩) (by assumption) ?_
      rotate_left
      · (intro w' hSw; (try dsimp only at hSw); (try simp only [List.getElem_toArray, List.getElem_cons_succ, List.getElem_cons_zero]); go_simp; try (with_reducible rfl))
      simp only [Act.put, List.getElem_toArray, List.getElem_cons_succ, List.getElem_cons_zero, List.setIfInBounds_toArray, List.set_cons_zero, List.set_cons_succ]
      refine wpAnyG_ready [5] (by kernel_rfl) (by simp) ?_
      refine AllReadyG.cons 5 (by rfl) (fun K hK => ?_) ?_
      · simp only [List.getElem_toArray, List.getElem_cons_succ, List.getElem_cons_zero]
        go_simp
        go_at_call 11
        refine (unhide HWa _).mono ?_
        rintro e w9 ⟨rfl, h9⟩
        have h9' := h9.symm
        clear h9
        subst h9'
        refine hK.out _ _ hS0 (fun _ => ?_)
        clear hK K
        try simp only [Act.put, List.setIfInBounds_toArray, List.set_cons_zero, List.set_cons_succ]
        refine wpAnyG_take (v := ?_) 6 (by rfl) (by kernel_rfl) (by kernel_rfl) (by kernel_rfl) (by kernel_rfl) (fun _ _ _ h => h) (Or.inl ⟨by rfl, ?_⟩) (by assumption) ?_
        rotate_left
        · (intro w' hSw; (try dsimp only at hSw); (try simp only [List.getElem_toArray, List.getElem_cons_succ, List.getElem_cons_zero]); go_simp; try (with_reducible rfl))
        simp only [Act.put, List.getElem_toArray, List.getElem_cons_succ, List.getElem_cons_zero, List.setIfInBounds_toArray, List.set_cons_zero, List.set_cons_succ]
        refine wpAnyG_take (v := ?_) 7 (by rfl) (by kernel_rfl) (by kernel_rfl) (by kernel_rfl) (by kernel_rfl) (fun _ _ _ h => h) (Or.inl ⟨by rfl, ?_⟩) (by assumption) ?_
        rotate_left
        · (intro w' hSw; (try dsimp only at hSw); (try simp only [List.getElem_toArray, List.getElem_cons_succ, List.getElem_cons_zero]); go_simp; try (with_reducible rfl))
        simp only [Act.put, List.getElem_toArray, List.getElem_cons_succ, List.getElem_cons_zero, List.setIfInBounds_toArray, List.set_cons_zero, List.set_cons_succ]
        refine wpAnyG_ready [8] (by kernel_rfl) (by simp) ?_
        refine AllReadyG.last 8 (by rfl) (by kernel_rfl) (fun K hK => ?_) ?_
        · simp only [List.getElem_toArray, List.getElem_cons_succ, List.getElem_cons_zero]
          go_simp
          refine hK.out _ _ ?_
          clear hK K
          try simp only [Act.put, List.setIfInBounds_toArray, List.set_cons_zero, List.set_cons_succ]
          refine wpAnyG_done (by kernel_rfl) ?_ _
          refine NoPanic.normal ?_
          have HC' : Hid (ChkAt w w3.heap.size (wq.setCell ⟨w3.heap.size, 1, none⟩ (.slice ta j tc)) _ _ _ _) := hide (unhide HN)
          obtain ⟨qE, tE, nE, cE, HC⟩ : ∃ qE tE nE cE, Hid (ChkAt w w3.heap.size (wq.setCell ⟨w3.heap.size, 1, none⟩ (.slice ta j tc)) qE tE nE cE) := ⟨_, _, _, _, HC'⟩
          clear HC'
          generalize wq.setCell ⟨w3.heap.size, 1, none⟩ (.slice ta j tc) = wP at *
          have HS : Hid (∀ w', Below wP.heap.size wP w' → w'.cell? ⟨w3.heap.size, 0, none⟩ = some (.int .i64 qE.n) ∧ w'.cell? ⟨w3.heap.size, 1, none⟩ = some tE ∧ w'.cell? ⟨w3.heap.size, 2, none⟩ = some nE ∧ w'.cell? ⟨w3.heap.size, 3, none⟩ = some cE) := hide fun w' hb => by
            obtain ⟨e0, e1, e2, e3, -, -, -, -⟩ := obj_cells ((hb.block _ (heap_lt (unhide HC).ob)).trans (unhide HC).ob)
            exact ⟨e0, e1, e2, e3⟩
          have HK1 := hide (fun w' (hb : Below wP.heap.size wP w') => check_any qE _ _ _ _ w' ((unhide HC).ni.below hb) (unhide HC).lo (unhide HC).hi)
          have HK2 := hide (fun w' (hb : Below wP.heap.size wP w') => check2_any qE _ _ _ _ w' ((unhide HC).ni.below hb) (unhide HC).lo (unhide HC).hi)
          have HF : Hid (∀ w', Below wP.heap.size wP w' → Below w.heap.size w w') := hide fun w' hb => (unhide HC).bl.trans (hb.mono (unhide HC).bl.size)
          clear HC
          generalize Sp.checkI qE = ck at *
          have hck : (ck == ck) = true := beq_self_eq_true _
          go_upto_region 32 with fail
          have hb0 : Below wP.heap.size wP wP.drew := (Below.refl _ _).drew
          refine wp_region_G (fun w' => w'.cell? ⟨w3.heap.size, 0, none⟩ = some (.int .i64 qE.n) ∧ w'.cell? ⟨w3.heap.size, 1, none⟩ = some tE ∧ w'.cell? ⟨w3.heap.size, 2, none⟩ = some nE ∧ w'.cell? ⟨w3.heap.size, 3, none⟩ = some cE) (fun _ => false) (by kernel_rfl) (unhide HS _ hb0) (fun hHeld => ?_)
          generalize wP.drew = wq at *
          refine wpAnyG_take (v := ?_) 0 (by rfl) (by kernel_rfl) (by kernel_rfl) (by kernel_rfl) (by kernel_rfl) (fun _ _ _ h => h) (Or.inl ⟨by rfl, ?_⟩) (by assumption) ?_
          rotate_left
          · (intro w' hSw; (try dsimp only at hSw); (try simp only [List.getElem_toArray, List.getElem_cons_zero]); go_simp; try (with_reducible rfl))
          simp only [Act.put, List.getElem_toArray, List.getElem_cons_zero, List.setIfInBounds_toArray, List.set_cons_zero, List.set_cons_succ]
          refine wpAnyG_take (v := ?_) 2 (by rfl) (by kernel_rfl) (by kernel_rfl) (by kernel_rfl) (by kernel_rfl) (fun _ _ _ h => h) (Or.inl ⟨by rfl, ?_⟩) (by assumption) ?_
          rotate_left
          · (intro w' hSw; (try dsimp only at hSw); (try simp only [List.getElem_toArray, List.getElem_cons_succ, List.getElem_cons_zero]); go_simp; try (with_reducible rfl))
          simp only [Act.put, List.getElem_toArray, List.getElem_cons_succ, List.getElem_cons_zero, List.setIfInBounds_toArray, List.set_cons_zero, List.set_cons_succ]
          refine wpAnyG_ready [1] (by kernel_rfl) (by simp) ?_
          refine AllReadyG.cons 1 (by rfl) (fun K hK => ?_) ?_
          · simp only [List.getElem_toArray, List.getElem_cons_succ, List.getElem_cons_zero]
            go_simp
            go_at_call 12
            refine (unhide HK1 _ hb0).mono ?_
            rintro e wA ⟨rfl, hl1⟩
            have hb1 := hb0.trans (hl1.mono hb0.size)
            refine hK.out _ _ (unhide HS _ hb1) (fun _ => ?_)
            clear hK K
            try simp only [Act.put, List.setIfInBounds_toArray, List.set_cons_zero, List.set_cons_succ]
            refine wpAnyG_ready [3] (by kernel_rfl) (by simp) ?_
            refine AllReadyG.cons 3 (by rfl) (fun K hK => ?_) ?_
            · simp only [List.getElem_toArray, List.getElem_cons_succ, List.getElem_cons_zero]
              go_simp
              go_at_call 13
              refine (unhide HK2 _ hb1).mono ?_
              rintro e wB ⟨rfl, hl2⟩
              have hb2 := hb1.trans (hl2.mono hb1.size)
              refine hK.out _ _ (unhide HS _ hb2) (fun _ => ?_)
              clear hK K
              try simp only [Act.put, List.setIfInBounds_toArray, List.set_cons_zero, List.set_cons_succ]
              refine wpAnyG_take (v := ?_) 4 (by rfl) (by kernel_rfl) (by kernel_rfl) (by kernel_rfl) (by kernel_rfl) (fun _ _ _ h => h) (Or.inl ⟨by rfl, ?_⟩) (by assumption) ?_
              rotate_left
              · (intro w' hSw; (try dsimp only at hSw); (try simp only [List.getElem_toArray, List.getElem_cons_succ, List.getElem_cons_zero]); go_simp; try (with_reducible rfl))
              simp only [Act.put, List.getElem_toArray, List.getElem_cons_succ, List.getElem_cons_zero, List.setIfInBounds_toArray, List.set_cons_zero, List.set_cons_succ]
              refine wpAnyG_take (v := ?_) 5 (by rfl) (by kernel_rfl) (by kernel_rfl) (by kernel_rfl) (by kernel_rfl) (fun _ _ _ h => h) (Or.inl ⟨by rfl, ?_⟩) (by assumption) ?_
              rotate_left
              · (intro w' hSw; (try dsimp only at hSw); (try simp only [List.getElem_toArray, List.getElem_cons_succ, List.getElem_cons_zero]); go_simp; try (with_reducible rfl))
              simp only [Act.put, List.getElem_toArray, List.getElem_cons_succ, List.getElem_cons_zero, List.setIfInBounds_toArray, List.set_cons_zero, List.set_cons_succ]
              refine wpAnyG_done (by kernel_rfl) ?_ _
              refine NoPanic.normal ?_
              go_wp2
              rw [unhide HP]
              exact ⟨by rfl, unhide HF _ hb2⟩
            exact AllReadyG.nil
          exact AllReadyG.nil
        exact AllReadyG.nil
      exact AllReadyG.nil
    · go_upto_region 27 with fail
      obtain ⟨x0, x1, x2, x3, f0, f1, f2, f3⟩ := obj_cells (unhide HC0).ob
      go_upto_region 32 with fail
      clear x0 x1 x2 x3 f0 f1 f2 f3
      have HC' : Hid (ChkAt w w3.heap.size (W4.setCell ⟨w3.heap.size, 2, none⟩ (.slice a2 rl c2)) _ _ _ _) := hide (unhide HRaw)
      obtain ⟨qE, tE, nE, cE, HC⟩ : ∃ qE tE nE cE, Hid (ChkAt w w3.heap.size (W4.setCell ⟨w3.heap.size, 2, none⟩ (.slice a2 rl c2)) qE tE nE cE) := ⟨_, _, _, _, HC'⟩
      clear HC'
      generalize W4.setCell ⟨w3.heap.size, 2, none⟩ (.slice a2 rl c2) = wP at *
      have HS : Hid (∀ w', Below wP.heap.size wP w' → w'.cell? ⟨w3.heap.size, 0, none⟩ = some (.int .i64 qE.n) ∧ w'.cell? ⟨w3.heap.size, 1, none⟩ = some tE ∧ w'.cell? ⟨w3.heap.size, 2, none⟩ = some nE ∧ w'.cell? ⟨w3.heap.size, 3, none⟩ = some cE) := hide fun w' hb => by
        obtain ⟨e0, e1, e2, e3, -, -, -, -⟩ := obj_cells ((hb.block _ (heap_lt (unhide HC).ob)).trans (unhide HC).ob)
        exact ⟨e0, e1, e2, e3⟩
      have HK1 := hide (fun w' (hb : Below wP.heap.size wP w') => check_any qE _ _ _ _ w' ((unhide HC).ni.below hb) (unhide HC).lo (unhide HC).hi)
      have HK2 := hide (fun w' (hb : Below wP.heap.size wP w') => check2_any qE _ _ _ _ w' ((unhide HC).ni.below hb) (unhide HC).lo (unhide HC).hi)
      have HF : Hid (∀ w', Below wP.heap.size wP w' → Below w.heap.size w w') := hide fun w' hb => (unhide HC).bl.trans (hb.mono (unhide HC).bl.size)
      clear HC
      generalize Sp.checkI qE = ck at *
      have hck : (ck == ck) = true := beq_self_eq_true _
      go_upto_region 32 with fail
      have hb0 : Below wP.heap.size wP wP.drew := (Below.refl _ _).drew
      refine wp_region_G (fun w' => w'.cell? ⟨w3.heap.size, 0, none⟩ = some (.int .i64 qE.n) ∧ w'.cell? ⟨w3.heap.size, 1, none⟩ = some tE ∧ w'.cell? ⟨w3.heap.size, 2, none⟩ = some nE ∧ w'.cell? ⟨w3.heap.size, 3, none⟩ = some cE) (fun _ => false) (by kernel_rfl) (unhide HS _ hb0) (fun hHeld => ?_)
      generalize wP.drew = wq at *
      refine wpAnyG_take (v := ?_) 0 (by rfl) (by kernel_rfl) (by kernel_rfl) (by kernel_rfl) (by kernel_rfl) (fun _ _ _ h => h) (Or.inl ⟨by rfl, ?_⟩) (by assumption) ?_
      rotate_left
      · (intro w' hSw; (try dsimp only at hSw); (try simp only [List.getElem_toArray, List.getElem_cons_zero]); go_simp; try (with_reducible rfl))
      simp only [Act.put, List.getElem_toArray, List.getElem_cons_zero, List.setIfInBounds_toArray, List.set_cons_zero, List.set_cons_succ]
      refine wpAnyG_take (v := ?_) 2 (by rfl) (by kernel_rfl) (by kernel_rfl) (by kernel_rfl) (by kernel_rfl) (fun _ _ _ h => h) (Or.inl ⟨by rfl, ?_⟩) (by assumption) ?_
      rotate_left
      · (intro w' hSw; (try dsimp only at hSw); (try simp only [List.getElem_toArray, List.getElem_cons_succ, List.getElem_cons_zero]); go_simp; try (with_reducible rfl))
      simp only [Act.put, List.getElem_toArray, List.getElem_cons_succ, List.getElem_cons_zero, List.setIfInBounds_toArray, List.set_cons_zero, List.set_cons_succ]
      refine wpAnyG_ready [1] (by kernel_rfl) (by simp) ?_
      refine AllReadyG.cons 1 (by rfl) (fun K hK => ?_) ?_
      · simp only [List.getElem_toArray, List.getElem_cons_succ, List.getElem_cons_zero]
        go_simp
        go_at_call 12
        refine (unhide HK1 _ hb0).mono ?_
        rintro e wA ⟨rfl, hl1⟩
        have hb1 := hb0.trans (hl1.mono hb0.size)
        refine hK.out _ _ (unhide HS _ hb1) (fun _ => ?_)
        clear hK K
        try simp only [Act.put, List.setIfInBounds_toArray, List.set_cons_zero, List.set_cons_succ]
        refine wpAnyG_ready [3] (by kernel_rfl) (by simp) ?_
        refine AllReadyG.cons 3 (by rfl) (fun K hK => ?_) ?_
        · simp only [List.getElem_toArray, List.getElem_cons_succ, List.getElem_cons_zero]
          go_simp
          go_at_call 13
          refine (unhide HK2 _ hb1).mono ?_
          rintro e wB ⟨rfl, hl2⟩
          have hb2 := hb1.trans (hl2.mono hb1.size)
          refine hK.out _ _ (unhide HS _ hb2) (fun _ => ?_)
          clear hK K
          try simp only [Act.put, List.setIfInBounds_toArray, List.set_cons_zero, List.set_cons_succ]
          refine wpAnyG_take (v := ?_) 4 (by rfl) (by kernel_rfl) (by kernel_rfl) (by kernel_rfl) (by kernel_rfl) (fun _ _ _ h => h) (Or.inl ⟨by rfl, ?_⟩) (by assumption) ?_
          rotate_left
          · (intro w' hSw; (try dsimp only at hSw); (try simp only [List.getElem_toArray, List.getElem_cons_succ, List.getElem_cons_zero]); go_simp; try (with_reducible rfl))
          simp only [Act.put, List.getElem_toArray, List.getElem_cons_succ, List.getElem_cons_zero, List.setIfInBounds_toArray, List.set_cons_zero, List.set_cons_succ]
          refine wpAnyG_take (v := ?_) 5 (by rfl) (by kernel_rfl) (by kernel_rfl) (by kernel_rfl) (by kernel_rfl) (fun _ _ _ h => h) (Or.inl ⟨by rfl, ?_⟩) (by assumption) ?_
          rotate_left
          · (intro w' hSw; (try dsimp only at hSw); (try simp only [List.getElem_toArray, List.getElem_cons_succ, List.getElem_cons_zero]); go_simp; try (with_reducible rfl))
          simp only [Act.put, List.getElem_toArray, List.getElem_cons_succ, List.getElem_cons_zero, List.setIfInBounds_toArray, List.set_cons_zero, List.set_cons_succ]
          refine wpAnyG_done (by kernel_rfl) ?_ _
          refine NoPanic.normal ?_
          go_wp2
          rw [unhide HP]
          exact ⟨by rfl, unhide HF _ hb2⟩
        exact AllReadyG.nil
      exact AllReadyG.nil
    · by_cases hz : ln = 0
      · obtain ⟨qE, tE, nE, cE, HC⟩ : ∃ qE tE nE cE, Hid (ChkAt w w3.heap.size W4 qE tE nE cE) := ⟨_, _, _, _, hide (unhide HC0)⟩
        have hz0 : ¬ (0 : Int) < (ln : Int) := by omega
        have hz1 : ¬ 0 < ln := by omega
        have hz2 : decide (0 < ln) = false := decide_eq_false hz1
        clear hz
        have HS : Hid (∀ w', Below W4.heap.size W4 w' → w'.cell? ⟨w3.heap.size, 0, none⟩ = some (.int .i64 qE.n) ∧ w'.cell? ⟨w3.heap.size, 1, none⟩ = some tE ∧ w'.cell? ⟨w3.heap.size, 2, none⟩ = some nE ∧ w'.cell? ⟨w3.heap.size, 3, none⟩ = some cE) := hide fun w' hb => by
          obtain ⟨e0, e1, e2, e3, -, -, -, -⟩ := obj_cells ((hb.block _ (heap_lt (unhide HC).ob)).trans (unhide HC).ob)
          exact ⟨e0, e1, e2, e3⟩
        have HK1 := hide (fun w' (hb : Below W4.heap.size W4 w') => check_any qE _ _ _ _ w' ((unhide HC).ni.below hb) (unhide HC).lo (unhide HC).hi)
        have HK2 := hide (fun w' (hb : Below W4.heap.size W4 w') => check2_any qE _ _ _ _ w' ((unhide HC).ni.below hb) (unhide HC).lo (unhide HC).hi)
        have HF : Hid (∀ w', Below W4.heap.size W4 w' → Below w.heap.size w w') := hide fun w' hb => (unhide HC).bl.trans (hb.mono (unhide HC).bl.size)
        clear HC
        generalize Sp.checkI qE = ck at *
        have hck : (ck == ck) = true := beq_self_eq_true _
        go_upto_region 32 with fail
        have hb0 : Below W4.heap.size W4 W4.drew := (Below.refl _ _).drew
        refine wp_region_G (fun w' => w'.cell? ⟨w3.heap.size, 0, none⟩ = some (.int .i64 qE.n) ∧ w'.cell? ⟨w3.heap.size, 1, none⟩ = some tE ∧ w'.cell? ⟨w3.heap.size, 2, none⟩ = some nE ∧ w'.cell? ⟨w3.heap.size, 3, none⟩ = some cE) (fun _ => false) (by kernel_rfl) (unhide HS _ hb0) (fun hHeld => ?_)
        generalize W4.drew = wq at *
        refine wpAnyG_take (v := ?_) 0 (by rfl) (by kernel_rfl) (by kernel_rfl) (by kernel_rfl) (by kernel_rfl) (fun _ _ _ h => h) (Or.inl ⟨by rfl, ?_⟩) (by assumption) ?_
        rotate_left
        · (intro w' hSw; (try dsimp only at hSw); (try simp only [List.getElem_toArray, List.getElem_cons_zero]); go_simp; try (with_reducible rfl))
        simp only [Act.put, List.getElem_toArray, List.getElem_cons_zero, List.setIfInBounds_toArray, List.set_cons_zero, List.set_cons_succ]
        refine wpAnyG_take (v := ?_) 2 (by rfl) (by kernel_rfl) (by kernel_rfl) (by kernel_rfl) (by kernel_rfl) (fun _ _ _ h => h) (Or.inl ⟨by rfl, ?_⟩) (by assumption) ?_
        rotate_left
        · (intro w' hSw; (try dsimp only at hSw); (try simp only [List.getElem_toArray, List.getElem_cons_succ, List.getElem_cons_zero]); go_simp; try (with_reducible rfl))
        simp only [Act.put, List.getElem_toArray, List.getElem_cons_succ, List.getElem_cons_zero, List.setIfInBounds_toArray, List.set_cons_zero, List.set_cons_succ]
        refine wpAnyG_ready [1] (by kernel_rfl) (by simp) ?_
        refine AllReadyG.cons 1 (by rfl) (fun K hK => ?_) ?_
        · simp only [List.getElem_toArray, List.getElem_cons_succ, List.getElem_cons_zero]
          go_simp
          go_at_call 12
          refine (unhide HK1 _ hb0).mono ?_
          rintro e wA ⟨rfl, hl1⟩
          have hb1 := hb0.trans (hl1.mono hb0.size)
          refine hK.out _ _ (unhide HS _ hb1) (fun _ => ?_)
          clear hK K
          try simp only [Act.put, List.setIfInBounds_toArray, List.set_cons_zero, List.set_cons_succ]
          refine wpAnyG_ready [3] (by kernel_rfl) (by simp) ?_
          refine AllReadyG.cons 3 (by rfl) (fun K hK => ?_) ?_
          · simp only [List.getElem_toArray, List.getElem_cons_succ, List.getElem_cons_zero]
            go_simp
            go_at_call 13
            refine (unhide HK2 _ hb1).mono ?_
            rintro e wB ⟨rfl, hl2⟩
            have hb2 := hb1.trans (hl2.mono hb1.size)
            refine hK.out _ _ (unhide HS _ hb2) (fun _ => ?_)
            clear hK K
            try simp only [Act.put, List.setIfInBounds_toArray, List.set_cons_zero, List.set_cons_succ]
            refine wpAnyG_take (v := ?_) 4 (by rfl) (by kernel_rfl) (by kernel_rfl) (by kernel_rfl) (by kernel_rfl) (fun _ _ _ h => h) (Or.inl ⟨by rfl, ?_⟩) (by assumption) ?_
            rotate_left
            · (intro w' hSw; (try dsimp only at hSw); (try simp only [List.getElem_toArray, List.getElem_cons_succ, List.getElem_cons_zero]); go_simp; try (with_reducible rfl))
            simp only [Act.put, List.getElem_toArray, List.getElem_cons_succ, List.getElem_cons_zero, List.setIfInBounds_toArray, List.set_cons_zero, List.set_cons_succ]
            refine wpAnyG_take (v := ?_) 5 (by rfl) (by kernel_rfl) (by kernel_rfl) (by kernel_rfl) (by kernel_rfl) (fun _ _ _ h => h) (Or.inl ⟨by rfl, ?_⟩) (by assumption) ?_
            rotate_left
            · (intro w' hSw; (try dsimp only at hSw); (try simp only [List.getElem_toArray, List.getElem_cons_succ, List.getElem_cons_zero]); go_simp; try (with_reducible rfl))
            simp only [Act.put, List.getElem_toArray, List.getElem_cons_succ, List.getElem_cons_zero, List.setIfInBounds_toArray, List.set_cons_zero, List.set_cons_succ]
            refine wpAnyG_done (by kernel_rfl) ?_ _
            refine NoPanic.normal ?_
            go_wp2
            rw [unhide HP]
            exact ⟨by rfl, unhide HF _ hb2⟩
          exact AllReadyG.nil
        exact AllReadyG.nil
      · have hz0 : (0 : Int) < (ln : Int) := by omega
        have hz1 : 0 < ln := by omega
        obtain ⟨g1, g2, g3, rfl, rfl, rfl, HgB, HTs, HNs, HCs, HSw⟩ := unhide HLs hz1
        have HWa := hide (fun w' => within2_any at_ ln w' (by omega) (by omega))
        have HWv := hide (fun w' => within2_any v ln w' (by omega) (by omega))
        have a0 := Int.emod_nonneg at_ (b := (ln : Int)) (by omega)
        have a1 : at_ % (ln : Int) < ln := Int.emod_lt_of_pos _ (by omega)
        have v0 := Int.emod_nonneg v (b := (ln : Int)) (by omega)
        have v1 : v % (ln : Int) < ln := Int.emod_lt_of_pos _ (by omega)
        obtain ⟨i, hi⟩ : ∃ j : Nat, at_ % (ln : Int) = (j : Int) := ⟨(at_ % (ln : Int)).toNat, by omega⟩
        obtain ⟨j, hj⟩ : ∃ j : Nat, v % (ln : Int) = (j : Int) := ⟨(v % (ln : Int)).toNat, by omega⟩
        rw [hi] at HWa a1
        rw [hj] at HWv v1
        have hil : i < ln := by omega
        have hjl : j < ln := by omega
        have hiI : (i : Int) < (ln : Int) := by omega
        have hjI : (j : Int) < (ln : Int) := by omega
        clear a0 a1 v0 v1 hi hj
        go_wp2_with fail
        go_at_call 11
        refine (unhide HWa _).mono ?_
        rintro e w9 ⟨rfl, h9⟩
        have h9' := h9.symm
        clear h9
        subst h9'
        go_wp2_with fail
        go_at_call 11
        refine (unhide HWv _).mono ?_
        rintro e w9 ⟨rfl, h9⟩
        have h9' := h9.symm
        clear h9
        subst h9'
        go_upto_region 31 with fail
        obtain ⟨x0, x1, x2, x3, -, -, -, -⟩ := obj_cells (unhide HC0).ob
        have hS0 : W4.drew.cell? ⟨w3.heap.size, 2, none⟩ = some (.slice (some ⟨g2, 0, none⟩) ln nc) := x2
        have HNa := hide (unhide HSw i j hil hjl)
        have HNb := hide (unhide HSw j i hjl hil)
        clear x0 x1 x2 x3
        refine wp_region_G (fun w' => w'.cell? ⟨w3.heap.size, 2, none⟩ = some (.slice (some ⟨g2, 0, none⟩) ln nc)) (fun i => i == 19) (by kernel_rfl) hS0 (fun hHeld => ?_)
        have hbw : Below W4.heap.size W4 W4.drew := (Below.refl _ _).drew
        have hgB : g2 ≠ w3.heap.size := unhide HgB
        generalize W4.drew = wq at *
        obtain ⟨ka, fa', hN⟩ := unhide HNa wq hbw
        obtain ⟨kb, fb, -⟩ := unhide HNb wq hbw
        have HN2 := hide hN
        clear hN HNa HNb
        generalize q.next.getD i 0 = ui at *
        generalize q.next.getD j 0 = uj at *
        refine wpAnyG_take (v := ?_) 0 (by rfl) (by kernel_rfl) (by kernel_rfl) (by kernel_rfl) (by kernel_rfl) (fun _ _ _ h => h) (Or.inl ⟨by rfl, ?_⟩) (by assumption) ?_
        rotate_left
        · (intro w' hSw; (try dsimp only at hSw); (try simp only [List.getElem_toArray, List.getElem_cons_zero]); go_simp; try (with_reducible rfl))
        simp only [Act.put, List.getElem_toArray, List.getElem_cons_zero, List.setIfInBounds_toArray, List.set_cons_zero, List.set_cons_succ]
        refine wpAnyG_take (v := ?_) 1 (by rfl) (by kernel_rfl) (by kernel_rfl) (by kernel_rfl) (by kernel_rfl) (fun _ _ _ h => h) (Or.inl ⟨by rfl, ?_⟩) (by assumption) ?_
        rotate_left
        · (intro w' hSw; (try dsimp only at hSw); (try simp only [List.getElem_toArray, List.getElem_cons_succ, List.getElem_cons_zero]); go_simp; try (with_reducible rfl))
        simp only [Act.put, List.getElem_toArray, List.getElem_cons_succ, List.getElem_cons_zero, List.setIfInBounds_toArray, List.set_cons_zero, List.set_cons_succ]
        refine wpAnyG_take (v := ?_) 2 (by rfl) (by kernel_rfl) (by kernel_rfl) (by kernel_rfl) (by kernel_rfl) (fun _ _ _ h => h) (Or.inl ⟨by rfl, ?_⟩) (by assumption) ?_
        rotate_left
        · (intro w' hSw; (try dsimp only at hSw); (try simp only [List.getElem_toArray, List.getElem_cons_succ, List.getElem_cons_zero]); go_simp; try (with_reducible rfl))
        simp only [Act.put, List.getElem_toArray, List.getElem_cons_succ, List.getElem_cons_zero, List.setIfInBounds_toArray, List.set_cons_zero, List.set_cons_succ]
        refine wpAnyG_take (v := ?_) 3 (by rfl) (by kernel_rfl) (by kernel_rfl) (by kernel_rfl) (by kernel_rfl) (fun _ _ _ h => h) (Or.inl ⟨by rfl, ?_⟩) (by assumption) ?_
        rotate_left
        · (intro w' hSw; (try dsimp only at hSw); (try simp only [List.getElem_toArray, List.getElem_cons_succ, List.getElem_cons_zero]); go_simp; try (with_reducible rfl))
        simp only [Act.put, List.getElem_toArray, List.getElem_cons_succ, List.getElem_cons_zero, List.setIfInBounds_toArray, List.set_cons_zero, List.set_cons_succ]
        refine wpAnyG_take (v := ?_) 4 (by rfl) (by kernel_rfl) (by kernel_rfl) (by kernel_rfl) (by kernel_rfl) (fun _ _ _ h => h) (Or.inl ⟨by rfl, ?_⟩) (by assumption) ?_
        rotate_left
        · (intro w' hSw; (try dsimp only at hSw); (try simp only [List.getElem_toArray, List.getElem_cons_succ, List.getElem_cons_zero]); go_simp; try (with_reducible rfl))
        simp only [Act.put, List.getElem_toArray, List.getElem_cons_succ, List.getElem_cons_zero, List.setIfInBounds_toArray, List.set_cons_zero, List.set_cons_succ]
        refine wpAnyG_take (v := ?_) 5 (by rfl) (by kernel_rfl) (by kernel_rfl) (by kernel_rfl) (by kernel_rfl) (fun _ _ _ h => h) (Or.inl ⟨by rfl, ?_⟩) (by assumption) ?_
        rotate_left
        · (intro w' hSw; (try dsimp only at hSw); (try simp only [List.getElem_toArray, List.getElem_cons_succ, List.getElem_cons_zero]); go_simp; try (with_reducible rfl))
        simp only [Act.put, List.getElem_toArray, List.getElem_cons_succ, List.getElem_cons_zero, List.setIfInBounds_toArray, List.set_cons_zero, List.set_cons_succ]
        refine wpAnyG_take (v := ?_) 6 (by rfl) (by kernel_rfl) (by kernel_rfl) (by kernel_rfl) (by kernel_rfl) (fun _ _ _ h => h) (Or.inl ⟨by rfl, ?_⟩) (by assumption) ?_
        rotate_left
        · (intro w' hSw; (try dsimp only at hSw); (try simp only [List.getElem_toArray, List.getElem_cons_succ, List.getElem_cons_zero]); go_simp; try (with_reducible rfl))
        simp only [Act.put, List.getElem_toArray, List.getElem_cons_succ, List.getElem_cons_zero, List.setIfInBounds_toArray, List.set_cons_zero, List.set_cons_succ]
        refine wpAnyG_take (v := ?_) 7 (by rfl) (by kernel_rfl) (by kernel_rfl) (by kernel_rfl) (by kernel_rfl) (fun _ _ _ h => h) (Or.inl ⟨by rfl, ?_⟩) (by assumption) ?_
        rotate_left
        · (intro w' hSw; (try dsimp only at hSw); (try simp only [List.getElem_toArray, List.getElem_cons_succ, List.getElem_cons_zero]); go_simp; try (with_reducible rfl))
        simp only [Act.put, List.getElem_toArray, List.getElem_cons_succ, List.getElem_cons_zero, List.setIfInBounds_toArray, List.set_cons_zero, List.set_cons_succ]
        refine wpAnyG_take (v := ?_) 8 (by rfl) (by kernel_rfl) (by kernel_rfl) (by kernel_rfl) (by kernel_rfl) (fun _ _ _ h => h) (Or.inl ⟨by rfl, ?_⟩) (by assumption) ?_
        rotate_left
        · (intro w' hSw; (try dsimp only at hSw); (try simp only [List.getElem_toArray, List.getElem_cons_succ, List.getElem_cons_zero]); go_simp; try (with_reducible rfl))
        simp only [Act.put, List.getElem_toArray, List.getElem_cons_succ, List.getElem_cons_zero, List.setIfInBounds_toArray, List.set_cons_zero, List.set_cons_succ]
        refine wpAnyG_take (v := ?_) 9 (by rfl) (by kernel_rfl) (by kernel_rfl) (by kernel_rfl) (by kernel_rfl) (fun _ _ _ h => h) (Or.inl ⟨by rfl, ?_⟩) (by assumption) ?_
        rotate_left
        · (intro w' hSw; (try dsimp only at hSw); (try simp only [List.getElem_toArray, List.getElem_cons_succ, List.getElem_cons_zero]); go_simp; try (with_reducible rfl))
        simp only [Act.put, List.getElem_toArray, List.getElem_cons_succ, List.getElem_cons_zero, List.setIfInBounds_toArray, List.set_cons_zero, List.set_cons_succ]
        refine wpAnyG_take (v := ?_) 11 (by rfl) (by kernel_rfl) (by kernel_rfl) (by kernel_rfl) (by kernel_rfl) (fun _ _ _ h => h) (Or.inl ⟨by rfl, ?_⟩) (by assumption) ?_
        rotate_left
        · (intro w' hSw; (try dsimp only at hSw); (try simp only [List.getElem_toArray, List.getElem_cons_succ, List.getElem_cons_zero]); go_simp; try (with_reducible rfl))
        simp only [Act.put, List.getElem_toArray, List.getElem_cons_succ, List.getElem_cons_zero, List.setIfInBounds_toArray, List.set_cons_zero, List.set_cons_succ]
        refine wpAnyG_take (v := ?_) 12 (by rfl) (by kernel_rfl) (by kernel_rfl) (by kernel_rfl) (by kernel_rfl) (fun _ _ _ h => h) (Or.inl ⟨by rfl, ?_⟩) (by assumption) ?_
        rotate_left
        · (intro w' hSw; (try dsimp only at hSw); (try simp only [List.getElem_toArray, List.getElem_cons_succ, List.getElem_cons_zero]); go_simp; try (with_reducible rfl))
        simp only [Act.put, List.getElem_toArray, List.getElem_cons_succ, List.getElem_cons_zero, List.setIfInBounds_toArray, List.set_cons_zero, List.set_cons_succ]
        refine wpAnyG_take (v := ?_) 13 (by rfl) (by kernel_rfl) (by kernel_rfl) (by kernel_rfl) (by kernel_rfl) (fun _ _ _ h => h) (Or.inl ⟨by rfl, ?_⟩) (by assumption) ?_
        rotate_left
        · (intro w' hSw; (try dsimp only at hSw); (try simp only [List.getElem_toArray, List.getElem_cons_succ, List.getElem_cons_zero]); go_simp; try (with_reducible rfl))
        simp only [Act.put, List.getElem_toArray, List.getElem_cons_succ, List.getElem_cons_zero, List.setIfInBounds_toArray, List.set_cons_zero, List.set_cons_succ]
        refine wpAnyG_take (v := ?_) 14 (by rfl) (by kernel_rfl) (by kernel_rfl) (by kernel_rfl) (by kernel_rfl) (fun _ _ _ h => h) (Or.inl ⟨by rfl, ?_⟩) (by assumption) ?_
        rotate_left
        · (intro w' hSw; (try dsimp only at hSw); (try simp only [List.getElem_toArray, List.getElem_cons_succ, List.getElem_cons_zero]); go_simp; try (with_reducible rfl))
        simp only [Act.put, List.getElem_toArray, List.getElem_cons_succ, List.getElem_cons_zero, List.setIfInBounds_toArray, List.set_cons_zero, List.set_cons_succ]
        refine wpAnyG_ready [10, 15] (by kernel_rfl) (by simp) ?_
        refine AllReadyG.cons 10 (by rfl) (fun K hK => ?_) ?_
        · simp only [List.getElem_toArray, List.getElem_cons_succ, List.getElem_cons_zero]
          go_simp
          refine hK.out _ _ hS0 (fun _ => ?_)
          clear hK K
          try simp only [Act.put, List.setIfInBounds_toArray, List.set_cons_zero, List.set_cons_succ]
          refine wpAnyG_ready [15] (by kernel_rfl) (by simp) ?_
          refine AllReadyG.cons 15 (by rfl) (fun K hK => ?_) ?_
          · simp only [List.getElem_toArray, List.getElem_cons_succ, List.getElem_cons_zero]
            go_simp
            refine hK.out _ _ hS0 (fun _ => ?_)
            clear hK K
            try simp only [Act.put, List.setIfInBounds_toArray, List.set_cons_zero, List.set_cons_succ]
            refine wpAnyG_take (v := ?_) 16 (by rfl) (by kernel_rfl) (by kernel_rfl) (by kernel_rfl) (by kernel_rfl) (fun _ _ _ h => h) (Or.inl ⟨by rfl, ?_⟩) (by assumption) ?_
            rotate_left
            · (intro w' hSw; (try dsimp only at hSw); (try simp only [List.getElem_toArray, List.getElem_cons_succ, List.getElem_cons_zero]); go_simp; try (with_reducible rfl))
            simp only [Act.put, List.getElem_toArray, List.getElem_cons_succ, List.getElem_cons_zero, List.setIfInBounds_toArray, List.set_cons_zero, List.set_cons_succ]
            refine wpAnyG_ready [17] (by kernel_rfl) (by simp) ?_
            refine AllReadyG.cons 17 (by rfl) (fun K hK => ?_) ?_
            · simp only [List.getElem_toArray, List.getElem_cons_succ, List.getElem_cons_zero]
              go_simp
              refine hK.out _ _ ((World.cell?_setCell_other _ _ _ _ (fun e => hgB (by injection e))).trans hS0) (fun _ => ?_)
              clear hK K
              try simp only [Act.put, List.setIfInBounds_toArray, List.set_cons_zero, List.set_cons_succ]
              have kb' : ∃ z, (wq.setCell ⟨g2, i, none⟩ (.int .i64 uj)).cell? ⟨g2, j, none⟩ = some z := cell?_setCell_some kb
              obtain ⟨zb, kb2⟩ := kb'
              have fb2 : (wq.setCell ⟨g2, i, none⟩ (.int .i64 uj)).frozen? ⟨g2, j, none⟩ = false := by simpa using fb
              refine wpAnyG_take (v := ?_) 18 (by rfl) (by kernel_rfl) (by kernel_rfl) (by kernel_rfl) (by kernel_rfl) (fun _ _ _ h => h) (Or.inl ⟨by rfl, ?_⟩) (by assumption) ?_
              rotate_left
              · (intro w' hSw; (try dsimp only at hSw); (try simp only [List.getElem_toArray, List.getElem_cons_succ, List.getElem_cons_zero]); go_simp; try (with_reducible rfl))
              simp only [Act.put, List.getElem_toArray, List.getElem_cons_succ, List.getElem_cons_zero, List.setIfInBounds_toArray, List.set_cons_zero, List.set_cons_succ]
              refine wpAnyG_ready [19] (by kernel_rfl) (by simp) ?_
              refine AllReadyG.last 19 (by rfl) (by kernel_rfl) (fun K hK => ?_) ?_
              · simp only [List.getElem_toArray, List.getElem_cons_succ, List.getElem_cons_zero]
                go_simp
                refine hK.out _ _ ?_
                clear hK K
                try simp only [Act.put, List.setIfInBounds_toArray, List.set_cons_zero, List.set_cons_succ]
                refine wpAnyG_done (by kernel_rfl) ?_ _
                refine NoPanic.normal ?_
                have HC' : Hid (ChkAt w w3.heap.size ((wq.setCell ⟨g2, i, none⟩ (.int .i64 uj)).setCell ⟨g2, j, none⟩ (.int .i64 ui)) _ _ _ _) := hide (unhide HN2 _ _)
                obtain ⟨qE, tE, nE, cE, HC⟩ : ∃ qE tE nE cE, Hid (ChkAt w w3.heap.size ((wq.setCell ⟨g2, i, none⟩ (.int .i64 uj)).setCell ⟨g2, j, none⟩ (.int .i64 ui)) qE tE nE cE) := ⟨_, _, _, _, HC'⟩
                clear HC'
                generalize (wq.setCell ⟨g2, i, none⟩ (.int .i64 uj)).setCell ⟨g2, j, none⟩ (.int .i64 ui) = wP at *
                have HS : Hid (∀ w', Below wP.heap.size wP w' → w'.cell? ⟨w3.heap.size, 0, none⟩ = some (.int .i64 qE.n) ∧ w'.cell? ⟨w3.heap.size, 1, none⟩ = some tE ∧ w'.cell? ⟨w3.heap.size, 2, none⟩ = some nE ∧ w'.cell? ⟨w3.heap.size, 3, none⟩ = some cE) := hide fun w' hb => by
                  obtain ⟨e0, e1, e2, e3, -, -, -, -⟩ := obj_cells ((hb.block _ (heap_lt (unhide HC).ob)).trans (unhide HC).ob)
                  exact ⟨e0, e1, e2, e3⟩
                have HK1 := hide (fun w' (hb : Below wP.heap.size wP w') => check_any qE _ _ _ _ w' ((unhide HC).ni.below hb) (unhide HC).lo (unhide HC).hi)
                have HK2 := hide (fun w' (hb : Below wP.heap.size wP w') => check2_any qE _ _ _ _ w' ((unhide HC).ni.below hb) (unhide HC).lo (unhide HC).hi)
                have HF : Hid (∀ w', Below wP.heap.size wP w' → Below w.heap.size w w') := hide fun w' hb => (unhide HC).bl.trans (hb.mono (unhide HC).bl.size)
                clear HC
                generalize Sp.checkI qE = ck at *
                have hck : (ck == ck) = true := beq_self_eq_true _
                go_upto_region 32 with fail
                have hb0 : Below wP.heap.size wP wP.drew := (Below.refl _ _).drew
                refine wp_region_G (fun w' => w'.cell? ⟨w3.heap.size, 0, none⟩ = some (.int .i64 qE.n) ∧ w'.cell? ⟨w3.heap.size, 1, none⟩ = some tE ∧ w'.cell? ⟨w3.heap.size, 2, none⟩ = some nE ∧ w'.cell? ⟨w3.heap.size, 3, none⟩ = some cE) (fun _ => false) (by kernel_rfl) (unhide HS _ hb0) (fun hHeld => ?_)
                generalize wP.drew = wq at *
                refine wpAnyG_take (v := ?_) 0 (by rfl) (by kernel_rfl) (by kernel_rfl) (by kernel_rfl) (by kernel_rfl) (fun _ _ _ h => h) (Or.inl ⟨by rfl, ?_⟩) (by assumption) ?_
                rotate_left
                · (intro w' hSw; (try dsimp only at hSw); (try simp only [List.getElem_toArray, List.getElem_cons_zero]); go_simp; try (with_reducible rfl))
                simp only [Act.put, List.getElem_toArray, List.getElem_cons_zero, List.setIfInBounds_toArray, List.set_cons_zero, List.set_cons_succ]
                refine wpAnyG_take (v := ?_) 2 (by rfl) (by kernel_rfl) (by kernel_rfl) (by kernel_rfl) (by kernel_rfl) (fun _ _ _ h => h) (Or.inl ⟨by rfl, ?_⟩) (by assumption) ?_
                rotate_left
                · (intro w' hSw; (try dsimp only at hSw); (try simp only [List.getElem_toArray, List.getElem_cons_succ, List.getElem_cons_zero]); go_simp; try (with_reducible rfl))
                simp only [Act.put, List.getElem_toArray, List.getElem_cons_succ, List.getElem_cons_zero, List.setIfInBounds_toArray, List.set_cons_zero, List.set_cons_succ]
                refine wpAnyG_ready [1] (by kernel_rfl) (by simp) ?_
                refine AllReadyG.cons 1 (by rfl) (fun K hK => ?_) ?_
                · simp only [List.getElem_toArray, List.getElem_cons_succ, List.getElem_cons_zero]
                  go_simp
                  go_at_call 12
                  refine (unhide HK1 _ hb0).mono ?_
                  rintro e wA ⟨rfl, hl1⟩
                  have hb1 := hb0.trans (hl1.mono hb0.size)
                  refine hK.out _ _ (unhide HS _ hb1) (fun _ => ?_)
                  clear hK K
                  try simp only [Act.put, List.setIfInBounds_toArray, List.set_cons_zero, List.set_cons_succ]
                  refine wpAnyG_ready [3] (by kernel_rfl) (by simp) ?_
                  refine AllReadyG.cons 3 (by rfl) (fun K hK => ?_) ?_
                  · simp only [List.getElem_toArray, List.getElem_cons_succ, List.getElem_cons_zero]
                    go_simp
                    go_at_call 13
                    refine (unhide HK2 _ hb1).mono ?_
                    rintro e wB ⟨rfl, hl2⟩
                    have hb2 := hb1.trans (hl2.mono hb1.size)
                    refine hK.out _ _ (unhide HS _ hb2) (fun _ => ?_)
                    clear hK K
                    try simp only [Act.put, List.setIfInBounds_toArray, List.set_cons_zero, List.set_cons_succ]
                    refine wpAnyG_take (v := ?_) 4 (by rfl) (by kernel_rfl) (by kernel_rfl) (by kernel_rfl) (by kernel_rfl) (fun _ _ _ h => h) (Or.inl ⟨by rfl, ?_⟩) (by assumption) ?_
                    rotate_left
                    · (intro w' hSw; (try dsimp only at hSw); (try simp only [List.getElem_toArray, List.getElem_cons_succ, List.getElem_cons_zero]); go_simp; try (with_reducible rfl))
                    simp only [Act.put, List.getElem_toArray, List.getElem_cons_succ, List.getElem_cons_zero, List.setIfInBounds_toArray, List.set_cons_zero, List.set_cons_succ]
                    refine wpAnyG_take (v := ?_) 5 (by rfl) (by kernel_rfl) (by kernel_rfl) (by kernel_rfl) (by kernel_rfl) (fun _ _ _ h => h) (Or.inl ⟨by rfl, ?_⟩) (by assumption) ?_
                    rotate_left
                    · (intro w' hSw; (try dsimp only at hSw); (try simp only [List.getElem_toArray, List.getElem_cons_succ, List.getElem_cons_zero]); go_simp; try (with_reducible rfl))
                    simp only [Act.put, List.getElem_toArray, List.getElem_cons_succ, List.getElem_cons_zero, List.setIfInBounds_toArray, List.set_cons_zero, List.set_cons_succ]
                    refine wpAnyG_done (by kernel_rfl) ?_ _
                    refine NoPanic.normal ?_
                    go_wp2
                    rw [unhide HP]
                    exact ⟨by rfl, unhide HF _ hb2⟩
                  exact AllReadyG.nil
                exact AllReadyG.nil
              exact AllReadyG.nil
            exact AllReadyG.nil
          exact AllReadyG.nil
        refine AllReadyG.cons 15 (by rfl) (fun K hK => ?_) ?_
        · simp only [List.getElem_toArray, List.getElem_cons_succ, List.getElem_cons_zero]
          go_simp
          refine hK.out _ _ hS0 (fun _ => ?_)
          clear hK K
          try simp only [Act.put, List.setIfInBounds_toArray, List.set_cons_zero, List.set_cons_succ]
          refine wpAnyG_ready [10] (by kernel_rfl) (by simp) ?_
          refine AllReadyG.cons 10 (by rfl) (fun K hK => ?_) ?_
          · simp only [List.getElem_toArray, List.getElem_cons_succ, List.getElem_cons_zero]
            go_simp
            refine hK.out _ _ hS0 (fun _ => ?_)
            clear hK K
            try simp only [Act.put, List.setIfInBounds_toArray, List.set_cons_zero, List.set_cons_succ]
            refine wpAnyG_take (v := ?_) 16 (by rfl) (by kernel_rfl) (by kernel_rfl) (by kernel_rfl) (by kernel_rfl) (fun _ _ _ h => h) (Or.inl ⟨by rfl, ?_⟩) (by assumption) ?_
            rotate_left
            · (intro w' hSw; (try dsimp only at hSw); (try simp only [List.getElem_toArray, List.getElem_cons_succ, List.getElem_cons_zero]); go_simp; try (with_reducible rfl))
            simp only [Act.put, List.getElem_toArray, List.getElem_cons_succ, List.getElem_cons_zero, List.setIfInBounds_toArray, List.set_cons_zero, List.set_cons_succ]
            refine wpAnyG_ready [17] (by kernel_rfl) (by simp) ?_
            refine AllReadyG.cons 17 (by rfl) (fun K hK => ?_) ?_
            · simp only [List.getElem_toArray, List.getElem_cons_succ, List.getElem_cons_zero]
              go_simp
              refine hK.out _ _ ((World.cell?_setCell_other _ _ _ _ (fun e => hgB (by injection e))).trans hS0) (fun _ => ?_)
              clear hK K
              try simp only [Act.put, List.setIfInBounds_toArray, List.set_cons_zero, List.set_cons_succ]
              have kb' : ∃ z, (wq.setCell ⟨g2, i, none⟩ (.int .i64 uj)).cell? ⟨g2, j, none⟩ = some z := cell?_setCell_some kb
              obtain ⟨zb, kb2⟩ := kb'
              have fb2 : (wq.setCell ⟨g2, i, none⟩ (.int .i64 uj)).frozen? ⟨g2, j, none⟩ = false := by simpa using fb
              refine wpAnyG_take (v := ?_) 18 (by rfl) (by kernel_rfl) (by kernel_rfl) (by kernel_rfl) (by kernel_rfl) (fun _ _ _ h => h) (Or.inl ⟨by rfl, ?_⟩) (by assumption) ?_
              rotate_left
              · (intro w' hSw; (try dsimp only at hSw); (try simp only [List.getElem_toArray, List.getElem_cons_succ, List.getElem_cons_zero]); go_simp; try (with_reducible rfl))
              simp only [Act.put, List.getElem_toArray, List.getElem_cons_succ, List.getElem_cons_zero, List.setIfInBounds_toArray, List.set_cons_zero, List.set_cons_succ]
              refine wpAnyG_ready [19] (by kernel_rfl) (by simp) ?_
              refine AllReadyG.last 19 (by rfl) (by kernel_rfl) (fun K hK => ?_) ?_
              · simp only [List.getElem_toArray, List.getElem_cons_succ, List.getElem_cons_zero]
                go_simp
                refine hK.out _ _ ?_
                clear hK K
                try simp only [Act.put, List.setIfInBounds_toArray, List.set_cons_zero, List.set_cons_succ]
                refine wpAnyG_done (by kernel_rfl) ?_ _
                refine NoPanic.normal ?_
                have HC' : Hid (ChkAt w w3.heap.size ((wq.setCell ⟨g2, i, none⟩ (.int .i64 uj)).setCell ⟨g2, j, none⟩ (.int .i64 ui)) _ _ _ _) := hide (unhide HN2 _ _)
                obtain ⟨qE, tE, nE, cE, HC⟩ : ∃ qE tE nE cE, Hid (ChkAt w w3.heap.size ((wq.setCell ⟨g2, i, none⟩ (.int .i64 uj)).setCell ⟨g2, j, none⟩ (.int .i64 ui)) qE tE nE cE) := ⟨_, _, _, _, HC'⟩
                clear HC'
                generalize (wq.setCell ⟨g2, i, none⟩ (.int .i64 uj)).setCell ⟨g2, j, none⟩ (.int .i64 ui) = wP at *
                have HS : Hid (∀ w', Below wP.heap.size wP w' → w'.cell? ⟨w3.heap.size, 0, none⟩ = some (.int .i64 qE.n) ∧ w'.cell? ⟨w3.heap.size, 1, none⟩ = some tE ∧ w'.cell? ⟨w3.heap.size, 2, none⟩ = some nE ∧ w'.cell? ⟨w3.heap.size, 3, none⟩ = some cE) := hide fun w' hb => by
                  obtain ⟨e0, e1, e2, e3, -, -, -, -⟩ := obj_cells ((hb.block _ (heap_lt (unhide HC).ob)).trans (unhide HC).ob)
                  exact ⟨e0, e1, e2, e3⟩
                have HK1 := hide (fun w' (hb : Below wP.heap.size wP w') => check_any qE _ _ _ _ w' ((unhide HC).ni.below hb) (unhide HC).lo (unhide HC).hi)
                have HK2 := hide (fun w' (hb : Below wP.heap.size wP w') => check2_any qE _ _ _ _ w' ((unhide HC).ni.below hb) (unhide HC).lo (unhide HC).hi)
                have HF : Hid (∀ w', Below wP.heap.size wP w' → Below w.heap.size w w') := hide fun w' hb => (unhide HC).bl.trans (hb.mono (unhide HC).bl.size)
                clear HC
                generalize Sp.checkI qE = ck at *
                have hck : (ck == ck) = true := beq_self_eq_true _
                go_upto_region 32 with fail
                have hb0 : Below wP.heap.size wP wP.drew := (Below.refl _ _).drew
                refine wp_region_G (fun w' => w'.cell? ⟨w3.heap.size, 0, none⟩ = some (.int .i64 qE.n) ∧ w'.cell? ⟨w3.heap.size, 1, none⟩ = some tE ∧ w'.cell? ⟨w3.heap.size, 2, none⟩ = some nE ∧ w'.cell? ⟨w3.heap.size, 3, none⟩ = some cE) (fun _ => false) (by kernel_rfl) (unhide HS _ hb0) (fun hHeld => ?_)
                generalize wP.drew = wq at *
                refine wpAnyG_take (v := ?_) 0 (by rfl) (by kernel_rfl) (by kernel_rfl) (by kernel_rfl) (by kernel_rfl) (fun _ _ _ h => h) (Or.inl ⟨by rfl, ?_⟩) (by assumption) ?_
                rotate_left
                · (intro w' hSw; (try dsimp only at hSw); (try simp only [List.getElem_toArray, List.getElem_cons_zero]); go_simp; try (with_reducible rfl))
                simp only [Act.put, List.getElem_toArray, List.getElem_cons_zero, List.setIfInBounds_toArray, List.set_cons_zero, List.set_cons_succ]
                refine wpAnyG_take (v := ?_) 2 (by rfl) (by kernel_rfl) (by kernel_rfl) (by kernel_rfl) (by kernel_rfl) (fun _ _ _ h => h) (Or.inl ⟨by rfl, ?_⟩) (by assumption) ?_
                rotate_left
                · (intro w' hSw; (try dsimp only at hSw); (try simp only [List.getElem_toArray, List.getElem_cons_succ, List.getElem_cons_zero]); go_simp; try (with_reducible rfl))
                simp only [Act.put, List.getElem_toArray, List.getElem_cons_succ, List.getElem_cons_zero, List.setIfInBounds_toArray, List.set_cons_zero, List.set_cons_succ]
                refine wpAnyG_ready [1] (by kernel_rfl) (by simp) ?_
                refine AllReadyG.cons 1 (by rfl) (fun K hK => ?_) ?_
                · simp only [List.getElem_toArray, List.getElem_cons_succ, List.getElem_cons_zero]
                  go_simp
                  go_at_call 12
                  refine (unhide HK1 _ hb0).mono ?_
                  rintro e wA ⟨rfl, hl1⟩
                  have hb1 := hb0.trans (hl1.mono hb0.size)
                  refine hK.out _ _ (unhide HS _ hb1) (fun _ => ?_)
                  clear hK K
                  try simp only [Act.put, List.setIfInBounds_toArray, List.set_cons_zero, List.set_cons_succ]
                  refine wpAnyG_ready [3] (by kernel_rfl) (by simp) ?_
                  refine AllReadyG.cons 3 (by rfl) (fun K hK => ?_) ?_
                  · simp only [List.getElem_toArray, List.getElem_cons_succ, List.getElem_cons_zero]
                    go_simp
                    go_at_call 13
                    refine (unhide HK2 _ hb1).mono ?_
                    rintro e wB ⟨rfl, hl2⟩
                    have hb2 := hb1.trans (hl2.mono hb1.size)
                    refine hK.out _ _ (unhide HS _ hb2) (fun _ => ?_)
                    clear hK K
                    try simp only [Act.put, List.setIfInBounds_toArray, List.set_cons_zero, List.set_cons_succ]
                    refine wpAnyG_take (v := ?_) 4 (by rfl) (by kernel_rfl) (by kernel_rfl) (by kernel_rfl) (by kernel_rfl) (fun _ _ _ h => h) (Or.inl ⟨by rfl, ?_⟩) (by assumption) ?_
                    rotate_left
                    · (intro w' hSw; (try dsimp only at hSw); (try simp only [List.getElem_toArray, List.getElem_cons_succ, List.getElem_cons_zero]); go_simp; try (with_reducible rfl))
                    simp only [Act.put, List.getElem_toArray, List.getElem_cons_succ, List.getElem_cons_zero, List.setIfInBounds_toArray, List.set_cons_zero, List.set_cons_succ]
                    refine wpAnyG_take (v := ?_) 5 (by rfl) (by kernel_rfl) (by kernel_rfl) (by kernel_rfl) (by kernel_rfl) (fun _ _ _ h => h) (Or.inl ⟨by rfl, ?_⟩) (by assumption) ?_
                    rotate_left
                    · (intro w' hSw; (try dsimp only at hSw); (try simp only [List.getElem_toArray, List.getElem_cons_succ, List.getElem_cons_zero]); go_simp; try (with_reducible rfl))
                    simp only [Act.put, List.getElem_toArray, List.getElem_cons_succ, List.getElem_cons_zero, List.setIfInBounds_toArray, List.set_cons_zero, List.set_cons_succ]
                    refine wpAnyG_done (by kernel_rfl) ?_ _
                    refine NoPanic.normal ?_
                    go_wp2
                    rw [unhide HP]
                    exact ⟨by rfl, unhide HF _ hb2⟩
                  exact AllReadyG.nil
                exact AllReadyG.nil
              exact AllReadyG.nil
            exact AllReadyG.nil
          exact AllReadyG.nil
        exact AllReadyG.nil
end Go.Proofs.Ytcdpgiklmonabaa


