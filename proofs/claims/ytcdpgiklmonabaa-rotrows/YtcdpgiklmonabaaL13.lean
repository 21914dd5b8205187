/- What the proof needs, part 13. -/
import Derived.Test.YtcdpgiklmonabaaL12
/- The walk of the second reference's Turn. -/
namespace Go.Proofs.Ytcdpgiklmonabaa
open Go Go.RowKit

set_option maxRecDepth 100000 in
set_option maxHeartbeats 4000000 in
theorem turn2_any (q : Sp.Net) (v tv nv cv : Value) (w : World) (hv : NetI w v q tv nv cv) (hw : Sp.walkB q = true) :
    Calls Try.prog 22 #[v] w fun e w' => ∃ tv nv cv, e = .returned (.agg #[.int .i64 q.n, tv, nv, cv]) ∧ OwnI w' w.heap.size tv q.tail ∧ OwnI w' w.heap.size nv (Sp.turnL q.next) ∧ OwnI w' w.heap.size cv q.cap ∧ Below w.heap.size w w' := by
  have hq := walkQ hw
  have hv' := hv
  obtain ⟨rfl, h1, h2, h3⟩ := hv
  obtain ⟨ta, tc, rfl, -, -⟩ := h1.form
  obtain ⟨na, nc, rfl, hnc, hnm⟩ := h2.form
  obtain ⟨ca, cc, rfl, -, -⟩ := h3.form
  clear h1 h2 h3
  have HV : Hid (∀ w', Below w.heap.size w w' → NetI w' (.agg #[.int .i64 q.n, .slice ta q.tail.length tc, .slice na q.next.length nc, .slice ca q.cap.length cc]) q (.slice ta q.tail.length tc) (.slice na q.next.length nc) (.slice ca q.cap.length cc)) := hide fun w' hb => hv'.below hb
  have HQ := hide hq
  have hn240 : q.next.length ≤ 240 := by rw [hq.nx]; exact hq.big
  have HR0 : Hid (Sp.turnL q.next = Sp.invGo q.next q.next.length 0 (List.replicate q.next.length 0)) := hide rfl
  obtain ⟨P, hP⟩ : ∃ P : Ending → World → Prop, P = fun e w' => ∃ tv nv cv, e = .returned (.agg #[.int .i64 q.n, tv, nv, cv]) ∧ OwnI w' w.heap.size tv q.tail ∧ OwnI w' w.heap.size nv (Sp.turnL q.next) ∧ OwnI w' w.heap.size cv q.cap ∧ Below w.heap.size w w' := ⟨_, rfl⟩
  rw [← hP]
  have HP := hide hP
  clear hv' hw hq hP
  generalize Sp.turnL q.next = R at *
  have HB0 := hide (BoxAt.start w q.n (.slice ta q.tail.length tc) (.slice na q.next.length nc) (.slice ca q.cap.length cc) 0)
  obtain ⟨W2, hW2⟩ : ∃ W2, W2 = (w.alloc (.cells #[.int .i64 q.n, .slice ta q.tail.length tc, .slice na q.next.length nc, .slice ca q.cap.length cc] 25)).alloc (.cells #[.int .i64 0, .slice none 0 0, .slice none 0 0, .slice none 0 0] 25) := ⟨_, rfl⟩
  have HB2 : Hid (BoxAt w W2 q.n (.slice ta q.tail.length tc) (.slice na q.next.length nc) (.slice ca q.cap.length cc)) := hide (by rw [hW2]; exact unhide HB0)
  have hs2 : W2.heap.size = w.heap.size + 2 := by rw [hW2]; simp
  have HS2 := hide hs2
  clear HB0 hs2
  subst hW2
  go_enter Try.func22, Try.ntmps22
  go_wp2_with (at_make; refine wpList_mk rfl _ _ rfl (w.heap.size + 2) q.next.length rfl rfl (by omega) (by simp) ?_)
  intro w5 hown5 hb5 hlt5
  have HK0 : Hid (BoxAt w w5 q.n (.slice ta q.tail.length tc) (.slice na q.next.length nc) (.slice ca q.cap.length cc) ∧ OwnI w5 (w.heap.size + 2) (.slice (some ⟨w.heap.size + 2, 0, none⟩) q.next.length q.next.length) (List.replicate q.next.length 0)) := hide ⟨(unhide HB2).below (by rw [unhide HS2]; exact hb5), hown5⟩
  clear hown5 hb5 hlt5
  generalize (w.alloc (.cells #[.int .i64 q.n, .slice ta q.tail.length tc, .slice na q.next.length nc, .slice ca q.cap.length cc] 25)).alloc (.cells #[.int .i64 0, .slice none 0 0, .slice none 0 0, .slice none 0 0] 25) = W2 at *
  go_wp2
  go_loopg [4] q.next.length (fun g s4 wr => ∃ (k : Nat) (L : List Int), k + g = q.next.length ∧ s4 = .int .i64 (k : Int) ∧ Hid (L.length = q.next.length ∧ BoxAt w wr q.n (.slice ta q.tail.length tc) (.slice na q.next.length nc) (.slice ca q.cap.length cc) ∧ OwnI wr (w.heap.size + 2) (.slice (some ⟨w.heap.size + 2, 0, none⟩) q.next.length q.next.length) L ∧ R = Sp.invGo q.next g k L))
  case atStart => exact ⟨0, _, by omega, rfl, hide ⟨List.length_replicate, (unhide HK0).1, (unhide HK0).2, unhide HR0⟩⟩
  case round =>
    obtain ⟨k, L, hkg, rfl, HI⟩ := hrel
    clear HK0 HB2
    obtain ⟨x0, x1, x2, x3, -⟩ := obj_cells (unhide HI).2.1.b1
    cases gk with
    | succ g' =>
      have hlt : k < q.next.length := by omega
      have hltI : (k : Int) < (q.next.length : Int) := by omega
      have HN := hide (unhide HV _ (unhide HI).2.1.bel).next
      obtain ⟨b, o, c, hna, hc1, -⟩ := (unhide HN).cellAt (Below.refl _ _) k hlt
      injection hna with hna1 hna2 hna3
      subst hna1 hna3
      have hbd := (unhide HQ).nb q.next[k] (List.getElem_mem hlt)
      have HG : Hid (q.next.getD k 0 = q.next[k]) := hide (Sp.getD_eq _ _ hlt)
      generalize q.next[k] = z at *
      obtain ⟨x, rfl⟩ : ∃ x : Nat, z = (x : Int) := ⟨z.toNat, by omega⟩
      have hxn : x < q.next.length := by omega
      have hxI : (x : Int) < (q.next.length : Int) := by omega
      have c1 := own_cell (unhide HI).2.2.1 x (by rw [(unhide HI).1]; exact hxn)
      have f1 := own_frozen (unhide HI).2.2.1 x
      generalize L[x]'_ = lz at *
      have HR : Hid (R = Sp.invGo q.next g' (k + 1) (L.set x k)) := hide (by rw [(unhide HI).2.2.2, Sp.invGo, unhide HG, Int.toNat_natCast])
      have HI2 : Hid ((L.set x (k : Int)).length = q.next.length ∧ BoxAt w (wr.setCell ⟨w.heap.size + 2, x, none⟩ (.int .i64 (k : Int))) q.n (.slice ta q.tail.length tc) (.slice (some ⟨b, o, none⟩) q.next.length nc) (.slice ca q.cap.length cc) ∧ OwnI (wr.setCell ⟨w.heap.size + 2, x, none⟩ (.int .i64 (k : Int))) (w.heap.size + 2) (.slice (some ⟨w.heap.size + 2, 0, none⟩) q.next.length q.next.length) (L.set x (k : Int)) ∧ R = Sp.invGo q.next g' (k + 1) (L.set x (k : Int))) := hide ⟨by rw [List.length_set]; exact (unhide HI).1, (unhide HI).2.1.other _ x (by omega) _, own_setCell (unhide HI).2.2.1 x (k : Int), unhide HR⟩
      clear hbd hna2 HN HI x0 x1 x3
      go_wp2
      go_roundg g'
      case rel => exact ⟨k + 1, L.set x k, by omega, by go_num, HI2⟩
      case measure => omega
    | zero =>
      have hke : k = q.next.length := by omega
      rw [hke] at HI ⊢
      have HF : Hid (R = L) := hide (unhide HI).2.2.2
      have HBx := hide (unhide HI).2.1
      have HOw := hide (unhide HI).2.2.1
      clear hke hkg HI x0 x1 x2 x3
      go_upto_region 6 with fail
      have hW3 := hide (unhide HBx).drew
      have HS : Hid (∀ w', Below wr.drew.heap.size wr.drew w' → w'.cell? ⟨w.heap.size, 0, none⟩ = some (.int .i64 q.n) ∧ w'.cell? ⟨w.heap.size, 1, none⟩ = some (.slice ta q.tail.length tc) ∧ w'.cell? ⟨w.heap.size, 2, none⟩ = some (.slice na q.next.length nc) ∧ w'.cell? ⟨w.heap.size, 3, none⟩ = some (.slice ca q.cap.length cc)) := hide fun w' hb => by
        obtain ⟨x0, x1, x2, x3, -⟩ := obj_cells ((unhide hW3).below hb).b1
        exact ⟨x0, x1, x2, x3⟩
      have HU : Hid (∀ w', Below wr.drew.heap.size wr.drew w' → Ints w' (.slice ta q.tail.length tc) q.tail ∧ Ints w' (.slice ca q.cap.length cc) q.cap) := hide fun w' hb => by
        have hn := unhide HV _ ((unhide hW3).below hb).bel
        exact ⟨hn.tail, hn.cap⟩
      have HLA : Hid (q.tail.length ≤ 1000000) := hide (by have := (unhide HQ).big; omega)
      have HLB : Hid (q.cap.length ≤ 1000000) := hide (by have := (unhide HQ).big; have := (unhide HQ).cp; omega)
      have hB2 : w.heap.size + 2 ≤ wr.drew.heap.size := by have := (unhide hW3).size; omega
      have HOw2 := hide (own_drew (unhide HOw))
      clear HOw HBx
      have HOw := HOw2
      clear HOw2
      refine wp_region_G (fun w' => w'.cell? ⟨w.heap.size, 0, none⟩ = some (.int .i64 q.n) ∧ w'.cell? ⟨w.heap.size, 1, none⟩ = some (.slice ta q.tail.length tc) ∧ w'.cell? ⟨w.heap.size, 2, none⟩ = some (.slice na q.next.length nc) ∧ w'.cell? ⟨w.heap.size, 3, none⟩ = some (.slice ca q.cap.length cc)) (fun i => i == 12) (by kernel_rfl) (unhide HS _ (Below.refl _ _)) (fun hHeld => ?_)
      generalize wr.drew = W3 at *
      have hb0 : Below W3.heap.size W3 W3 := Below.refl _ _
      refine wpAnyG_take (v := ?_) 0 (by rfl) (by kernel_rfl) (by kernel_rfl) (by kernel_rfl) (by kernel_rfl) (fun _ _ _ h => h) (Or.inl ⟨by rfl, ?_⟩) (by assumption) ?_
      rotate_left
      · (intro w' hSw; (try dsimp only at hSw); (try simp only [List.getElem_toArray, List.getElem_cons_zero]); go_simp; try (with_reducible rfl))
      simp only [Act.put, List.getElem_toArray, List.getElem_cons_zero, List.setIfInBounds_toArray, List.set_cons_zero, List.set_cons_succ]
      refine wpAnyG_take (v := ?_) 1 (by rfl) (by kernel_rfl) (by kernel_rfl) (by kernel_rfl) (by kernel_rfl) (fun _ _ _ h => h) (Or.inl ⟨by rfl, ?_⟩) (by assumption) ?_
      rotate_left
      · (intro w' hSw; (try dsimp only at hSw); (try simp only [List.getElem_toArray, List.getElem_cons_succ, List.getElem_cons_zero]); go_simp; try (with_reducible rfl))
      simp only [Act.put, List.getElem_toArray, List.getElem_cons_succ, List.getElem_cons_zero, List.setIfInBounds_toArray, List.set_cons_zero, List.set_cons_succ]
      refine wpAnyG_take (v := ?_) 3 (by rfl) (by kernel_rfl) (by kernel_rfl) (by kernel_rfl) (by kernel_rfl) (fun _ _ _ h => h) (Or.inl ⟨by rfl, ?_⟩) (by assumption) ?_
      rotate_left
      · (intro w' hSw; (try dsimp only at hSw); (try simp only [List.getElem_toArray, List.getElem_cons_succ, List.getElem_cons_zero]); go_simp; try (with_reducible rfl))
      simp only [Act.put, List.getElem_toArray, List.getElem_cons_succ, List.getElem_cons_zero, List.setIfInBounds_toArray, List.set_cons_zero, List.set_cons_succ]
      refine wpAnyG_take (v := ?_) 4 (by rfl) (by kernel_rfl) (by kernel_rfl) (by kernel_rfl) (by kernel_rfl) (fun _ _ _ h => h) (Or.inl ⟨by rfl, ?_⟩) (by assumption) ?_
      rotate_left
      · (intro w' hSw; (try dsimp only at hSw); (try simp only [List.getElem_toArray, List.getElem_cons_succ, List.getElem_cons_zero]); go_simp; try (with_reducible rfl))
      simp only [Act.put, List.getElem_toArray, List.getElem_cons_succ, List.getElem_cons_zero, List.setIfInBounds_toArray, List.set_cons_zero, List.set_cons_succ]
      refine wpAnyG_take (v := ?_) 6 (by rfl) (by kernel_rfl) (by kernel_rfl) (by kernel_rfl) (by kernel_rfl) (fun _ _ _ h => h) (Or.inl ⟨by rfl, ?_⟩) (by assumption) ?_
      rotate_left
      · (intro w' hSw; (try dsimp only at hSw); (try simp only [List.getElem_toArray, List.getElem_cons_succ, List.getElem_cons_zero]); go_simp; try (with_reducible rfl))
      simp only [Act.put, List.getElem_toArray, List.getElem_cons_succ, List.getElem_cons_zero, List.setIfInBounds_toArray, List.set_cons_zero, List.set_cons_succ]
      refine wpAnyG_take (v := ?_) 8 (by rfl) (by kernel_rfl) (by kernel_rfl) (by kernel_rfl) (by kernel_rfl) (fun _ _ _ h => h) (Or.inl ⟨by rfl, ?_⟩) (by assumption) ?_
      rotate_left
      · (intro w' hSw; (try dsimp only at hSw); (try simp only [List.getElem_toArray, List.getElem_cons_succ, List.getElem_cons_zero]); go_simp; try (with_reducible rfl))
      simp only [Act.put, List.getElem_toArray, List.getElem_cons_succ, List.getElem_cons_zero, List.setIfInBounds_toArray, List.set_cons_zero, List.set_cons_succ]
      refine wpAnyG_take (v := ?_) 9 (by rfl) (by kernel_rfl) (by kernel_rfl) (by kernel_rfl) (by kernel_rfl) (fun _ _ _ h => h) (Or.inl ⟨by rfl, ?_⟩) (by assumption) ?_
      rotate_left
      · (intro w' hSw; (try dsimp only at hSw); (try simp only [List.getElem_toArray, List.getElem_cons_succ, List.getElem_cons_zero]); go_simp; try (with_reducible rfl))
      simp only [Act.put, List.getElem_toArray, List.getElem_cons_succ, List.getElem_cons_zero, List.setIfInBounds_toArray, List.set_cons_zero, List.set_cons_succ]
      refine wpAnyG_ready [2, 7] (by kernel_rfl) (by simp) ?_
      refine AllReadyG.cons 2 (by rfl) (fun K hK => ?_) ?_
      · simp only [List.getElem_toArray, List.getElem_cons_succ, List.getElem_cons_zero]
        go_simp
        refine hK.out _ _ (unhide HS _ (by repeat (first | assumption | exact Below.refl _ _ | refine Below.drew ?_ | refine Below.alloc ?_ (by first | omega | (simp; done) | (simp; omega)) _))) (fun _ => ?_)
        clear hK K
        try simp only [Act.put, List.setIfInBounds_toArray, List.set_cons_zero, List.set_cons_succ]
        refine wpAnyG_ready [5, 7] (by kernel_rfl) (by simp) ?_
        refine AllReadyG.cons 5 (by rfl) (fun K hK => ?_) ?_
        · simp only [List.getElem_toArray, List.getElem_cons_succ, List.getElem_cons_zero]
          refine if_wanted (by rfl) (wp_app2 (w := (W3).alloc (.cells #[] 3)) _ _ (by rfl) W3.heap.size _ _ [] q.tail (by rfl) (by rfl) (own_lit (W3) W3.heap.size (W3.heap.size) 0 [] (by simp) rfl (by first | omega | (simp; done) | (simp; omega)) (by simp)) (unhide HU _ (by repeat (first | assumption | exact Below.refl _ _ | refine Below.drew ?_ | refine Below.alloc ?_ (by first | omega | (simp; done) | (simp; omega)) _))).1 q.tail.length (by simp) (unhide HLA) (by first | omega | (simp; done) | (simp; omega)) ?_)
          intro a5 c5 w5 hown5 hb5 hgr5 hloc5
          have hbb5 : Below W3.heap.size W3 w5 := Below.trans (by repeat (first | assumption | exact Below.refl _ _ | refine Below.drew ?_ | refine Below.alloc ?_ (by first | omega | (simp; done) | (simp; omega)) _)) hb5
          have hsz5 := hb5.size
          try simp only [World.size_alloc] at hsz5
          have hlt5 := fun k' hk' => (hown5.lt k' hk').2
          refine hK.out _ _ (unhide HS _ (by repeat (first | assumption | exact Below.refl _ _ | refine Below.drew ?_ | refine Below.alloc ?_ (by first | omega | (simp; done) | (simp; omega)) _))) (fun _ => ?_)
          clear hK K
          try simp only [Act.put, List.setIfInBounds_toArray, List.set_cons_zero, List.set_cons_succ]
          refine wpAnyG_ready [7] (by kernel_rfl) (by simp) ?_
          refine AllReadyG.cons 7 (by rfl) (fun K hK => ?_) ?_
          · simp only [List.getElem_toArray, List.getElem_cons_succ, List.getElem_cons_zero]
            go_simp
            refine hK.out _ _ (unhide HS _ (by repeat (first | assumption | exact Below.refl _ _ | refine Below.drew ?_ | refine Below.alloc ?_ (by first | omega | (simp; done) | (simp; omega)) _))) (fun _ => ?_)
            clear hK K
            try simp only [Act.put, List.setIfInBounds_toArray, List.set_cons_zero, List.set_cons_succ]
            refine wpAnyG_ready [10] (by kernel_rfl) (by simp) ?_
            refine AllReadyG.cons 10 (by rfl) (fun K hK => ?_) ?_
            · simp only [List.getElem_toArray, List.getElem_cons_succ, List.getElem_cons_zero]
              refine if_wanted (by rfl) (wp_app2 (w := (w5).alloc (.cells #[] 3)) _ _ (by rfl) W3.heap.size _ _ [] q.cap (by rfl) (by rfl) (own_lit (w5) W3.heap.size (w5.heap.size) 0 [] (by simp) rfl (by first | omega | (simp; done) | (simp; omega)) (by simp)) (unhide HU _ (by repeat (first | assumption | exact Below.refl _ _ | refine Below.drew ?_ | refine Below.alloc ?_ (by first | omega | (simp; done) | (simp; omega)) _))).2 q.cap.length (by simp) (unhide HLB) (by first | omega | (simp; done) | (simp; omega)) ?_)
              intro a6 c6 w6 hown6 hb6 hgr6 hloc6
              have hbb6 : Below W3.heap.size W3 w6 := Below.trans (by repeat (first | assumption | exact Below.refl _ _ | refine Below.drew ?_ | refine Below.alloc ?_ (by first | omega | (simp; done) | (simp; omega)) _)) hb6
              have hsz6 := hb6.size
              try simp only [World.size_alloc] at hsz6
              have hlt6 := fun k' hk' => (hown6.lt k' hk').2
              have hk6 := own_grown (World.ownsRow.alloc (hown5) _) hgr6 (by intro e; have e1 := hlt5 _ e; (try dsimp only at e1); rcases hloc5 with h | h <;> (rw [h] at e; have e2 := Option.some.inj e; (try dsimp only at e2) <;> (try simp only [World.size_alloc] at e2) <;> omega))
              refine hK.out _ _ (unhide HS _ (by repeat (first | assumption | exact Below.refl _ _ | refine Below.drew ?_ | refine Below.alloc ?_ (by first | omega | (simp; done) | (simp; omega)) _))) (fun _ => ?_)
              clear hK K
              try simp only [Act.put, List.setIfInBounds_toArray, List.set_cons_zero, List.set_cons_succ]
              have hBX : BoxAt w (w6) q.n (.slice ta q.tail.length tc) (.slice na q.next.length nc) (.slice ca q.cap.length cc) := (unhide hW3).below (by repeat (first | assumption | exact Below.refl _ _ | refine Below.drew ?_ | refine Below.alloc ?_ (by first | omega | (simp; done) | (simp; omega)) _))
              have hTf := own_base (hk6) hB2
              have hCf := own_base (hown6) hB2
              have hNf : OwnI (w6) (w.heap.size + 2) (.slice (some ⟨w.heap.size + 2, 0, none⟩) q.next.length q.next.length) L := own_below (unhide HOw) (by repeat (first | assumption | exact Below.refl _ _ | refine Below.drew ?_ | refine Below.alloc ?_ (by first | omega | (simp; done) | (simp; omega)) _))
              obtain ⟨y0, y1, y2, y3, f0, f1, f2, f3⟩ := obj_cells hBX.b2
              refine wpAnyG_take (v := ?_) 11 (by rfl) (by kernel_rfl) (by kernel_rfl) (by kernel_rfl) (by kernel_rfl) (fun _ _ _ h => h) (Or.inl ⟨by rfl, ?_⟩) (by assumption) ?_
              rotate_left
              · (intro w' hSw; (try dsimp only at hSw); (try simp only [List.getElem_toArray, List.getElem_cons_succ, List.getElem_cons_zero]); go_simp; try (with_reducible rfl))
              simp only [Act.put, List.getElem_toArray, List.getElem_cons_succ, List.getElem_cons_zero, List.setIfInBounds_toArray, List.set_cons_zero, List.set_cons_succ]
              refine wpAnyG_ready [12] (by kernel_rfl) (by simp) ?_
              refine AllReadyG.last 12 (by rfl) (by kernel_rfl) (fun K hK => ?_) ?_
              · simp only [List.getElem_toArray, List.getElem_cons_succ, List.getElem_cons_zero]
                go_simp
                refine hK.out _ _ ?_
                clear hK K
                try simp only [Act.put, List.setIfInBounds_toArray, List.set_cons_zero, List.set_cons_succ]
                refine wpAnyG_done (by kernel_rfl) ?_ _
                refine NoPanic.normal ?_
                go_wp2
                have hfin := box_done hBX q.n (.slice a5 q.tail.length c5) (.slice (some ⟨w.heap.size + 2, 0, none⟩) q.next.length q.next.length) (.slice a6 q.cap.length c6)
                have HT' := four_own hTf (show w.heap.size + 1 < w.heap.size + 2 by omega) q.n (.slice a5 q.tail.length c5) (.slice (some ⟨w.heap.size + 2, 0, none⟩) q.next.length q.next.length) (.slice a6 q.cap.length c6)
                have HN' := four_own hNf (show w.heap.size + 1 < w.heap.size + 2 by omega) q.n (.slice a5 q.tail.length c5) (.slice (some ⟨w.heap.size + 2, 0, none⟩) q.next.length q.next.length) (.slice a6 q.cap.length c6)
                have HC' := four_own hCf (show w.heap.size + 1 < w.heap.size + 2 by omega) q.n (.slice a5 q.tail.length c5) (.slice (some ⟨w.heap.size + 2, 0, none⟩) q.next.length q.next.length) (.slice a6 q.cap.length c6)
                have hbl' := four_below hBX.bel w.heap.size rfl q.n (.slice a5 q.tail.length c5) (.slice (some ⟨w.heap.size + 2, 0, none⟩) q.next.length q.next.length) (.slice a6 q.cap.length c6)
                clear y0 y1 y2 y3 f0 f1 f2 f3
                generalize ((((w6).setCell ⟨w.heap.size + 1, 0, none⟩ (.int .i64 q.n)).setCell ⟨w.heap.size + 1, 1, none⟩ (.slice a5 q.tail.length c5)).setCell ⟨w.heap.size + 1, 2, none⟩ (.slice (some ⟨w.heap.size + 2, 0, none⟩) q.next.length q.next.length)).setCell ⟨w.heap.size + 1, 3, none⟩ (.slice a6 q.cap.length c6) = WF at *
                obtain ⟨r0, r1, r2, r3, -, -, -, -⟩ := obj_cells hfin
                refine bodyPost_ret (v := .agg #[.int .i64 q.n, .slice a5 q.tail.length c5, .slice (some ⟨w.heap.size + 2, 0, none⟩) q.next.length q.next.length, .slice a6 q.cap.length c6]) (by simp [results, Try.results22, go_sem, r0, r1, r2, r3]) rfl ?_
                rw [unhide HP]
                exact ⟨_, _, _, rfl, own_base HT' (by omega), by rw [unhide HF]; exact own_base HN' (by omega), own_base HC' (by omega), hbl'⟩
              exact AllReadyG.nil
            exact AllReadyG.nil
          exact AllReadyG.nil
        refine AllReadyG.cons 7 (by rfl) (fun K hK => ?_) ?_
        · simp only [List.getElem_toArray, List.getElem_cons_succ, List.getElem_cons_zero]
          go_simp
          refine hK.out _ _ (unhide HS _ (by repeat (first | assumption | exact Below.refl _ _ | refine Below.drew ?_ | refine Below.alloc ?_ (by first | omega | (simp; done) | (simp; omega)) _))) (fun _ => ?_)
          clear hK K
          try simp only [Act.put, List.setIfInBounds_toArray, List.set_cons_zero, List.set_cons_succ]
          refine wpAnyG_ready [5] (by kernel_rfl) (by simp) ?_
          refine AllReadyG.cons 5 (by rfl) (fun K hK => ?_) ?_
          · simp only [List.getElem_toArray, List.getElem_cons_succ, List.getElem_cons_zero]
            refine if_wanted (by rfl) (wp_app2 (w := ((W3).alloc (.cells #[] 3)).alloc (.cells #[] 3)) _ _ (by rfl) W3.heap.size _ _ [] q.tail (by rfl) (by rfl) (World.ownsRow.alloc (own_lit (W3) W3.heap.size (W3.heap.size) 0 [] (by simp) rfl (by first | omega | (simp; done) | (simp; omega)) (by simp)) _) (unhide HU _ (by repeat (first | assumption | exact Below.refl _ _ | refine Below.drew ?_ | refine Below.alloc ?_ (by first | omega | (simp; done) | (simp; omega)) _))).1 q.tail.length (by simp) (unhide HLA) (by first | omega | (simp; done) | (simp; omega)) ?_)
            intro a7 c7 w7 hown7 hb7 hgr7 hloc7
            have hbb7 : Below W3.heap.size W3 w7 := Below.trans (by repeat (first | assumption | exact Below.refl _ _ | refine Below.drew ?_ | refine Below.alloc ?_ (by first | omega | (simp; done) | (simp; omega)) _)) hb7
            have hsz7 := hb7.size
            try simp only [World.size_alloc] at hsz7
            have hlt7 := fun k' hk' => (hown7.lt k' hk').2
            have hk7 := own_grown (own_lit ((W3).alloc (.cells #[] 3)) W3.heap.size (W3.heap.size + 1) 0 [] (by simp) rfl (by first | omega | (simp; done) | (simp; omega)) (by simp)) hgr7 (by intro e; have e2 := Option.some.inj e; (try dsimp only at e2) <;> (try simp only [World.size_alloc] at e2) <;> omega)
            refine hK.out _ _ (unhide HS _ (by repeat (first | assumption | exact Below.refl _ _ | refine Below.drew ?_ | refine Below.alloc ?_ (by first | omega | (simp; done) | (simp; omega)) _))) (fun _ => ?_)
            clear hK K
            try simp only [Act.put, List.setIfInBounds_toArray, List.set_cons_zero, List.set_cons_succ]
            refine wpAnyG_ready [10] (by kernel_rfl) (by simp) ?_
            refine AllReadyG.cons 10 (by rfl) (fun K hK => ?_) ?_
            · simp only [List.getElem_toArray, List.getElem_cons_succ, List.getElem_cons_zero]
              refine if_wanted (by rfl) (wp_app2 (w := w7) _ _ (by rfl) W3.heap.size _ _ [] q.cap (by rfl) (by rfl) (hk7) (unhide HU _ (by repeat (first | assumption | exact Below.refl _ _ | refine Below.drew ?_ | refine Below.alloc ?_ (by first | omega | (simp; done) | (simp; omega)) _))).2 q.cap.length (by simp) (unhide HLB) (by first | omega | (simp; done) | (simp; omega)) ?_)
              intro a8 c8 w8 hown8 hb8 hgr8 hloc8
              have hbb8 : Below W3.heap.size W3 w8 := Below.trans (by repeat (first | assumption | exact Below.refl _ _ | refine Below.drew ?_ | refine Below.alloc ?_ (by first | omega | (simp; done) | (simp; omega)) _)) hb8
              have hsz8 := hb8.size
              try simp only [World.size_alloc] at hsz8
              have hlt8 := fun k' hk' => (hown8.lt k' hk').2
              have hk8 := own_grown (hown7) hgr8 (by intro e; have e1 := hlt7 _ e; (try dsimp only at e1); rcases hloc7 with h | h <;> (rw [h] at e; have e2 := Option.some.inj e; (try dsimp only at e2) <;> (try simp only [World.size_alloc] at e2) <;> omega))
              refine hK.out _ _ (unhide HS _ (by repeat (first | assumption | exact Below.refl _ _ | refine Below.drew ?_ | refine Below.alloc ?_ (by first | omega | (simp; done) | (simp; omega)) _))) (fun _ => ?_)
              clear hK K
              try simp only [Act.put, List.setIfInBounds_toArray, List.set_cons_zero, List.set_cons_succ]
              have hBX : BoxAt w (w8) q.n (.slice ta q.tail.length tc) (.slice na q.next.length nc) (.slice ca q.cap.length cc) := (unhide hW3).below (by repeat (first | assumption | exact Below.refl _ _ | refine Below.drew ?_ | refine Below.alloc ?_ (by first | omega | (simp; done) | (simp; omega)) _))
              have hTf := own_base (hk8) hB2
              have hCf := own_base (hown8) hB2
              have hNf : OwnI (w8) (w.heap.size + 2) (.slice (some ⟨w.heap.size + 2, 0, none⟩) q.next.length q.next.length) L := own_below (unhide HOw) (by repeat (first | assumption | exact Below.refl _ _ | refine Below.drew ?_ | refine Below.alloc ?_ (by first | omega | (simp; done) | (simp; omega)) _))
              obtain ⟨y0, y1, y2, y3, f0, f1, f2, f3⟩ := obj_cells hBX.b2
              refine wpAnyG_take (v := ?_) 11 (by rfl) (by kernel_rfl) (by kernel_rfl) (by kernel_rfl) (by kernel_rfl) (fun _ _ _ h => h) (Or.inl ⟨by rfl, ?_⟩) (by assumption) ?_
              rotate_left
              · (intro w' hSw; (try dsimp only at hSw); (try simp only [List.getElem_toArray, List.getElem_cons_succ, List.getElem_cons_zero]); go_simp; try (with_reducible rfl))
              simp only [Act.put, List.getElem_toArray, List.getElem_cons_succ, List.getElem_cons_zero, List.setIfInBounds_toArray, List.set_cons_zero, List.set_cons_succ]
              refine wpAnyG_ready [12] (by kernel_rfl) (by simp) ?_
              refine AllReadyG.last 12 (by rfl) (by kernel_rfl) (fun K hK => ?_) ?_
              · simp only [List.getElem_toArray, List.getElem_cons_succ, List.getElem_cons_zero]
                go_simp
                refine hK.out _ _ ?_
                clear hK K
                try simp only [Act.put, List.setIfInBounds_toArray, List.set_cons_zero, List.set_cons_succ]
                refine wpAnyG_done (by kernel_rfl) ?_ _
                refine NoPanic.normal ?_
                go_wp2
                have hfin := box_done hBX q.n (.slice a7 q.tail.length c7) (.slice (some ⟨w.heap.size + 2, 0, none⟩) q.next.length q.next.length) (.slice a8 q.cap.length c8)
                have HT' := four_own hTf (show w.heap.size + 1 < w.heap.size + 2 by omega) q.n (.slice a7 q.tail.length c7) (.slice (some ⟨w.heap.size + 2, 0, none⟩) q.next.length q.next.length) (.slice a8 q.cap.length c8)
                have HN' := four_own hNf (show w.heap.size + 1 < w.heap.size + 2 by omega) q.n (.slice a7 q.tail.length c7) (.slice (some ⟨w.heap.size + 2, 0, none⟩) q.next.length q.next.length) (.slice a8 q.cap.length c8)
                have HC' := four_own hCf (show w.heap.size + 1 < w.heap.size + 2 by omega) q.n (.slice a7 q.tail.length c7) (.slice (some ⟨w.heap.size + 2, 0, none⟩) q.next.length q.next.length) (.slice a8 q.cap.length c8)
                have hbl' := four_below hBX.bel w.heap.size rfl q.n (.slice a7 q.tail.length c7) (.slice (some ⟨w.heap.size + 2, 0, none⟩) q.next.length q.next.length) (.slice a8 q.cap.length c8)
                clear y0 y1 y2 y3 f0 f1 f2 f3
                generalize ((((w8).setCell ⟨w.heap.size + 1, 0, none⟩ (.int .i64 q.n)).setCell ⟨w.heap.size + 1, 1, none⟩ (.slice a7 q.tail.length c7)).setCell ⟨w.heap.size + 1, 2, none⟩ (.slice (some ⟨w.heap.size + 2, 0, none⟩) q.next.length q.next.length)).setCell ⟨w.heap.size + 1, 3, none⟩ (.slice a8 q.cap.length c8) = WF at *
                obtain ⟨r0, r1, r2, r3, -, -, -, -⟩ := obj_cells hfin
                refine bodyPost_ret (v := .agg #[.int .i64 q.n, .slice a7 q.tail.length c7, .slice (some ⟨w.heap.size + 2, 0, none⟩) q.next.length q.next.length, .slice a8 q.cap.length c8]) (by simp [results, Try.results22, go_sem, r0, r1, r2, r3]) rfl ?_
                rw [unhide HP]
                exact ⟨_, _, _, rfl, own_base HT' (by omega), by rw [unhide HF]; exact own_base HN' (by omega), own_base HC' (by omega), hbl'⟩
              exact AllReadyG.nil
            exact AllReadyG.nil
          exact AllReadyG.nil
        exact AllReadyG.nil
      refine AllReadyG.cons 7 (by rfl) (fun K hK => ?_) ?_
      · simp only [List.getElem_toArray, List.getElem_cons_succ, List.getElem_cons_zero]
        go_simp
        refine hK.out _ _ (unhide HS _ (by repeat (first | assumption | exact Below.refl _ _ | refine Below.drew ?_ | refine Below.alloc ?_ (by first | omega | (simp; done) | (simp; omega)) _))) (fun _ => ?_)
        clear hK K
        try simp only [Act.put, List.setIfInBounds_toArray, List.set_cons_zero, List.set_cons_succ]
        refine wpAnyG_ready [2] (by kernel_rfl) (by simp) ?_
        refine AllReadyG.cons 2 (by rfl) (fun K hK => ?_) ?_
        · simp only [List.getElem_toArray, List.getElem_cons_succ, List.getElem_cons_zero]
          go_simp
          refine hK.out _ _ (unhide HS _ (by repeat (first | assumption | exact Below.refl _ _ | refine Below.drew ?_ | refine Below.alloc ?_ (by first | omega | (simp; done) | (simp; omega)) _))) (fun _ => ?_)
          clear hK K
          try simp only [Act.put, List.setIfInBounds_toArray, List.set_cons_zero, List.set_cons_succ]
          refine wpAnyG_ready [5] (by kernel_rfl) (by simp) ?_
          refine AllReadyG.cons 5 (by rfl) (fun K hK => ?_) ?_
          · simp only [List.getElem_toArray, List.getElem_cons_succ, List.getElem_cons_zero]
            refine if_wanted (by rfl) (wp_app2 (w := ((W3).alloc (.cells #[] 3)).alloc (.cells #[] 3)) _ _ (by rfl) W3.heap.size _ _ [] q.tail (by rfl) (by rfl) (own_lit ((W3).alloc (.cells #[] 3)) W3.heap.size (W3.heap.size + 1) 0 [] (by simp) rfl (by first | omega | (simp; done) | (simp; omega)) (by simp)) (unhide HU _ (by repeat (first | assumption | exact Below.refl _ _ | refine Below.drew ?_ | refine Below.alloc ?_ (by first | omega | (simp; done) | (simp; omega)) _))).1 q.tail.length (by simp) (unhide HLA) (by first | omega | (simp; done) | (simp; omega)) ?_)
            intro a9 c9 w9 hown9 hb9 hgr9 hloc9
            have hbb9 : Below W3.heap.size W3 w9 := Below.trans (by repeat (first | assumption | exact Below.refl _ _ | refine Below.drew ?_ | refine Below.alloc ?_ (by first | omega | (simp; done) | (simp; omega)) _)) hb9
            have hsz9 := hb9.size
            try simp only [World.size_alloc] at hsz9
            have hlt9 := fun k' hk' => (hown9.lt k' hk').2
            have hk9 := own_grown (World.ownsRow.alloc (own_lit (W3) W3.heap.size (W3.heap.size) 0 [] (by simp) rfl (by first | omega | (simp; done) | (simp; omega)) (by simp)) _) hgr9 (by intro e; have e2 := Option.some.inj e; (try dsimp only at e2) <;> (try simp only [World.size_alloc] at e2) <;> omega)
            refine hK.out _ _ (unhide HS _ (by repeat (first | assumption | exact Below.refl _ _ | refine Below.drew ?_ | refine Below.alloc ?_ (by first | omega | (simp; done) | (simp; omega)) _))) (fun _ => ?_)
            clear hK K
            try simp only [Act.put, List.setIfInBounds_toArray, List.set_cons_zero, List.set_cons_succ]
            refine wpAnyG_ready [10] (by kernel_rfl) (by simp) ?_
            refine AllReadyG.cons 10 (by rfl) (fun K hK => ?_) ?_
            · simp only [List.getElem_toArray, List.getElem_cons_succ, List.getElem_cons_zero]
              refine if_wanted (by rfl) (wp_app2 (w := w9) _ _ (by rfl) W3.heap.size _ _ [] q.cap (by rfl) (by rfl) (hk9) (unhide HU _ (by repeat (first | assumption | exact Below.refl _ _ | refine Below.drew ?_ | refine Below.alloc ?_ (by first | omega | (simp; done) | (simp; omega)) _))).2 q.cap.length (by simp) (unhide HLB) (by first | omega | (simp; done) | (simp; omega)) ?_)
              intro a10 c10 w10 hown10 hb10 hgr10 hloc10
              have hbb10 : Below W3.heap.size W3 w10 := Below.trans (by repeat (first | assumption | exact Below.refl _ _ | refine Below.drew ?_ | refine Below.alloc ?_ (by first | omega | (simp; done) | (simp; omega)) _)) hb10
              have hsz10 := hb10.size
              try simp only [World.size_alloc] at hsz10
              have hlt10 := fun k' hk' => (hown10.lt k' hk').2
              have hk10 := own_grown (hown9) hgr10 (by intro e; have e1 := hlt9 _ e; (try dsimp only at e1); rcases hloc9 with h | h <;> (rw [h] at e; have e2 := Option.some.inj e; (try dsimp only at e2) <;> (try simp only [World.size_alloc] at e2) <;> omega))
              refine hK.out _ _ (unhide HS _ (by repeat (first | assumption | exact Below.refl _ _ | refine Below.drew ?_ | refine Below.alloc ?_ (by first | omega | (simp; done) | (simp; omega)) _))) (fun _ => ?_)
              clear hK K
              try simp only [Act.put, List.setIfInBounds_toArray, List.set_cons_zero, List.set_cons_succ]
              have hBX : BoxAt w (w10) q.n (.slice ta q.tail.length tc) (.slice na q.next.length nc) (.slice ca q.cap.length cc) := (unhide hW3).below (by repeat (first | assumption | exact Below.refl _ _ | refine Below.drew ?_ | refine Below.alloc ?_ (by first | omega | (simp; done) | (simp; omega)) _))
              have hTf := own_base (hk10) hB2
              have hCf := own_base (hown10) hB2
              have hNf : OwnI (w10) (w.heap.size + 2) (.slice (some ⟨w.heap.size + 2, 0, none⟩) q.next.length q.next.length) L := own_below (unhide HOw) (by repeat (first | assumption | exact Below.refl _ _ | refine Below.drew ?_ | refine Below.alloc ?_ (by first | omega | (simp; done) | (simp; omega)) _))
              obtain ⟨y0, y1, y2, y3, f0, f1, f2, f3⟩ := obj_cells hBX.b2
              refine wpAnyG_take (v := ?_) 11 (by rfl) (by kernel_rfl) (by kernel_rfl) (by kernel_rfl) (by kernel_rfl) (fun _ _ _ h => h) (Or.inl ⟨by rfl, ?_⟩) (by assumption) ?_
              rotate_left
              · (intro w' hSw; (try dsimp only at hSw); (try simp only [List.getElem_toArray, List.getElem_cons_succ, List.getElem_cons_zero]); go_simp; try (with_reducible rfl))
              simp only [Act.put, List.getElem_toArray, List.getElem_cons_succ, List.getElem_cons_zero, List.setIfInBounds_toArray, List.set_cons_zero, List.set_cons_succ]
              refine wpAnyG_ready [12] (by kernel_rfl) (by simp) ?_
              refine AllReadyG.last 12 (by rfl) (by kernel_rfl) (fun K hK => ?_) ?_
              · simp only [List.getElem_toArray, List.getElem_cons_succ, List.getElem_cons_zero]
                go_simp
                refine hK.out _ _ ?_
                clear hK K
                try simp only [Act.put, List.setIfInBounds_toArray, List.set_cons_zero, List.set_cons_succ]
                refine wpAnyG_done (by kernel_rfl) ?_ _
                refine NoPanic.normal ?_
                go_wp2
                have hfin := box_done hBX q.n (.slice a9 q.tail.length c9) (.slice (some ⟨w.heap.size + 2, 0, none⟩) q.next.length q.next.length) (.slice a10 q.cap.length c10)
                have HT' := four_own hTf (show w.heap.size + 1 < w.heap.size + 2 by omega) q.n (.slice a9 q.tail.length c9) (.slice (some ⟨w.heap.size + 2, 0, none⟩) q.next.length q.next.length) (.slice a10 q.cap.length c10)
                have HN' := four_own hNf (show w.heap.size + 1 < w.heap.size + 2 by omega) q.n (.slice a9 q.tail.length c9) (.slice (some ⟨w.heap.size + 2, 0, none⟩) q.next.length q.next.length) (.slice a10 q.cap.length c10)
                have HC' := four_own hCf (show w.heap.size + 1 < w.heap.size + 2 by omega) q.n (.slice a9 q.tail.length c9) (.slice (some ⟨w.heap.size + 2, 0, none⟩) q.next.length q.next.length) (.slice a10 q.cap.length c10)
                have hbl' := four_below hBX.bel w.heap.size rfl q.n (.slice a9 q.tail.length c9) (.slice (some ⟨w.heap.size + 2, 0, none⟩) q.next.length q.next.length) (.slice a10 q.cap.length c10)
                clear y0 y1 y2 y3 f0 f1 f2 f3
                generalize ((((w10).setCell ⟨w.heap.size + 1, 0, none⟩ (.int .i64 q.n)).setCell ⟨w.heap.size + 1, 1, none⟩ (.slice a9 q.tail.length c9)).setCell ⟨w.heap.size + 1, 2, none⟩ (.slice (some ⟨w.heap.size + 2, 0, none⟩) q.next.length q.next.length)).setCell ⟨w.heap.size + 1, 3, none⟩ (.slice a10 q.cap.length c10) = WF at *
                obtain ⟨r0, r1, r2, r3, -, -, -, -⟩ := obj_cells hfin
                refine bodyPost_ret (v := .agg #[.int .i64 q.n, .slice a9 q.tail.length c9, .slice (some ⟨w.heap.size + 2, 0, none⟩) q.next.length q.next.length, .slice a10 q.cap.length c10]) (by simp [results, Try.results22, go_sem, r0, r1, r2, r3]) rfl ?_
                rw [unhide HP]
                exact ⟨_, _, _, rfl, own_base HT' (by omega), by rw [unhide HF]; exact own_base HN' (by omega), own_base HC' (by omega), hbl'⟩
              exact AllReadyG.nil
            exact AllReadyG.nil
          exact AllReadyG.nil
        exact AllReadyG.nil
      exact AllReadyG.nil
end Go.Proofs.Ytcdpgiklmonabaa


/- A net by W1 has turns that are told apart. -/
namespace Go.Proofs.Ytcdpgiklmonabaa
open Go Go.RowKit

theorem Sp.Whole.perm {q : Sp.Net} (h : Sp.Whole q) : Sp.Perm q.next := by
  have nl := h.lists.nl
  refine ⟨fun x hx => by rw [nl]; exact h.next x hx, fun i j hi hj e => ?_⟩
  rw [nl] at hi hj
  have ti := h.lists.tb _ (Sp.getD_mem (l := q.tail) hi)
  have tj := h.lists.tb _ (Sp.getD_mem (l := q.tail) hj)
  have vi : q.tail.getD i 0 = ((q.tail.getD i 0).toNat : Int) := by omega
  have vj : q.tail.getD j 0 = ((q.tail.getD j 0).toNat : Int) := by omega
  obtain ⟨l, hl⟩ := h.round (q.tail.getD i 0).toNat (by omega)
  obtain ⟨m, hm⟩ := h.round (q.tail.getD j 0).toNat (by omega)
  obtain ⟨a, ha, hae⟩ := List.getElem_of_mem (hl.all i hi vi)
  obtain ⟨b, hb, hbe⟩ := List.getElem_of_mem (hm.all j hj vj)
  have ga : l.getD a 0 = (i : Int) := by rw [Sp.getD_eq _ _ ha, hae]
  have gb : m.getD b 0 = (j : Int) := by rw [Sp.getD_eq _ _ hb, hbe]
  have na := hl.next a ha
  have nb := hm.next b hb
  rw [ga, Int.toNat_natCast] at na
  rw [gb, Int.toNat_natCast] at nb
  have ma : (a + 1) % l.length < l.length := Nat.mod_lt _ (by omega)
  have mb : (b + 1) % m.length < m.length := Nat.mod_lt _ (by omega)
  have da := hl.dart _ (Sp.getD_mem (l := l) ma)
  have db := hm.dart _ (Sp.getD_mem (l := m) mb)
  rw [← na] at da
  rw [← nb] at db
  rw [e, db.2.2] at da
  have ev : (q.tail.getD i 0).toNat = (q.tail.getD j 0).toNat := by
    have := da.2.2
    omega
  rw [← ev] at vj
  obtain ⟨c, hc, hce⟩ := List.getElem_of_mem (hl.all j hj vj)
  have gc : l.getD c 0 = (j : Int) := by rw [Sp.getD_eq _ _ hc, hce]
  have nc := hl.next c hc
  rw [gc, Int.toNat_natCast] at nc
  have mc : (c + 1) % l.length < l.length := Nat.mod_lt _ (by omega)
  have e2 : l.getD ((a + 1) % l.length) 0 = l.getD ((c + 1) % l.length) 0 := by rw [← na, ← nc, e]
  rw [Sp.getD_eq _ _ ma, Sp.getD_eq _ _ mc] at e2
  have e3 : (a + 1) % l.length = (c + 1) % l.length := by
    have hn := List.pairwise_iff_getElem.1 hl.nodup
    rcases Nat.lt_trichotomy ((a + 1) % l.length) ((c + 1) % l.length) with h1 | h1 | h1
    · exact absurd e2 (hn _ _ ma mc h1)
    · exact h1
    · exact absurd e2.symm (hn _ _ mc ma h1)
  have e4 : a = c := by
    by_cases h1 : a + 1 < l.length
    · by_cases h2 : c + 1 < l.length
      · rw [Nat.mod_eq_of_lt h1, Nat.mod_eq_of_lt h2] at e3; omega
      · have : c + 1 = l.length := by omega
        rw [Nat.mod_eq_of_lt h1, this, Nat.mod_self] at e3; omega
    · have h1' : a + 1 = l.length := by omega
      by_cases h2 : c + 1 < l.length
      · rw [Nat.mod_eq_of_lt h2, h1', Nat.mod_self] at e3; omega
      · omega
  subst e4
  rw [ga] at gc
  omega
end Go.Proofs.Ytcdpgiklmonabaa


