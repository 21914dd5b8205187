/- What the proof needs, part 22. -/
import Derived.Test.YtoegjnolccabjaaL21
/- The law RimAll, walked. -/
namespace Go.Proofs.Ytoegjnolccabjaa
open Go Go.RowKit

theorem split_rows3 {wz : World} {gA gB gC gL : Nat} {s t u v x y : Int} (hA : wz.heap[gA]? = some (.cells #[.int .i64 s, .int .i64 t] 3)) (hB : wz.heap[gB]? = some (.cells #[.int .i64 u, .int .i64 v] 3)) (hC : wz.heap[gC]? = some (.cells #[.int .i64 x, .int .i64 y] 3)) (hL : wz.heap[gL]? = some (.cells #[.slice (some ⟨gA, 0, none⟩) 2 2, .slice (some ⟨gB, 0, none⟩) 2 2, .slice (some ⟨gC, 0, none⟩) 2 2] 22)) :
    ∀ i, i < 3 → ∃ g pa pb, ∀ w', Below wz.heap.size wz w' → w'.cell? ⟨gL, i, none⟩ = some (.slice (some ⟨g, 0, none⟩) 2 2) ∧ w'.cell? ⟨g, 0, none⟩ = some (.int .i64 pa) ∧ w'.cell? ⟨g, 1, none⟩ = some (.int .i64 pb) := by
  intro i hi
  rcases (show i = 0 ∨ i = 1 ∨ i = 2 by omega) with rfl | rfl | rfl
  · refine ⟨gA, s, t, fun w' hb => ⟨?_, ?_, ?_⟩⟩
    · rw [cell_of_row _ _ _ _ _ _ ((hb.block _ (heap_lt hL)).trans hL)]; rfl
    · rw [cell_of_row _ _ _ _ _ _ ((hb.block _ (heap_lt hA)).trans hA)]; rfl
    · rw [cell_of_row _ _ _ _ _ _ ((hb.block _ (heap_lt hA)).trans hA)]; rfl
  · refine ⟨gB, u, v, fun w' hb => ⟨?_, ?_, ?_⟩⟩
    · rw [cell_of_row _ _ _ _ _ _ ((hb.block _ (heap_lt hL)).trans hL)]; rfl
    · rw [cell_of_row _ _ _ _ _ _ ((hb.block _ (heap_lt hB)).trans hB)]; rfl
    · rw [cell_of_row _ _ _ _ _ _ ((hb.block _ (heap_lt hB)).trans hB)]; rfl
  · refine ⟨gC, x, y, fun w' hb => ⟨?_, ?_, ?_⟩⟩
    · rw [cell_of_row _ _ _ _ _ _ ((hb.block _ (heap_lt hL)).trans hL)]; rfl
    · rw [cell_of_row _ _ _ _ _ _ ((hb.block _ (heap_lt hC)).trans hC)]; rfl
    · rw [cell_of_row _ _ _ _ _ _ ((hb.block _ (heap_lt hC)).trans hC)]; rfl
theorem Sp.RimIs.lens {q : Sp.Net} (hq : Sp.RimQ q) {s t : Int} {P L : List Int} {x : Int} (h : Sp.RimIs q s t P L x) : P.length ≤ 60 ∧ L.length ≤ 60 := by
  have := hq.kle
  have := hq.le
  rcases h with ⟨-, rfl, rfl, -⟩ | ⟨-, -, -, -, -, f, d0, a, jb, D, -, -, rfl, rfl, -⟩
  · exact ⟨Nat.zero_le _, Nat.zero_le _⟩
  · constructor
    · rw [List.length_map, List.length_range]; omega
    · rw [List.length_map, List.length_range]; omega
set_option maxRecDepth 100000 in
set_option maxHeartbeats 4000000 in
theorem rimAll_any (ns : List Int) (x : Value) (s t u v : Int) (w : World) (hx : Ints w x ns) :
    Calls Try.prog 3 #[x, .int .i64 s, .int .i64 t, .int .i64 u, .int .i64 v] w fun e w' => e = .returned (.bool true) ∧ Below w.heap.size w w' := by
  obtain ⟨a, c, rfl, hc, hm⟩ := hx.form
  have HPL := hide (fun w' (hb : Below w.heap.size w w') => plane_any ns (.slice a ns.length c) w' (hx.below hb))
  have HOK := hide (Sp.plane_ok ns)
  have HLQ := hide (Sp.linkQ_plane ns)
  have HCk := hide (Sp.check_plane ns)
  have HRQ := hide (Sp.rimQ_plane ns)
  generalize Sp.plane ns = q at *
  generalize ns.length = n at *
  clear hx
  obtain ⟨P, hP⟩ : ∃ P : Ending → World → Prop, P = fun e w' => e = .returned (.bool true) ∧ Below w.heap.size w w' := ⟨_, rfl⟩
  rw [← hP]
  have HP := hide hP
  clear hP
  go_enter Try.func3, Try.ntmps3
  go_wp2_with fail
  go_at_call 9
  refine (known8_any w).mono ?_
  rintro e w2 ⟨rfl, hb2⟩
  have Hb2 := hide hb2
  clear hb2
  go_wp2_with fail
  go_at_call 10
  refine (unhide HPL _ (unhide Hb2)).mono ?_
  clear HPL
  rintro e w3 ⟨v, tv, nv, cv, rfl, hnv, hb3⟩
  have hval := hnv.val
  subst hval
  obtain ⟨ta, tc, rfl, htc, htm, HT⟩ := hnv.netI.tail.allD
  obtain ⟨na, nc, rfl, -, -⟩ := hnv.netI.next.form
  obtain ⟨ca, cc, rfl, -, -⟩ := hnv.netI.cap.form
  obtain ⟨W4, hW4⟩ : ∃ W4, W4 = w3.alloc (.cells #[.int .i64 q.n, .slice ta q.tail.length tc, .slice na q.next.length nc, .slice ca q.cap.length cc] 25) := ⟨_, rfl⟩
  obtain ⟨hBX, hs4, hTR⟩ := boxed ((unhide Hb2).trans (hb3.mono (unhide Hb2).size)) hnv.netI W4 hW4
  have HBX := hide hBX
  have HTR := hide hTR
  have Hs4 := hide hs4
  have HW4 := hide hW4
  clear hnv hb3 Hb2 hBX hTR hs4 hW4
  have hb4 : Below (w3.heap.size + 1) W4 W4 := Below.refl _ _
  have HWK := hide ((unhide HOK).walk (by omega))
  have hn0 : 1 ≤ q.n := (unhide HOK).n0
  have hn1 : q.n ≤ 100 := by have := (unhide HOK).n1; omega
  have HWs := hide (fun w' => within8_any s q.n w' (by omega) (by omega))
  have HWt := hide (fun w' => within8_any t q.n w' (by omega) (by omega))
  generalize s % q.n = s1 at *
  generalize t % q.n = t1 at *
  have HH1 := hide (fun pa pb w' (hb : Below (w3.heap.size + 1) W4 w') => rmheights_any q _ _ _ _ pa pb w' (unhide HBX w' hb).2.1 (unhide HRQ))
  have HH2 := hide (fun pa pb w' P L x (hb : Below (w3.heap.size + 1) W4 w') (hR : Sp.RimIs q pa pb P L x) => heights8p_any q _ _ _ _ pa pb w' (unhide HBX w' hb).2.1 (unhide HRQ) hR)
  have HH3 := hide (fun pa pb w' (hb : Below (w3.heap.size + 1) W4 w') => rmflow_any q _ _ _ _ pa pb w' (unhide HBX w' hb).2.1 (unhide HRQ))
  have HH4 := hide (fun pa pb w' P L x (hb : Below (w3.heap.size + 1) W4 w') (hR : Sp.RimIs q pa pb P L x) => flow8_any q _ _ _ _ pa pb w' (unhide HBX w' hb).2.1 (unhide HRQ) hR)
  have HLn : Hid (∀ pa pb P L x, Sp.RimIs q pa pb P L x → P.length ≤ 60 ∧ L.length ≤ 60) := hide fun pa pb P L x h => h.lens (unhide HRQ)
  have HIs : Hid (∀ (l : List Int) w' v u, l.length ≤ 60 → Ints w' v l → Ints w' u l → Calls Try.prog 16 #[v, u] w' fun e w'' => e = .returned (.bool true) ∧ Below w'.heap.size w' w'') := hide fun l w' v u hl h1 h2 => by
    refine (rInts_any l l v u w' h1 h2 (by omega) (by omega)).mono fun e w'' ⟨a1, a2⟩ => ⟨?_, a2⟩
    rw [a1, decide_eq_true rfl]
  clear htc htm HT HLQ HCk HOK HWK
  go_upto_region 4 with fail
  rw [← unhide HW4]
  go_cut [12] (fun s12 wx => ∃ gL, s12 = .slice (some ⟨gL, 0, none⟩) 3 3 ∧ Hid (Below (w3.heap.size + 1) W4 wx ∧ ∀ i, i < 3 → ∃ g pa pb, ∀ w', Below wx.heap.size wx w' → w'.cell? ⟨gL, i, none⟩ = some (.slice (some ⟨g, 0, none⟩) 2 2) ∧ w'.cell? ⟨g, 0, none⟩ = some (.int .i64 pa) ∧ w'.cell? ⟨g, 1, none⟩ = some (.int .i64 pb)))
  case first =>
    have hb0W := hb4.drew
    have HSx : Hid (∀ w', Below W4.drew.heap.size W4.drew w' → w'.cell? ⟨w3.heap.size, 0, none⟩ = some (.int .i64 q.n) ∧ w'.cell? ⟨w3.heap.size, 1, none⟩ = some (.slice ta q.tail.length tc) ∧ w'.cell? ⟨w3.heap.size, 2, none⟩ = some (.slice na q.next.length nc) ∧ w'.cell? ⟨w3.heap.size, 3, none⟩ = some (.slice ca q.cap.length cc)) := hide fun w' hb => (unhide HBX w' (hb0W.trans (hb.mono (by have := unhide Hs4; exact Nat.le_of_eq this.symm)))).1
    have hb0W : Below (w3.heap.size + 1) W4 W4.drew := hb0W
    refine wp_region_G (fun w' => w'.cell? ⟨w3.heap.size, 0, none⟩ = some (.int .i64 q.n) ∧ w'.cell? ⟨w3.heap.size, 1, none⟩ = some (.slice ta q.tail.length tc) ∧ w'.cell? ⟨w3.heap.size, 2, none⟩ = some (.slice na q.next.length nc) ∧ w'.cell? ⟨w3.heap.size, 3, none⟩ = some (.slice ca q.cap.length cc)) (fun _ => false) (by kernel_rfl) (unhide HSx _ (Below.refl _ _)) (fun hHeld => ?_)
    have Hs5 : Hid (w3.heap.size + 1 ≤ W4.drew.heap.size) := hide (by have := unhide Hs4; exact Nat.le_of_eq this.symm)
    generalize W4.drew = W5 at *
    have hb0 : Below W5.heap.size W5 W5 := Below.refl _ _
    refine wpAnyG_take (v := ?_) 0 (by rfl) (by kernel_rfl) (by kernel_rfl) (by kernel_rfl) (by kernel_rfl) (fun _ _ _ h => h) (Or.inl ⟨by rfl, ?_⟩) (by assumption) ?_
    rotate_left
    · (intro w' hSw; (try dsimp only at hSw); (try simp only [List.getElem_toArray, List.getElem_cons_zero]); go_simp; try (with_reducible rfl))
    simp only [Act.put, List.getElem_toArray, List.getElem_cons_zero, List.setIfInBounds_toArray, List.set_cons_zero, List.set_cons_succ]
    refine wpAnyG_take (v := ?_) 1 (by rfl) (by kernel_rfl) (by kernel_rfl) (by kernel_rfl) (by kernel_rfl) (fun _ _ _ h => h) (Or.inl ⟨by rfl, ?_⟩) (by assumption) ?_
    rotate_left
    · (intro w' hSw; (try dsimp only at hSw); (try simp only [List.getElem_toArray, List.getElem_cons_succ, List.getElem_cons_zero]); go_simp; try (with_reducible rfl))
    simp only [Act.put, List.getElem_toArray, List.getElem_cons_succ, List.getElem_cons_zero, List.setIfInBounds_toArray, List.set_cons_zero, List.set_cons_succ]
    refine wpAnyG_take (v := ?_) 2 (by rfl) (by kernel_rfl) (by kernel_rfl) (by kernel_rfl) (by kernel_rfl) (fun _ _ _ h => h) (Or.inl ⟨by rfl, ?_⟩) (by assumption) ?_
    rotate_left
    · (intro w' hSw; (try dsimp only at hSw); (try simp only [List.getElem_toArray, List.getElem_cons_succ, List.getElem_cons_zero]); go_simp; try (with_reducible rfl))
    simp only [Act.put, List.getElem_toArray, List.getElem_cons_succ, List.getElem_cons_zero, List.setIfInBounds_toArray, List.set_cons_zero, List.set_cons_succ]
    refine wpAnyG_take (v := ?_) 4 (by rfl) (by kernel_rfl) (by kernel_rfl) (by kernel_rfl) (by kernel_rfl) (fun _ _ _ h => h) (Or.inl ⟨by rfl, ?_⟩) (by assumption) ?_
    rotate_left
    · (intro w' hSw; (try dsimp only at hSw); (try simp only [List.getElem_toArray, List.getElem_cons_succ, List.getElem_cons_zero]); go_simp; try (with_reducible rfl))
    simp only [Act.put, List.getElem_toArray, List.getElem_cons_succ, List.getElem_cons_zero, List.setIfInBounds_toArray, List.set_cons_zero, List.set_cons_succ]
    refine wpAnyG_take (v := ?_) 5 (by rfl) (by kernel_rfl) (by kernel_rfl) (by kernel_rfl) (by kernel_rfl) (fun _ _ _ h => h) (Or.inl ⟨by rfl, ?_⟩) (by assumption) ?_
    rotate_left
    · (intro w' hSw; (try dsimp only at hSw); (try simp only [List.getElem_toArray, List.getElem_cons_succ, List.getElem_cons_zero]); go_simp; try (with_reducible rfl))
    simp only [Act.put, List.getElem_toArray, List.getElem_cons_succ, List.getElem_cons_zero, List.setIfInBounds_toArray, List.set_cons_zero, List.set_cons_succ]
    refine wpAnyG_take (v := ?_) 6 (by rfl) (by kernel_rfl) (by kernel_rfl) (by kernel_rfl) (by kernel_rfl) (fun _ _ _ h => h) (Or.inl ⟨by rfl, ?_⟩) (by assumption) ?_
    rotate_left
    · (intro w' hSw; (try dsimp only at hSw); (try simp only [List.getElem_toArray, List.getElem_cons_succ, List.getElem_cons_zero]); go_simp; try (with_reducible rfl))
    simp only [Act.put, List.getElem_toArray, List.getElem_cons_succ, List.getElem_cons_zero, List.setIfInBounds_toArray, List.set_cons_zero, List.set_cons_succ]
    refine wpAnyG_take (v := ?_) 9 (by rfl) (by kernel_rfl) (by kernel_rfl) (by kernel_rfl) (by kernel_rfl) (fun _ _ _ h => h) (Or.inl ⟨by rfl, ?_⟩) (by assumption) ?_
    rotate_left
    · (intro w' hSw; (try dsimp only at hSw); (try simp only [List.getElem_toArray, List.getElem_cons_succ, List.getElem_cons_zero]); go_simp; try (with_reducible rfl))
    simp only [Act.put, List.getElem_toArray, List.getElem_cons_succ, List.getElem_cons_zero, List.setIfInBounds_toArray, List.set_cons_zero, List.set_cons_succ]
    refine wpAnyG_take (v := ?_) 10 (by rfl) (by kernel_rfl) (by kernel_rfl) (by kernel_rfl) (by kernel_rfl) (fun _ _ _ h => h) (Or.inl ⟨by rfl, ?_⟩) (by assumption) ?_
    rotate_left
    · (intro w' hSw; (try dsimp only at hSw); (try simp only [List.getElem_toArray, List.getElem_cons_succ, List.getElem_cons_zero]); go_simp; try (with_reducible rfl))
    simp only [Act.put, List.getElem_toArray, List.getElem_cons_succ, List.getElem_cons_zero, List.setIfInBounds_toArray, List.set_cons_zero, List.set_cons_succ]
    refine wpAnyG_take (v := ?_) 12 (by rfl) (by kernel_rfl) (by kernel_rfl) (by kernel_rfl) (by kernel_rfl) (fun _ _ _ h => h) (Or.inl ⟨by rfl, ?_⟩) (by assumption) ?_
    rotate_left
    · (intro w' hSw; (try dsimp only at hSw); (try simp only [List.getElem_toArray, List.getElem_cons_succ, List.getElem_cons_zero]); go_simp; try (with_reducible rfl))
    simp only [Act.put, List.getElem_toArray, List.getElem_cons_succ, List.getElem_cons_zero, List.setIfInBounds_toArray, List.set_cons_zero, List.set_cons_succ]
    refine wpAnyG_take (v := ?_) 13 (by rfl) (by kernel_rfl) (by kernel_rfl) (by kernel_rfl) (by kernel_rfl) (fun _ _ _ h => h) (Or.inl ⟨by rfl, ?_⟩) (by assumption) ?_
    rotate_left
    · (intro w' hSw; (try dsimp only at hSw); (try simp only [List.getElem_toArray, List.getElem_cons_succ, List.getElem_cons_zero]); go_simp; try (with_reducible rfl))
    simp only [Act.put, List.getElem_toArray, List.getElem_cons_succ, List.getElem_cons_zero, List.setIfInBounds_toArray, List.set_cons_zero, List.set_cons_succ]
    refine wpAnyG_take (v := ?_) 14 (by rfl) (by kernel_rfl) (by kernel_rfl) (by kernel_rfl) (by kernel_rfl) (fun _ _ _ h => h) (Or.inl ⟨by rfl, ?_⟩) (by assumption) ?_
    rotate_left
    · (intro w' hSw; (try dsimp only at hSw); (try simp only [List.getElem_toArray, List.getElem_cons_succ, List.getElem_cons_zero]); go_simp; try (with_reducible rfl))
    simp only [Act.put, List.getElem_toArray, List.getElem_cons_succ, List.getElem_cons_zero, List.setIfInBounds_toArray, List.set_cons_zero, List.set_cons_succ]
    refine wpAnyG_take (v := ?_) 16 (by rfl) (by kernel_rfl) (by kernel_rfl) (by kernel_rfl) (by kernel_rfl) (fun _ _ _ h => h) (Or.inl ⟨by rfl, ?_⟩) (by assumption) ?_
    rotate_left
    · (intro w' hSw; (try dsimp only at hSw); (try simp only [List.getElem_toArray, List.getElem_cons_succ, List.getElem_cons_zero]); go_simp; try (with_reducible rfl))
    simp only [Act.put, List.getElem_toArray, List.getElem_cons_succ, List.getElem_cons_zero, List.setIfInBounds_toArray, List.set_cons_zero, List.set_cons_succ]
    refine wpAnyG_ready [3, 11] (by kernel_rfl) (by simp) ?_
    refine AllReadyG.cons 3 (by rfl) (fun K hK => ?_) ?_
    · simp only [List.getElem_toArray, List.getElem_cons_succ, List.getElem_cons_zero]
      go_simp
      go_at_call 11
      refine (unhide HWs _).mono ?_
      rintro e wc1 ⟨rfl, hlc1⟩
      have hlc1' := hlc1.symm
      clear hlc1
      subst hlc1'
      refine hK.out _ _ (unhide HSx _ hb0) (fun _ => ?_)
      clear hK K
      try simp only [Act.put, List.setIfInBounds_toArray, List.set_cons_zero, List.set_cons_succ]
      refine wpAnyG_ready [7, 11] (by kernel_rfl) (by simp) ?_
      refine AllReadyG.cons 7 (by rfl) (fun K hK => ?_) ?_
      · simp only [List.getElem_toArray, List.getElem_cons_succ, List.getElem_cons_zero]
        go_simp
        go_at_call 11
        refine (unhide HWt _).mono ?_
        rintro e wc2 ⟨rfl, hlc2⟩
        have hlc2' := hlc2.symm
        clear hlc2
        subst hlc2'
        refine hK.out _ _ (unhide HSx _ hb0) (fun _ => ?_)
        clear hK K
        try simp only [Act.put, List.setIfInBounds_toArray, List.set_cons_zero, List.set_cons_succ]
        refine wpAnyG_ready [8, 11, 15] (by kernel_rfl) (by simp) ?_
        refine AllReadyG.cons 8 (by rfl) (fun K hK => ?_) ?_
        · simp only [List.getElem_toArray, List.getElem_cons_succ, List.getElem_cons_zero]
          go_simp
          refine hK.out _ _ (unhide HSx _ (hb0.alloc hb0.size _)) (fun _ => ?_)
          clear hK K
          try simp only [Act.put, List.setIfInBounds_toArray, List.set_cons_zero, List.set_cons_succ]
          obtain ⟨gA, hgA⟩ : ∃ g, g = W5.heap.size := ⟨_, rfl⟩
          rw [← hgA]
          have hA : (W5.alloc (.cells #[.int .i64 s1, .int .i64 t1] 3)).heap[gA]? = some (.cells #[.int .i64 s1, .int .i64 t1] 3) := by rw [hgA]; exact heap_alloc_new W5 _
          have hba3 : Below W5.heap.size W5 (W5.alloc (.cells #[.int .i64 s1, .int .i64 t1] 3)) := hb0.alloc hb0.size _
          have hxhba3 : Below W5.heap.size W5 (W5.alloc (.cells #[.int .i64 s1, .int .i64 t1] 3)) := (Below.refl _ _).alloc (Nat.le_refl _) _
          clear hxhba3 hgA
          generalize W5.alloc (.cells #[.int .i64 s1, .int .i64 t1] 3) = wa3 at *
          refine wpAnyG_ready [11, 15] (by kernel_rfl) (by simp) ?_
          refine AllReadyG.cons 11 (by rfl) (fun K hK => ?_) ?_
          · simp only [List.getElem_toArray, List.getElem_cons_succ, List.getElem_cons_zero]
            go_simp
            refine hK.out _ _ (unhide HSx _ (hba3.alloc hba3.size _)) (fun _ => ?_)
            clear hK K
            try simp only [Act.put, List.setIfInBounds_toArray, List.set_cons_zero, List.set_cons_succ]
            obtain ⟨gB, hgB⟩ : ∃ g, g = wa3.heap.size := ⟨_, rfl⟩
            rw [← hgB]
            have hB : (wa3.alloc (.cells #[.int .i64 u, .int .i64 v] 3)).heap[gB]? = some (.cells #[.int .i64 u, .int .i64 v] 3) := by rw [hgB]; exact heap_alloc_new wa3 _
            have hba4 : Below W5.heap.size W5 (wa3.alloc (.cells #[.int .i64 u, .int .i64 v] 3)) := hba3.alloc hba3.size _
            have hxhba4 : Below wa3.heap.size wa3 (wa3.alloc (.cells #[.int .i64 u, .int .i64 v] 3)) := (Below.refl _ _).alloc (Nat.le_refl _) _
            replace hA := (hxhba4.block _ (heap_lt hA)).trans hA
            clear hxhba4 hgB
            generalize wa3.alloc (.cells #[.int .i64 u, .int .i64 v] 3) = wa4 at *
            refine wpAnyG_ready [15] (by kernel_rfl) (by simp) ?_
            refine AllReadyG.cons 15 (by rfl) (fun K hK => ?_) ?_
            · simp only [List.getElem_toArray, List.getElem_cons_succ, List.getElem_cons_zero]
              go_simp
              go_at_call 11
              refine (unhide HWs _).mono ?_
              rintro e wc5 ⟨rfl, hlc5⟩
              have hlc5' := hlc5.symm
              clear hlc5
              subst hlc5'
              refine hK.out _ _ (unhide HSx _ hba4) (fun _ => ?_)
              clear hK K
              try simp only [Act.put, List.setIfInBounds_toArray, List.set_cons_zero, List.set_cons_succ]
              refine wpAnyG_ready [17] (by kernel_rfl) (by simp) ?_
              refine AllReadyG.cons 17 (by rfl) (fun K hK => ?_) ?_
              · simp only [List.getElem_toArray, List.getElem_cons_succ, List.getElem_cons_zero]
                go_simp
                refine hK.out _ _ (unhide HSx _ (hba4.alloc hba4.size _)) (fun _ => ?_)
                clear hK K
                try simp only [Act.put, List.setIfInBounds_toArray, List.set_cons_zero, List.set_cons_succ]
                obtain ⟨gC, hgC⟩ : ∃ g, g = wa4.heap.size := ⟨_, rfl⟩
                rw [← hgC]
                have hC : (wa4.alloc (.cells #[.int .i64 s1, .int .i64 v] 3)).heap[gC]? = some (.cells #[.int .i64 s1, .int .i64 v] 3) := by rw [hgC]; exact heap_alloc_new wa4 _
                have hba6 : Below W5.heap.size W5 (wa4.alloc (.cells #[.int .i64 s1, .int .i64 v] 3)) := hba4.alloc hba4.size _
                have hxhba6 : Below wa4.heap.size wa4 (wa4.alloc (.cells #[.int .i64 s1, .int .i64 v] 3)) := (Below.refl _ _).alloc (Nat.le_refl _) _
                replace hA := (hxhba6.block _ (heap_lt hA)).trans hA
                replace hB := (hxhba6.block _ (heap_lt hB)).trans hB
                clear hxhba6 hgC
                generalize wa4.alloc (.cells #[.int .i64 s1, .int .i64 v] 3) = wa6 at *
                refine wpAnyG_ready [18] (by kernel_rfl) (by simp) ?_
                refine AllReadyG.cons 18 (by rfl) (fun K hK => ?_) ?_
                · simp only [List.getElem_toArray, List.getElem_cons_succ, List.getElem_cons_zero]
                  go_simp
                  refine hK.out _ _ (unhide HSx _ (hba6.alloc hba6.size _)) (fun _ => ?_)
                  clear hK K
                  try simp only [Act.put, List.setIfInBounds_toArray, List.set_cons_zero, List.set_cons_succ]
                  obtain ⟨gL, hgL⟩ : ∃ g, g = wa6.heap.size := ⟨_, rfl⟩
                  rw [← hgL]
                  have hL : (wa6.alloc (.cells #[.slice (some ⟨gA, 0, none⟩) 2 2, .slice (some ⟨gB, 0, none⟩) 2 2, .slice (some ⟨gC, 0, none⟩) 2 2] 22)).heap[gL]? = some (.cells #[.slice (some ⟨gA, 0, none⟩) 2 2, .slice (some ⟨gB, 0, none⟩) 2 2, .slice (some ⟨gC, 0, none⟩) 2 2] 22) := by rw [hgL]; exact heap_alloc_new wa6 _
                  have hba7 : Below W5.heap.size W5 (wa6.alloc (.cells #[.slice (some ⟨gA, 0, none⟩) 2 2, .slice (some ⟨gB, 0, none⟩) 2 2, .slice (some ⟨gC, 0, none⟩) 2 2] 22)) := hba6.alloc hba6.size _
                  have hxhba7 : Below wa6.heap.size wa6 (wa6.alloc (.cells #[.slice (some ⟨gA, 0, none⟩) 2 2, .slice (some ⟨gB, 0, none⟩) 2 2, .slice (some ⟨gC, 0, none⟩) 2 2] 22)) := (Below.refl _ _).alloc (Nat.le_refl _) _
                  replace hA := (hxhba7.block _ (heap_lt hA)).trans hA
                  replace hB := (hxhba7.block _ (heap_lt hB)).trans hB
                  replace hC := (hxhba7.block _ (heap_lt hC)).trans hC
                  clear hxhba7 hgL
                  generalize wa6.alloc (.cells #[.slice (some ⟨gA, 0, none⟩) 2 2, .slice (some ⟨gB, 0, none⟩) 2 2, .slice (some ⟨gC, 0, none⟩) 2 2] 22) = wa7 at *
                  refine wpAnyG_take (v := ?_) 19 (by rfl) (by kernel_rfl) (by kernel_rfl) (by kernel_rfl) (by kernel_rfl) (fun _ _ _ h => h) (Or.inl ⟨by rfl, ?_⟩) (by assumption) ?_
                  rotate_left
                  · (intro w' hSw; (try dsimp only at hSw); (try simp only [List.getElem_toArray, List.getElem_cons_succ, List.getElem_cons_zero]); go_simp; try (with_reducible rfl))
                  simp only [Act.put, List.getElem_toArray, List.getElem_cons_succ, List.getElem_cons_zero, List.setIfInBounds_toArray, List.set_cons_zero, List.set_cons_succ]
                  refine wpAnyG_done (by kernel_rfl) ?_ _
                  refine NoPanic.normal ?_
                  clear hHeld
                  go_wp2
                  go_meet
                  exact ⟨gL, rfl, hide ⟨hb0W.trans (hba7.mono (unhide Hs5)), split_rows3 hA hB hC hL⟩⟩
                exact AllReadyG.nil
              exact AllReadyG.nil
            exact AllReadyG.nil
          refine AllReadyG.cons 15 (by rfl) (fun K hK => ?_) ?_
          · simp only [List.getElem_toArray, List.getElem_cons_succ, List.getElem_cons_zero]
            go_simp
            go_at_call 11
            refine (unhide HWs _).mono ?_
            rintro e wc4 ⟨rfl, hlc4⟩
            have hlc4' := hlc4.symm
            clear hlc4
            subst hlc4'
            refine hK.out _ _ (unhide HSx _ hba3) (fun _ => ?_)
            clear hK K
            try simp only [Act.put, List.setIfInBounds_toArray, List.set_cons_zero, List.set_cons_succ]
            refine wpAnyG_ready [11, 17] (by kernel_rfl) (by simp) ?_
            refine AllReadyG.cons 11 (by rfl) (fun K hK => ?_) ?_
            · simp only [List.getElem_toArray, List.getElem_cons_succ, List.getElem_cons_zero]
              go_simp
              refine hK.out _ _ (unhide HSx _ (hba3.alloc hba3.size _)) (fun _ => ?_)
              clear hK K
              try simp only [Act.put, List.setIfInBounds_toArray, List.set_cons_zero, List.set_cons_succ]
              obtain ⟨gB, hgB⟩ : ∃ g, g = wa3.heap.size := ⟨_, rfl⟩
              rw [← hgB]
              have hB : (wa3.alloc (.cells #[.int .i64 u, .int .i64 v] 3)).heap[gB]? = some (.cells #[.int .i64 u, .int .i64 v] 3) := by rw [hgB]; exact heap_alloc_new wa3 _
              have hba5 : Below W5.heap.size W5 (wa3.alloc (.cells #[.int .i64 u, .int .i64 v] 3)) := hba3.alloc hba3.size _
              have hxhba5 : Below wa3.heap.size wa3 (wa3.alloc (.cells #[.int .i64 u, .int .i64 v] 3)) := (Below.refl _ _).alloc (Nat.le_refl _) _
              replace hA := (hxhba5.block _ (heap_lt hA)).trans hA
              clear hxhba5 hgB
              generalize wa3.alloc (.cells #[.int .i64 u, .int .i64 v] 3) = wa5 at *
              refine wpAnyG_ready [17] (by kernel_rfl) (by simp) ?_
              refine AllReadyG.cons 17 (by rfl) (fun K hK => ?_) ?_
              · simp only [List.getElem_toArray, List.getElem_cons_succ, List.getElem_cons_zero]
                go_simp
                refine hK.out _ _ (unhide HSx _ (hba5.alloc hba5.size _)) (fun _ => ?_)
                clear hK K
                try simp only [Act.put, List.setIfInBounds_toArray, List.set_cons_zero, List.set_cons_succ]
                obtain ⟨gC, hgC⟩ : ∃ g, g = wa5.heap.size := ⟨_, rfl⟩
                rw [← hgC]
                have hC : (wa5.alloc (.cells #[.int .i64 s1, .int .i64 v] 3)).heap[gC]? = some (.cells #[.int .i64 s1, .int .i64 v] 3) := by rw [hgC]; exact heap_alloc_new wa5 _
                have hba6 : Below W5.heap.size W5 (wa5.alloc (.cells #[.int .i64 s1, .int .i64 v] 3)) := hba5.alloc hba5.size _
                have hxhba6 : Below wa5.heap.size wa5 (wa5.alloc (.cells #[.int .i64 s1, .int .i64 v] 3)) := (Below.refl _ _).alloc (Nat.le_refl _) _
                replace hA := (hxhba6.block _ (heap_lt hA)).trans hA
                replace hB := (hxhba6.block _ (heap_lt hB)).trans hB
                clear hxhba6 hgC
                generalize wa5.alloc (.cells #[.int .i64 s1, .int .i64 v] 3) = wa6 at *
                refine wpAnyG_ready [18] (by kernel_rfl) (by simp) ?_
                refine AllReadyG.cons 18 (by rfl) (fun K hK => ?_) ?_
                · simp only [List.getElem_toArray, List.getElem_cons_succ, List.getElem_cons_zero]
                  go_simp
                  refine hK.out _ _ (unhide HSx _ (hba6.alloc hba6.size _)) (fun _ => ?_)
                  clear hK K
                  try simp only [Act.put, List.setIfInBounds_toArray, List.set_cons_zero, List.set_cons_succ]
                  obtain ⟨gL, hgL⟩ : ∃ g, g = wa6.heap.size := ⟨_, rfl⟩
                  rw [← hgL]
                  have hL : (wa6.alloc (.cells #[.slice (some ⟨gA, 0, none⟩) 2 2, .slice (some ⟨gB, 0, none⟩) 2 2, .slice (some ⟨gC, 0, none⟩) 2 2] 22)).heap[gL]? = some (.cells #[.slice (some ⟨gA, 0, none⟩) 2 2, .slice (some ⟨gB, 0, none⟩) 2 2, .slice (some ⟨gC, 0, none⟩) 2 2] 22) := by rw [hgL]; exact heap_alloc_new wa6 _
                  have hba7 : Below W5.heap.size W5 (wa6.alloc (.cells #[.slice (some ⟨gA, 0, none⟩) 2 2, .slice (some ⟨gB, 0, none⟩) 2 2, .slice (some ⟨gC, 0, none⟩) 2 2] 22)) := hba6.alloc hba6.size _
                  have hxhba7 : Below wa6.heap.size wa6 (wa6.alloc (.cells #[.slice (some ⟨gA, 0, none⟩) 2 2, .slice (some ⟨gB, 0, none⟩) 2 2, .slice (some ⟨gC, 0, none⟩) 2 2] 22)) := (Below.refl _ _).alloc (Nat.le_refl _) _
                  replace hA := (hxhba7.block _ (heap_lt hA)).trans hA
                  replace hB := (hxhba7.block _ (heap_lt hB)).trans hB
                  replace hC := (hxhba7.block _ (heap_lt hC)).trans hC
                  clear hxhba7 hgL
                  generalize wa6.alloc (.cells #[.slice (some ⟨gA, 0, none⟩) 2 2, .slice (some ⟨gB, 0, none⟩) 2 2, .slice (some ⟨gC, 0, none⟩) 2 2] 22) = wa7 at *
                  refine wpAnyG_take (v := ?_) 19 (by rfl) (by kernel_rfl) (by kernel_rfl) (by kernel_rfl) (by kernel_rfl) (fun _ _ _ h => h) (Or.inl ⟨by rfl, ?_⟩) (by assumption) ?_
                  rotate_left
                  · (intro w' hSw; (try dsimp only at hSw); (try simp only [List.getElem_toArray, List.getElem_cons_succ, List.getElem_cons_zero]); go_simp; try (with_reducible rfl))
                  simp only [Act.put, List.getElem_toArray, List.getElem_cons_succ, List.getElem_cons_zero, List.setIfInBounds_toArray, List.set_cons_zero, List.set_cons_succ]
                  refine wpAnyG_done (by kernel_rfl) ?_ _
                  refine NoPanic.normal ?_
                  clear hHeld
                  go_wp2
                  go_meet
                  exact ⟨gL, rfl, hide ⟨hb0W.trans (hba7.mono (unhide Hs5)), split_rows3 hA hB hC hL⟩⟩
                exact AllReadyG.nil
              exact AllReadyG.nil
            refine AllReadyG.cons 17 (by rfl) (fun K hK => ?_) ?_
            · simp only [List.getElem_toArray, List.getElem_cons_succ, List.getElem_cons_zero]
              go_simp
              refine hK.out _ _ (unhide HSx _ (hba3.alloc hba3.size _)) (fun _ => ?_)
              clear hK K
              try simp only [Act.put, List.setIfInBounds_toArray, List.set_cons_zero, List.set_cons_succ]
              obtain ⟨gC, hgC⟩ : ∃ g, g = wa3.heap.size := ⟨_, rfl⟩
              rw [← hgC]
              have hC : (wa3.alloc (.cells #[.int .i64 s1, .int .i64 v] 3)).heap[gC]? = some (.cells #[.int .i64 s1, .int .i64 v] 3) := by rw [hgC]; exact heap_alloc_new wa3 _
              have hba5 : Below W5.heap.size W5 (wa3.alloc (.cells #[.int .i64 s1, .int .i64 v] 3)) := hba3.alloc hba3.size _
              have hxhba5 : Below wa3.heap.size wa3 (wa3.alloc (.cells #[.int .i64 s1, .int .i64 v] 3)) := (Below.refl _ _).alloc (Nat.le_refl _) _
              replace hA := (hxhba5.block _ (heap_lt hA)).trans hA
              clear hxhba5 hgC
              generalize wa3.alloc (.cells #[.int .i64 s1, .int .i64 v] 3) = wa5 at *
              refine wpAnyG_ready [11] (by kernel_rfl) (by simp) ?_
              refine AllReadyG.cons 11 (by rfl) (fun K hK => ?_) ?_
              · simp only [List.getElem_toArray, List.getElem_cons_succ, List.getElem_cons_zero]
                go_simp
                refine hK.out _ _ (unhide HSx _ (hba5.alloc hba5.size _)) (fun _ => ?_)
                clear hK K
                try simp only [Act.put, List.setIfInBounds_toArray, List.set_cons_zero, List.set_cons_succ]
                obtain ⟨gB, hgB⟩ : ∃ g, g = wa5.heap.size := ⟨_, rfl⟩
                rw [← hgB]
                have hB : (wa5.alloc (.cells #[.int .i64 u, .int .i64 v] 3)).heap[gB]? = some (.cells #[.int .i64 u, .int .i64 v] 3) := by rw [hgB]; exact heap_alloc_new wa5 _
                have hba6 : Below W5.heap.size W5 (wa5.alloc (.cells #[.int .i64 u, .int .i64 v] 3)) := hba5.alloc hba5.size _
                have hxhba6 : Below wa5.heap.size wa5 (wa5.alloc (.cells #[.int .i64 u, .int .i64 v] 3)) := (Below.refl _ _).alloc (Nat.le_refl _) _
                replace hA := (hxhba6.block _ (heap_lt hA)).trans hA
                replace hC := (hxhba6.block _ (heap_lt hC)).trans hC
                clear hxhba6 hgB
                generalize wa5.alloc (.cells #[.int .i64 u, .int .i64 v] 3) = wa6 at *
                refine wpAnyG_ready [18] (by kernel_rfl) (by simp) ?_
                refine AllReadyG.cons 18 (by rfl) (fun K hK => ?_) ?_
                · simp only [List.getElem_toArray, List.getElem_cons_succ, List.getElem_cons_zero]
                  go_simp
                  refine hK.out _ _ (unhide HSx _ (hba6.alloc hba6.size _)) (fun _ => ?_)
                  clear hK K
                  try simp only [Act.put, List.setIfInBounds_toArray, List.set_cons_zero, List.set_cons_succ]
                  obtain ⟨gL, hgL⟩ : ∃ g, g = wa6.heap.size := ⟨_, rfl⟩
                  rw [← hgL]
                  have hL : (wa6.alloc (.cells #[.slice (some ⟨gA, 0, none⟩) 2 2, .slice (some ⟨gB, 0, none⟩) 2 2, .slice (some ⟨gC, 0, none⟩) 2 2] 22)).heap[gL]? = some (.cells #[.slice (some ⟨gA, 0, none⟩) 2 2, .slice (some ⟨gB, 0, none⟩) 2 2, .slice (some ⟨gC, 0, none⟩) 2 2] 22) := by rw [hgL]; exact heap_alloc_new wa6 _
                  have hba7 : Below W5.heap.size W5 (wa6.alloc (.cells #[.slice (some ⟨gA, 0, none⟩) 2 2, .slice (some ⟨gB, 0, none⟩) 2 2, .slice (some ⟨gC, 0, none⟩) 2 2] 22)) := hba6.alloc hba6.size _
                  have hxhba7 : Below wa6.heap.size wa6 (wa6.alloc (.cells #[.slice (some ⟨gA, 0, none⟩) 2 2, .slice (some ⟨gB, 0, none⟩) 2 2, .slice (some ⟨gC, 0, none⟩) 2 2] 22)) := (Below.refl _ _).alloc (Nat.le_refl _) _
                  replace hA := (hxhba7.block _ (heap_lt hA)).trans hA
                  replace hC := (hxhba7.block _ (heap_lt hC)).trans hC
                  replace hB := (hxhba7.block _ (heap_lt hB)).trans hB
                  clear hxhba7 hgL
                  generalize wa6.alloc (.cells #[.slice (some ⟨gA, 0, none⟩) 2 2, .slice (some ⟨gB, 0, none⟩) 2 2, .slice (some ⟨gC, 0, none⟩) 2 2] 22) = wa7 at *
                  refine wpAnyG_take (v := ?_) 19 (by rfl) (by kernel_rfl) (by kernel_rfl) (by kernel_rfl) (by kernel_rfl) (fun _ _ _ h => h) (Or.inl ⟨by rfl, ?_⟩) (by assumption) ?_
                  rotate_left
                  · (intro w' hSw; (try dsimp only at hSw); (try simp only [List.getElem_toArray, List.getElem_cons_succ, List.getElem_cons_zero]); go_simp; try (with_reducible rfl))
                  simp only [Act.put, List.getElem_toArray, List.getElem_cons_succ, List.getElem_cons_zero, List.setIfInBounds_toArray, List.set_cons_zero, List.set_cons_succ]
                  refine wpAnyG_done (by kernel_rfl) ?_ _
                  refine NoPanic.normal ?_
                  clear hHeld
                  go_wp2
                  go_meet
                  exact ⟨gL, rfl, hide ⟨hb0W.trans (hba7.mono (unhide Hs5)), split_rows3 hA hB hC hL⟩⟩
                exact AllReadyG.nil
              exact AllReadyG.nil
            exact AllReadyG.nil
          exact AllReadyG.nil
        refine AllReadyG.cons 11 (by rfl) (fun K hK => ?_) ?_
        · simp only [List.getElem_toArray, List.getElem_cons_succ, List.getElem_cons_zero]
          go_simp
          refine hK.out _ _ (unhide HSx _ (hb0.alloc hb0.size _)) (fun _ => ?_)
          clear hK K
          try simp only [Act.put, List.setIfInBounds_toArray, List.set_cons_zero, List.set_cons_succ]
          obtain ⟨gB, hgB⟩ : ∃ g, g = W5.heap.size := ⟨_, rfl⟩
          rw [← hgB]
          have hB : (W5.alloc (.cells #[.int .i64 u, .int .i64 v] 3)).heap[gB]? = some (.cells #[.int .i64 u, .int .i64 v] 3) := by rw [hgB]; exact heap_alloc_new W5 _
          have hba3 : Below W5.heap.size W5 (W5.alloc (.cells #[.int .i64 u, .int .i64 v] 3)) := hb0.alloc hb0.size _
          have hxhba3 : Below W5.heap.size W5 (W5.alloc (.cells #[.int .i64 u, .int .i64 v] 3)) := (Below.refl _ _).alloc (Nat.le_refl _) _
          clear hxhba3 hgB
          generalize W5.alloc (.cells #[.int .i64 u, .int .i64 v] 3) = wa3 at *
          refine wpAnyG_ready [8, 15] (by kernel_rfl) (by simp) ?_
          refine AllReadyG.cons 8 (by rfl) (fun K hK => ?_) ?_
          · simp only [List.getElem_toArray, List.getElem_cons_succ, List.getElem_cons_zero]
            go_simp
            refine hK.out _ _ (unhide HSx _ (hba3.alloc hba3.size _)) (fun _ => ?_)
            clear hK K
            try simp only [Act.put, List.setIfInBounds_toArray, List.set_cons_zero, List.set_cons_succ]
            obtain ⟨gA, hgA⟩ : ∃ g, g = wa3.heap.size := ⟨_, rfl⟩
            rw [← hgA]
            have hA : (wa3.alloc (.cells #[.int .i64 s1, .int .i64 t1] 3)).heap[gA]? = some (.cells #[.int .i64 s1, .int .i64 t1] 3) := by rw [hgA]; exact heap_alloc_new wa3 _
            have hba4 : Below W5.heap.size W5 (wa3.alloc (.cells #[.int .i64 s1, .int .i64 t1] 3)) := hba3.alloc hba3.size _
            have hxhba4 : Below wa3.heap.size wa3 (wa3.alloc (.cells #[.int .i64 s1, .int .i64 t1] 3)) := (Below.refl _ _).alloc (Nat.le_refl _) _
            replace hB := (hxhba4.block _ (heap_lt hB)).trans hB
            clear hxhba4 hgA
            generalize wa3.alloc (.cells #[.int .i64 s1, .int .i64 t1] 3) = wa4 at *
            refine wpAnyG_ready [15] (by kernel_rfl) (by simp) ?_
            refine AllReadyG.cons 15 (by rfl) (fun K hK => ?_) ?_
            · simp only [List.getElem_toArray, List.getElem_cons_succ, List.getElem_cons_zero]
              go_simp
              go_at_call 11
              refine (unhide HWs _).mono ?_
              rintro e wc5 ⟨rfl, hlc5⟩
              have hlc5' := hlc5.symm
              clear hlc5
              subst hlc5'
              refine hK.out _ _ (unhide HSx _ hba4) (fun _ => ?_)
              clear hK K
              try simp only [Act.put, List.setIfInBounds_toArray, List.set_cons_zero, List.set_cons_succ]
              refine wpAnyG_ready [17] (by kernel_rfl) (by simp) ?_
              refine AllReadyG.cons 17 (by rfl) (fun K hK => ?_) ?_
              · simp only [List.getElem_toArray, List.getElem_cons_succ, List.getElem_cons_zero]
                go_simp
                refine hK.out _ _ (unhide HSx _ (hba4.alloc hba4.size _)) (fun _ => ?_)
                clear hK K
                try simp only [Act.put, List.setIfInBounds_toArray, List.set_cons_zero, List.set_cons_succ]
                obtain ⟨gC, hgC⟩ : ∃ g, g = wa4.heap.size := ⟨_, rfl⟩
                rw [← hgC]
                have hC : (wa4.alloc (.cells #[.int .i64 s1, .int .i64 v] 3)).heap[gC]? = some (.cells #[.int .i64 s1, .int .i64 v] 3) := by rw [hgC]; exact heap_alloc_new wa4 _
                have hba6 : Below W5.heap.size W5 (wa4.alloc (.cells #[.int .i64 s1, .int .i64 v] 3)) := hba4.alloc hba4.size _
                have hxhba6 : Below wa4.heap.size wa4 (wa4.alloc (.cells #[.int .i64 s1, .int .i64 v] 3)) := (Below.refl _ _).alloc (Nat.le_refl _) _
                replace hB := (hxhba6.block _ (heap_lt hB)).trans hB
                replace hA := (hxhba6.block _ (heap_lt hA)).trans hA
                clear hxhba6 hgC
                generalize wa4.alloc (.cells #[.int .i64 s1, .int .i64 v] 3) = wa6 at *
                refine wpAnyG_ready [18] (by kernel_rfl) (by simp) ?_
                refine AllReadyG.cons 18 (by rfl) (fun K hK => ?_) ?_
                · simp only [List.getElem_toArray, List.getElem_cons_succ, List.getElem_cons_zero]
                  go_simp
                  refine hK.out _ _ (unhide HSx _ (hba6.alloc hba6.size _)) (fun _ => ?_)
                  clear hK K
                  try simp only [Act.put, List.setIfInBounds_toArray, List.set_cons_zero, List.set_cons_succ]
                  obtain ⟨gL, hgL⟩ : ∃ g, g = wa6.heap.size := ⟨_, rfl⟩
                  rw [← hgL]
                  have hL : (wa6.alloc (.cells #[.slice (some ⟨gA, 0, none⟩) 2 2, .slice (some ⟨gB, 0, none⟩) 2 2, .slice (some ⟨gC, 0, none⟩) 2 2] 22)).heap[gL]? = some (.cells #[.slice (some ⟨gA, 0, none⟩) 2 2, .slice (some ⟨gB, 0, none⟩) 2 2, .slice (some ⟨gC, 0, none⟩) 2 2] 22) := by rw [hgL]; exact heap_alloc_new wa6 _
                  have hba7 : Below W5.heap.size W5 (wa6.alloc (.cells #[.slice (some ⟨gA, 0, none⟩) 2 2, .slice (some ⟨gB, 0, none⟩) 2 2, .slice (some ⟨gC, 0, none⟩) 2 2] 22)) := hba6.alloc hba6.size _
                  have hxhba7 : Below wa6.heap.size wa6 (wa6.alloc (.cells #[.slice (some ⟨gA, 0, none⟩) 2 2, .slice (some ⟨gB, 0, none⟩) 2 2, .slice (some ⟨gC, 0, none⟩) 2 2] 22)) := (Below.refl _ _).alloc (Nat.le_refl _) _
                  replace hB := (hxhba7.block _ (heap_lt hB)).trans hB
                  replace hA := (hxhba7.block _ (heap_lt hA)).trans hA
                  replace hC := (hxhba7.block _ (heap_lt hC)).trans hC
                  clear hxhba7 hgL
                  generalize wa6.alloc (.cells #[.slice (some ⟨gA, 0, none⟩) 2 2, .slice (some ⟨gB, 0, none⟩) 2 2, .slice (some ⟨gC, 0, none⟩) 2 2] 22) = wa7 at *
                  refine wpAnyG_take (v := ?_) 19 (by rfl) (by kernel_rfl) (by kernel_rfl) (by kernel_rfl) (by kernel_rfl) (fun _ _ _ h => h) (Or.inl ⟨by rfl, ?_⟩) (by assumption) ?_
                  rotate_left
                  · (intro w' hSw; (try dsimp only at hSw); (try simp only [List.getElem_toArray, List.getElem_cons_succ, List.getElem_cons_zero]); go_simp; try (with_reducible rfl))
                  simp only [Act.put, List.getElem_toArray, List.getElem_cons_succ, List.getElem_cons_zero, List.setIfInBounds_toArray, List.set_cons_zero, List.set_cons_succ]
                  refine wpAnyG_done (by kernel_rfl) ?_ _
                  refine NoPanic.normal ?_
                  clear hHeld
                  go_wp2
                  go_meet
                  exact ⟨gL, rfl, hide ⟨hb0W.trans (hba7.mono (unhide Hs5)), split_rows3 hA hB hC hL⟩⟩
                exact AllReadyG.nil
              exact AllReadyG.nil
            exact AllReadyG.nil
          refine AllReadyG.cons 15 (by rfl) (fun K hK => ?_) ?_
          · simp only [List.getElem_toArray, List.getElem_cons_succ, List.getElem_cons_zero]
            go_simp
            go_at_call 11
            refine (unhide HWs _).mono ?_
            rintro e wc4 ⟨rfl, hlc4⟩
            have hlc4' := hlc4.symm
            clear hlc4
            subst hlc4'
            refine hK.out _ _ (unhide HSx _ hba3) (fun _ => ?_)
            clear hK K
            try simp only [Act.put, List.setIfInBounds_toArray, List.set_cons_zero, List.set_cons_succ]
            refine wpAnyG_ready [8, 17] (by kernel_rfl) (by simp) ?_
            refine AllReadyG.cons 8 (by rfl) (fun K hK => ?_) ?_
            · simp only [List.getElem_toArray, List.getElem_cons_succ, List.getElem_cons_zero]
              go_simp
              refine hK.out _ _ (unhide HSx _ (hba3.alloc hba3.size _)) (fun _ => ?_)
              clear hK K
              try simp only [Act.put, List.setIfInBounds_toArray, List.set_cons_zero, List.set_cons_succ]
              obtain ⟨gA, hgA⟩ : ∃ g, g = wa3.heap.size := ⟨_, rfl⟩
              rw [← hgA]
              have hA : (wa3.alloc (.cells #[.int .i64 s1, .int .i64 t1] 3)).heap[gA]? = some (.cells #[.int .i64 s1, .int .i64 t1] 3) := by rw [hgA]; exact heap_alloc_new wa3 _
              have hba5 : Below W5.heap.size W5 (wa3.alloc (.cells #[.int .i64 s1, .int .i64 t1] 3)) := hba3.alloc hba3.size _
              have hxhba5 : Below wa3.heap.size wa3 (wa3.alloc (.cells #[.int .i64 s1, .int .i64 t1] 3)) := (Below.refl _ _).alloc (Nat.le_refl _) _
              replace hB := (hxhba5.block _ (heap_lt hB)).trans hB
              clear hxhba5 hgA
              generalize wa3.alloc (.cells #[.int .i64 s1, .int .i64 t1] 3) = wa5 at *
              refine wpAnyG_ready [17] (by kernel_rfl) (by simp) ?_
              refine AllReadyG.cons 17 (by rfl) (fun K hK => ?_) ?_
              · simp only [List.getElem_toArray, List.getElem_cons_succ, List.getElem_cons_zero]
                go_simp
                refine hK.out _ _ (unhide HSx _ (hba5.alloc hba5.size _)) (fun _ => ?_)
                clear hK K
                try simp only [Act.put, List.setIfInBounds_toArray, List.set_cons_zero, List.set_cons_succ]
                obtain ⟨gC, hgC⟩ : ∃ g, g = wa5.heap.size := ⟨_, rfl⟩
                rw [← hgC]
                have hC : (wa5.alloc (.cells #[.int .i64 s1, .int .i64 v] 3)).heap[gC]? = some (.cells #[.int .i64 s1, .int .i64 v] 3) := by rw [hgC]; exact heap_alloc_new wa5 _
                have hba6 : Below W5.heap.size W5 (wa5.alloc (.cells #[.int .i64 s1, .int .i64 v] 3)) := hba5.alloc hba5.size _
                have hxhba6 : Below wa5.heap.size wa5 (wa5.alloc (.cells #[.int .i64 s1, .int .i64 v] 3)) := (Below.refl _ _).alloc (Nat.le_refl _) _
                replace hB := (hxhba6.block _ (heap_lt hB)).trans hB
                replace hA := (hxhba6.block _ (heap_lt hA)).trans hA
                clear hxhba6 hgC
                generalize wa5.alloc (.cells #[.int .i64 s1, .int .i64 v] 3) = wa6 at *
                refine wpAnyG_ready [18] (by kernel_rfl) (by simp) ?_
                refine AllReadyG.cons 18 (by rfl) (fun K hK => ?_) ?_
                · simp only [List.getElem_toArray, List.getElem_cons_succ, List.getElem_cons_zero]
                  go_simp
                  refine hK.out _ _ (unhide HSx _ (hba6.alloc hba6.size _)) (fun _ => ?_)
                  clear hK K
                  try simp only [Act.put, List.setIfInBounds_toArray, List.set_cons_zero, List.set_cons_succ]
                  obtain ⟨gL, hgL⟩ : ∃ g, g = wa6.heap.size := ⟨_, rfl⟩
                  rw [← hgL]
                  have hL : (wa6.alloc (.cells #[.slice (some ⟨gA, 0, none⟩) 2 2, .slice (some ⟨gB, 0, none⟩) 2 2, .slice (some ⟨gC, 0, none⟩) 2 2] 22)).heap[gL]? = some (.cells #[.slice (some ⟨gA, 0, none⟩) 2 2, .slice (some ⟨gB, 0, none⟩) 2 2, .slice (some ⟨gC, 0, none⟩) 2 2] 22) := by rw [hgL]; exact heap_alloc_new wa6 _
                  have hba7 : Below W5.heap.size W5 (wa6.alloc (.cells #[.slice (some ⟨gA, 0, none⟩) 2 2, .slice (some ⟨gB, 0, none⟩) 2 2, .slice (some ⟨gC, 0, none⟩) 2 2] 22)) := hba6.alloc hba6.size _
                  have hxhba7 : Below wa6.heap.size wa6 (wa6.alloc (.cells #[.slice (some ⟨gA, 0, none⟩) 2 2, .slice (some ⟨gB, 0, none⟩) 2 2, .slice (some ⟨gC, 0, none⟩) 2 2] 22)) := (Below.refl _ _).alloc (Nat.le_refl _) _
                  replace hB := (hxhba7.block _ (heap_lt hB)).trans hB
                  replace hA := (hxhba7.block _ (heap_lt hA)).trans hA
                  replace hC := (hxhba7.block _ (heap_lt hC)).trans hC
                  clear hxhba7 hgL
                  generalize wa6.alloc (.cells #[.slice (some ⟨gA, 0, none⟩) 2 2, .slice (some ⟨gB, 0, none⟩) 2 2, .slice (some ⟨gC, 0, none⟩) 2 2] 22) = wa7 at *
                  refine wpAnyG_take (v := ?_) 19 (by rfl) (by kernel_rfl) (by kernel_rfl) (by kernel_rfl) (by kernel_rfl) (fun _ _ _ h => h) (Or.inl ⟨by rfl, ?_⟩) (by assumption) ?_
                  rotate_left
                  · (intro w' hSw; (try dsimp only at hSw); (try simp only [List.getElem_toArray, List.getElem_cons_succ, List.getElem_cons_zero]); go_simp; try (with_reducible rfl))
                  simp only [Act.put, List.getElem_toArray, List.getElem_cons_succ, List.getElem_cons_zero, List.setIfInBounds_toArray, List.set_cons_zero, List.set_cons_succ]
                  refine wpAnyG_done (by kernel_rfl) ?_ _
                  refine NoPanic.normal ?_
                  clear hHeld
                  go_wp2
                  go_meet
                  exact ⟨gL, rfl, hide ⟨hb0W.trans (hba7.mono (unhide Hs5)), split_rows3 hA hB hC hL⟩⟩
                exact AllReadyG.nil
              exact AllReadyG.nil
            refine AllReadyG.cons 17 (by rfl) (fun K hK => ?_) ?_
            · simp only [List.getElem_toArray, List.getElem_cons_succ, List.getElem_cons_zero]
              go_simp
              refine hK.out _ _ (unhide HSx _ (hba3.alloc hba3.size _)) (fun _ => ?_)
              clear hK K
              try simp only [Act.put, List.setIfInBounds_toArray, List.set_cons_zero, List.set_cons_succ]
              obtain ⟨gC, hgC⟩ : ∃ g, g = wa3.heap.size := ⟨_, rfl⟩
              rw [← hgC]
              have hC : (wa3.alloc (.cells #[.int .i64 s1, .int .i64 v] 3)).heap[gC]? = some (.cells #[.int .i64 s1, .int .i64 v] 3) := by rw [hgC]; exact heap_alloc_new wa3 _
              have hba5 : Below W5.heap.size W5 (wa3.alloc (.cells #[.int .i64 s1, .int .i64 v] 3)) := hba3.alloc hba3.size _
              have hxhba5 : Below wa3.heap.size wa3 (wa3.alloc (.cells #[.int .i64 s1, .int .i64 v] 3)) := (Below.refl _ _).alloc (Nat.le_refl _) _
              replace hB := (hxhba5.block _ (heap_lt hB)).trans hB
              clear hxhba5 hgC
              generalize wa3.alloc (.cells #[.int .i64 s1, .int .i64 v] 3) = wa5 at *
              refine wpAnyG_ready [8] (by kernel_rfl) (by simp) ?_
              refine AllReadyG.cons 8 (by rfl) (fun K hK => ?_) ?_
              · simp only [List.getElem_toArray, List.getElem_cons_succ, List.getElem_cons_zero]
                go_simp
                refine hK.out _ _ (unhide HSx _ (hba5.alloc hba5.size _)) (fun _ => ?_)
                clear hK K
                try simp only [Act.put, List.setIfInBounds_toArray, List.set_cons_zero, List.set_cons_succ]
                obtain ⟨gA, hgA⟩ : ∃ g, g = wa5.heap.size := ⟨_, rfl⟩
                rw [← hgA]
                have hA : (wa5.alloc (.cells #[.int .i64 s1, .int .i64 t1] 3)).heap[gA]? = some (.cells #[.int .i64 s1, .int .i64 t1] 3) := by rw [hgA]; exact heap_alloc_new wa5 _
                have hba6 : Below W5.heap.size W5 (wa5.alloc (.cells #[.int .i64 s1, .int .i64 t1] 3)) := hba5.alloc hba5.size _
                have hxhba6 : Below wa5.heap.size wa5 (wa5.alloc (.cells #[.int .i64 s1, .int .i64 t1] 3)) := (Below.refl _ _).alloc (Nat.le_refl _) _
                replace hB := (hxhba6.block _ (heap_lt hB)).trans hB
                replace hC := (hxhba6.block _ (heap_lt hC)).trans hC
                clear hxhba6 hgA
                generalize wa5.alloc (.cells #[.int .i64 s1, .int .i64 t1] 3) = wa6 at *
                refine wpAnyG_ready [18] (by kernel_rfl) (by simp) ?_
                refine AllReadyG.cons 18 (by rfl) (fun K hK => ?_) ?_
                · simp only [List.getElem_toArray, List.getElem_cons_succ, List.getElem_cons_zero]
                  go_simp
                  refine hK.out _ _ (unhide HSx _ (hba6.alloc hba6.size _)) (fun _ => ?_)
                  clear hK K
                  try simp only [Act.put, List.setIfInBounds_toArray, List.set_cons_zero, List.set_cons_succ]
                  obtain ⟨gL, hgL⟩ : ∃ g, g = wa6.heap.size := ⟨_, rfl⟩
                  rw [← hgL]
                  have hL : (wa6.alloc (.cells #[.slice (some ⟨gA, 0, none⟩) 2 2, .slice (some ⟨gB, 0, none⟩) 2 2, .slice (some ⟨gC, 0, none⟩) 2 2] 22)).heap[gL]? = some (.cells #[.slice (some ⟨gA, 0, none⟩) 2 2, .slice (some ⟨gB, 0, none⟩) 2 2, .slice (some ⟨gC, 0, none⟩) 2 2] 22) := by rw [hgL]; exact heap_alloc_new wa6 _
                  have hba7 : Below W5.heap.size W5 (wa6.alloc (.cells #[.slice (some ⟨gA, 0, none⟩) 2 2, .slice (some ⟨gB, 0, none⟩) 2 2, .slice (some ⟨gC, 0, none⟩) 2 2] 22)) := hba6.alloc hba6.size _
                  have hxhba7 : Below wa6.heap.size wa6 (wa6.alloc (.cells #[.slice (some ⟨gA, 0, none⟩) 2 2, .slice (some ⟨gB, 0, none⟩) 2 2, .slice (some ⟨gC, 0, none⟩) 2 2] 22)) := (Below.refl _ _).alloc (Nat.le_refl _) _
                  replace hB := (hxhba7.block _ (heap_lt hB)).trans hB
                  replace hC := (hxhba7.block _ (heap_lt hC)).trans hC
                  replace hA := (hxhba7.block _ (heap_lt hA)).trans hA
                  clear hxhba7 hgL
                  generalize wa6.alloc (.cells #[.slice (some ⟨gA, 0, none⟩) 2 2, .slice (some ⟨gB, 0, none⟩) 2 2, .slice (some ⟨gC, 0, none⟩) 2 2] 22) = wa7 at *
                  refine wpAnyG_take (v := ?_) 19 (by rfl) (by kernel_rfl) (by kernel_rfl) (by kernel_rfl) (by kernel_rfl) (fun _ _ _ h => h) (Or.inl ⟨by rfl, ?_⟩) (by assumption) ?_
                  rotate_left
                  · (intro w' hSw; (try dsimp only at hSw); (try simp only [List.getElem_toArray, List.getElem_cons_succ, List.getElem_cons_zero]); go_simp; try (with_reducible rfl))
                  simp only [Act.put, List.getElem_toArray, List.getElem_cons_succ, List.getElem_cons_zero, List.setIfInBounds_toArray, List.set_cons_zero, List.set_cons_succ]
                  refine wpAnyG_done (by kernel_rfl) ?_ _
                  refine NoPanic.normal ?_
                  clear hHeld
                  go_wp2
                  go_meet
                  exact ⟨gL, rfl, hide ⟨hb0W.trans (hba7.mono (unhide Hs5)), split_rows3 hA hB hC hL⟩⟩
                exact AllReadyG.nil
              exact AllReadyG.nil
            exact AllReadyG.nil
          exact AllReadyG.nil
        refine AllReadyG.cons 15 (by rfl) (fun K hK => ?_) ?_
        · simp only [List.getElem_toArray, List.getElem_cons_succ, List.getElem_cons_zero]
          go_simp
          go_at_call 11
          refine (unhide HWs _).mono ?_
          rintro e wc3 ⟨rfl, hlc3⟩
          have hlc3' := hlc3.symm
          clear hlc3
          subst hlc3'
          refine hK.out _ _ (unhide HSx _ hb0) (fun _ => ?_)
          clear hK K
          try simp only [Act.put, List.setIfInBounds_toArray, List.set_cons_zero, List.set_cons_succ]
          refine wpAnyG_ready [8, 11, 17] (by kernel_rfl) (by simp) ?_
          refine AllReadyG.cons 8 (by rfl) (fun K hK => ?_) ?_
          · simp only [List.getElem_toArray, List.getElem_cons_succ, List.getElem_cons_zero]
            go_simp
            refine hK.out _ _ (unhide HSx _ (hb0.alloc hb0.size _)) (fun _ => ?_)
            clear hK K
            try simp only [Act.put, List.setIfInBounds_toArray, List.set_cons_zero, List.set_cons_succ]
            obtain ⟨gA, hgA⟩ : ∃ g, g = W5.heap.size := ⟨_, rfl⟩
            rw [← hgA]
            have hA : (W5.alloc (.cells #[.int .i64 s1, .int .i64 t1] 3)).heap[gA]? = some (.cells #[.int .i64 s1, .int .i64 t1] 3) := by rw [hgA]; exact heap_alloc_new W5 _
            have hba4 : Below W5.heap.size W5 (W5.alloc (.cells #[.int .i64 s1, .int .i64 t1] 3)) := hb0.alloc hb0.size _
            have hxhba4 : Below W5.heap.size W5 (W5.alloc (.cells #[.int .i64 s1, .int .i64 t1] 3)) := (Below.refl _ _).alloc (Nat.le_refl _) _
            clear hxhba4 hgA
            generalize W5.alloc (.cells #[.int .i64 s1, .int .i64 t1] 3) = wa4 at *
            refine wpAnyG_ready [11, 17] (by kernel_rfl) (by simp) ?_
            refine AllReadyG.cons 11 (by rfl) (fun K hK => ?_) ?_
            · simp only [List.getElem_toArray, List.getElem_cons_succ, List.getElem_cons_zero]
              go_simp
              refine hK.out _ _ (unhide HSx _ (hba4.alloc hba4.size _)) (fun _ => ?_)
              clear hK K
              try simp only [Act.put, List.setIfInBounds_toArray, List.set_cons_zero, List.set_cons_succ]
              obtain ⟨gB, hgB⟩ : ∃ g, g = wa4.heap.size := ⟨_, rfl⟩
              rw [← hgB]
              have hB : (wa4.alloc (.cells #[.int .i64 u, .int .i64 v] 3)).heap[gB]? = some (.cells #[.int .i64 u, .int .i64 v] 3) := by rw [hgB]; exact heap_alloc_new wa4 _
              have hba5 : Below W5.heap.size W5 (wa4.alloc (.cells #[.int .i64 u, .int .i64 v] 3)) := hba4.alloc hba4.size _
              have hxhba5 : Below wa4.heap.size wa4 (wa4.alloc (.cells #[.int .i64 u, .int .i64 v] 3)) := (Below.refl _ _).alloc (Nat.le_refl _) _
              replace hA := (hxhba5.block _ (heap_lt hA)).trans hA
              clear hxhba5 hgB
              generalize wa4.alloc (.cells #[.int .i64 u, .int .i64 v] 3) = wa5 at *
              refine wpAnyG_ready [17] (by kernel_rfl) (by simp) ?_
              refine AllReadyG.cons 17 (by rfl) (fun K hK => ?_) ?_
              · simp only [List.getElem_toArray, List.getElem_cons_succ, List.getElem_cons_zero]
                go_simp
                refine hK.out _ _ (unhide HSx _ (hba5.alloc hba5.size _)) (fun _ => ?_)
                clear hK K
                try simp only [Act.put, List.setIfInBounds_toArray, List.set_cons_zero, List.set_cons_succ]
                obtain ⟨gC, hgC⟩ : ∃ g, g = wa5.heap.size := ⟨_, rfl⟩
                rw [← hgC]
                have hC : (wa5.alloc (.cells #[.int .i64 s1, .int .i64 v] 3)).heap[gC]? = some (.cells #[.int .i64 s1, .int .i64 v] 3) := by rw [hgC]; exact heap_alloc_new wa5 _
                have hba6 : Below W5.heap.size W5 (wa5.alloc (.cells #[.int .i64 s1, .int .i64 v] 3)) := hba5.alloc hba5.size _
                have hxhba6 : Below wa5.heap.size wa5 (wa5.alloc (.cells #[.int .i64 s1, .int .i64 v] 3)) := (Below.refl _ _).alloc (Nat.le_refl _) _
                replace hA := (hxhba6.block _ (heap_lt hA)).trans hA
                replace hB := (hxhba6.block _ (heap_lt hB)).trans hB
                clear hxhba6 hgC
                generalize wa5.alloc (.cells #[.int .i64 s1, .int .i64 v] 3) = wa6 at *
                refine wpAnyG_ready [18] (by kernel_rfl) (by simp) ?_
                refine AllReadyG.cons 18 (by rfl) (fun K hK => ?_) ?_
                · simp only [List.getElem_toArray, List.getElem_cons_succ, List.getElem_cons_zero]
                  go_simp
                  refine hK.out _ _ (unhide HSx _ (hba6.alloc hba6.size _)) (fun _ => ?_)
                  clear hK K
                  try simp only [Act.put, List.setIfInBounds_toArray, List.set_cons_zero, List.set_cons_succ]
                  obtain ⟨gL, hgL⟩ : ∃ g, g = wa6.heap.size := ⟨_, rfl⟩
                  rw [← hgL]
                  have hL : (wa6.alloc (.cells #[.slice (some ⟨gA, 0, none⟩) 2 2, .slice (some ⟨gB, 0, none⟩) 2 2, .slice (some ⟨gC, 0, none⟩) 2 2] 22)).heap[gL]? = some (.cells #[.slice (some ⟨gA, 0, none⟩) 2 2, .slice (some ⟨gB, 0, none⟩) 2 2, .slice (some ⟨gC, 0, none⟩) 2 2] 22) := by rw [hgL]; exact heap_alloc_new wa6 _
                  have hba7 : Below W5.heap.size W5 (wa6.alloc (.cells #[.slice (some ⟨gA, 0, none⟩) 2 2, .slice (some ⟨gB, 0, none⟩) 2 2, .slice (some ⟨gC, 0, none⟩) 2 2] 22)) := hba6.alloc hba6.size _
                  have hxhba7 : Below wa6.heap.size wa6 (wa6.alloc (.cells #[.slice (some ⟨gA, 0, none⟩) 2 2, .slice (some ⟨gB, 0, none⟩) 2 2, .slice (some ⟨gC, 0, none⟩) 2 2] 22)) := (Below.refl _ _).alloc (Nat.le_refl _) _
                  replace hA := (hxhba7.block _ (heap_lt hA)).trans hA
                  replace hB := (hxhba7.block _ (heap_lt hB)).trans hB
                  replace hC := (hxhba7.block _ (heap_lt hC)).trans hC
                  clear hxhba7 hgL
                  generalize wa6.alloc (.cells #[.slice (some ⟨gA, 0, none⟩) 2 2, .slice (some ⟨gB, 0, none⟩) 2 2, .slice (some ⟨gC, 0, none⟩) 2 2] 22) = wa7 at *
                  refine wpAnyG_take (v := ?_) 19 (by rfl) (by kernel_rfl) (by kernel_rfl) (by kernel_rfl) (by kernel_rfl) (fun _ _ _ h => h) (Or.inl ⟨by rfl, ?_⟩) (by assumption) ?_
                  rotate_left
                  · (intro w' hSw; (try dsimp only at hSw); (try simp only [List.getElem_toArray, List.getElem_cons_succ, List.getElem_cons_zero]); go_simp; try (with_reducible rfl))
                  simp only [Act.put, List.getElem_toArray, List.getElem_cons_succ, List.getElem_cons_zero, List.setIfInBounds_toArray, List.set_cons_zero, List.set_cons_succ]
                  refine wpAnyG_done (by kernel_rfl) ?_ _
                  refine NoPanic.normal ?_
                  clear hHeld
                  go_wp2
                  go_meet
                  exact ⟨gL, rfl, hide ⟨hb0W.trans (hba7.mono (unhide Hs5)), split_rows3 hA hB hC hL⟩⟩
                exact AllReadyG.nil
              exact AllReadyG.nil
            refine AllReadyG.cons 17 (by rfl) (fun K hK => ?_) ?_
            · simp only [List.getElem_toArray, List.getElem_cons_succ, List.getElem_cons_zero]
              go_simp
              refine hK.out _ _ (unhide HSx _ (hba4.alloc hba4.size _)) (fun _ => ?_)
              clear hK K
              try simp only [Act.put, List.setIfInBounds_toArray, List.set_cons_zero, List.set_cons_succ]
              obtain ⟨gC, hgC⟩ : ∃ g, g = wa4.heap.size := ⟨_, rfl⟩
              rw [← hgC]
              have hC : (wa4.alloc (.cells #[.int .i64 s1, .int .i64 v] 3)).heap[gC]? = some (.cells #[.int .i64 s1, .int .i64 v] 3) := by rw [hgC]; exact heap_alloc_new wa4 _
              have hba5 : Below W5.heap.size W5 (wa4.alloc (.cells #[.int .i64 s1, .int .i64 v] 3)) := hba4.alloc hba4.size _
              have hxhba5 : Below wa4.heap.size wa4 (wa4.alloc (.cells #[.int .i64 s1, .int .i64 v] 3)) := (Below.refl _ _).alloc (Nat.le_refl _) _
              replace hA := (hxhba5.block _ (heap_lt hA)).trans hA
              clear hxhba5 hgC
              generalize wa4.alloc (.cells #[.int .i64 s1, .int .i64 v] 3) = wa5 at *
              refine wpAnyG_ready [11] (by kernel_rfl) (by simp) ?_
              refine AllReadyG.cons 11 (by rfl) (fun K hK => ?_) ?_
              · simp only [List.getElem_toArray, List.getElem_cons_succ, List.getElem_cons_zero]
                go_simp
                refine hK.out _ _ (unhide HSx _ (hba5.alloc hba5.size _)) (fun _ => ?_)
                clear hK K
                try simp only [Act.put, List.setIfInBounds_toArray, List.set_cons_zero, List.set_cons_succ]
                obtain ⟨gB, hgB⟩ : ∃ g, g = wa5.heap.size := ⟨_, rfl⟩
                rw [← hgB]
                have hB : (wa5.alloc (.cells #[.int .i64 u, .int .i64 v] 3)).heap[gB]? = some (.cells #[.int .i64 u, .int .i64 v] 3) := by rw [hgB]; exact heap_alloc_new wa5 _
                have hba6 : Below W5.heap.size W5 (wa5.alloc (.cells #[.int .i64 u, .int .i64 v] 3)) := hba5.alloc hba5.size _
                have hxhba6 : Below wa5.heap.size wa5 (wa5.alloc (.cells #[.int .i64 u, .int .i64 v] 3)) := (Below.refl _ _).alloc (Nat.le_refl _) _
                replace hA := (hxhba6.block _ (heap_lt hA)).trans hA
                replace hC := (hxhba6.block _ (heap_lt hC)).trans hC
                clear hxhba6 hgB
                generalize wa5.alloc (.cells #[.int .i64 u, .int .i64 v] 3) = wa6 at *
                refine wpAnyG_ready [18] (by kernel_rfl) (by simp) ?_
                refine AllReadyG.cons 18 (by rfl) (fun K hK => ?_) ?_
                · simp only [List.getElem_toArray, List.getElem_cons_succ, List.getElem_cons_zero]
                  go_simp
                  refine hK.out _ _ (unhide HSx _ (hba6.alloc hba6.size _)) (fun _ => ?_)
                  clear hK K
                  try simp only [Act.put, List.setIfInBounds_toArray, List.set_cons_zero, List.set_cons_succ]
                  obtain ⟨gL, hgL⟩ : ∃ g, g = wa6.heap.size := ⟨_, rfl⟩
                  rw [← hgL]
                  have hL : (wa6.alloc (.cells #[.slice (some ⟨gA, 0, none⟩) 2 2, .slice (some ⟨gB, 0, none⟩) 2 2, .slice (some ⟨gC, 0, none⟩) 2 2] 22)).heap[gL]? = some (.cells #[.slice (some ⟨gA, 0, none⟩) 2 2, .slice (some ⟨gB, 0, none⟩) 2 2, .slice (some ⟨gC, 0, none⟩) 2 2] 22) := by rw [hgL]; exact heap_alloc_new wa6 _
                  have hba7 : Below W5.heap.size W5 (wa6.alloc (.cells #[.slice (some ⟨gA, 0, none⟩) 2 2, .slice (some ⟨gB, 0, none⟩) 2 2, .slice (some ⟨gC, 0, none⟩) 2 2] 22)) := hba6.alloc hba6.size _
                  have hxhba7 : Below wa6.heap.size wa6 (wa6.alloc (.cells #[.slice (some ⟨gA, 0, none⟩) 2 2, .slice (some ⟨gB, 0, none⟩) 2 2, .slice (some ⟨gC, 0, none⟩) 2 2] 22)) := (Below.refl _ _).alloc (Nat.le_refl _) _
                  replace hA := (hxhba7.block _ (heap_lt hA)).trans hA
                  replace hC := (hxhba7.block _ (heap_lt hC)).trans hC
                  replace hB := (hxhba7.block _ (heap_lt hB)).trans hB
                  clear hxhba7 hgL
                  generalize wa6.alloc (.cells #[.slice (some ⟨gA, 0, none⟩) 2 2, .slice (some ⟨gB, 0, none⟩) 2 2, .slice (some ⟨gC, 0, none⟩) 2 2] 22) = wa7 at *
                  refine wpAnyG_take (v := ?_) 19 (by rfl) (by kernel_rfl) (by kernel_rfl) (by kernel_rfl) (by kernel_rfl) (fun _ _ _ h => h) (Or.inl ⟨by rfl, ?_⟩) (by assumption) ?_
                  rotate_left
                  · (intro w' hSw; (try dsimp only at hSw); (try simp only [List.getElem_toArray, List.getElem_cons_succ, List.getElem_cons_zero]); go_simp; try (with_reducible rfl))
                  simp only [Act.put, List.getElem_toArray, List.getElem_cons_succ, List.getElem_cons_zero, List.setIfInBounds_toArray, List.set_cons_zero, List.set_cons_succ]
                  refine wpAnyG_done (by kernel_rfl) ?_ _
                  refine NoPanic.normal ?_
                  clear hHeld
                  go_wp2
                  go_meet
                  exact ⟨gL, rfl, hide ⟨hb0W.trans (hba7.mono (unhide Hs5)), split_rows3 hA hB hC hL⟩⟩
                exact AllReadyG.nil
              exact AllReadyG.nil
            exact AllReadyG.nil
          refine AllReadyG.cons 11 (by rfl) (fun K hK => ?_) ?_
          · simp only [List.getElem_toArray, List.getElem_cons_succ, List.getElem_cons_zero]
            go_simp
            refine hK.out _ _ (unhide HSx _ (hb0.alloc hb0.size _)) (fun _ => ?_)
            clear hK K
            try simp only [Act.put, List.setIfInBounds_toArray, List.set_cons_zero, List.set_cons_succ]
            obtain ⟨gB, hgB⟩ : ∃ g, g = W5.heap.size := ⟨_, rfl⟩
            rw [← hgB]
            have hB : (W5.alloc (.cells #[.int .i64 u, .int .i64 v] 3)).heap[gB]? = some (.cells #[.int .i64 u, .int .i64 v] 3) := by rw [hgB]; exact heap_alloc_new W5 _
            have hba4 : Below W5.heap.size W5 (W5.alloc (.cells #[.int .i64 u, .int .i64 v] 3)) := hb0.alloc hb0.size _
            have hxhba4 : Below W5.heap.size W5 (W5.alloc (.cells #[.int .i64 u, .int .i64 v] 3)) := (Below.refl _ _).alloc (Nat.le_refl _) _
            clear hxhba4 hgB
            generalize W5.alloc (.cells #[.int .i64 u, .int .i64 v] 3) = wa4 at *
            refine wpAnyG_ready [8, 17] (by kernel_rfl) (by simp) ?_
            refine AllReadyG.cons 8 (by rfl) (fun K hK => ?_) ?_
            · simp only [List.getElem_toArray, List.getElem_cons_succ, List.getElem_cons_zero]
              go_simp
              refine hK.out _ _ (unhide HSx _ (hba4.alloc hba4.size _)) (fun _ => ?_)
              clear hK K
              try simp only [Act.put, List.setIfInBounds_toArray, List.set_cons_zero, List.set_cons_succ]
              obtain ⟨gA, hgA⟩ : ∃ g, g = wa4.heap.size := ⟨_, rfl⟩
              rw [← hgA]
              have hA : (wa4.alloc (.cells #[.int .i64 s1, .int .i64 t1] 3)).heap[gA]? = some (.cells #[.int .i64 s1, .int .i64 t1] 3) := by rw [hgA]; exact heap_alloc_new wa4 _
              have hba5 : Below W5.heap.size W5 (wa4.alloc (.cells #[.int .i64 s1, .int .i64 t1] 3)) := hba4.alloc hba4.size _
              have hxhba5 : Below wa4.heap.size wa4 (wa4.alloc (.cells #[.int .i64 s1, .int .i64 t1] 3)) := (Below.refl _ _).alloc (Nat.le_refl _) _
              replace hB := (hxhba5.block _ (heap_lt hB)).trans hB
              clear hxhba5 hgA
              generalize wa4.alloc (.cells #[.int .i64 s1, .int .i64 t1] 3) = wa5 at *
              refine wpAnyG_ready [17] (by kernel_rfl) (by simp) ?_
              refine AllReadyG.cons 17 (by rfl) (fun K hK => ?_) ?_
              · simp only [List.getElem_toArray, List.getElem_cons_succ, List.getElem_cons_zero]
                go_simp
                refine hK.out _ _ (unhide HSx _ (hba5.alloc hba5.size _)) (fun _ => ?_)
                clear hK K
                try simp only [Act.put, List.setIfInBounds_toArray, List.set_cons_zero, List.set_cons_succ]
                obtain ⟨gC, hgC⟩ : ∃ g, g = wa5.heap.size := ⟨_, rfl⟩
                rw [← hgC]
                have hC : (wa5.alloc (.cells #[.int .i64 s1, .int .i64 v] 3)).heap[gC]? = some (.cells #[.int .i64 s1, .int .i64 v] 3) := by rw [hgC]; exact heap_alloc_new wa5 _
                have hba6 : Below W5.heap.size W5 (wa5.alloc (.cells #[.int .i64 s1, .int .i64 v] 3)) := hba5.alloc hba5.size _
                have hxhba6 : Below wa5.heap.size wa5 (wa5.alloc (.cells #[.int .i64 s1, .int .i64 v] 3)) := (Below.refl _ _).alloc (Nat.le_refl _) _
                replace hB := (hxhba6.block _ (heap_lt hB)).trans hB
                replace hA := (hxhba6.block _ (heap_lt hA)).trans hA
                clear hxhba6 hgC
                generalize wa5.alloc (.cells #[.int .i64 s1, .int .i64 v] 3) = wa6 at *
                refine wpAnyG_ready [18] (by kernel_rfl) (by simp) ?_
                refine AllReadyG.cons 18 (by rfl) (fun K hK => ?_) ?_
                · simp only [List.getElem_toArray, List.getElem_cons_succ, List.getElem_cons_zero]
                  go_simp
                  refine hK.out _ _ (unhide HSx _ (hba6.alloc hba6.size _)) (fun _ => ?_)
                  clear hK K
                  try simp only [Act.put, List.setIfInBounds_toArray, List.set_cons_zero, List.set_cons_succ]
                  obtain ⟨gL, hgL⟩ : ∃ g, g = wa6.heap.size := ⟨_, rfl⟩
                  rw [← hgL]
                  have hL : (wa6.alloc (.cells #[.slice (some ⟨gA, 0, none⟩) 2 2, .slice (some ⟨gB, 0, none⟩) 2 2, .slice (some ⟨gC, 0, none⟩) 2 2] 22)).heap[gL]? = some (.cells #[.slice (some ⟨gA, 0, none⟩) 2 2, .slice (some ⟨gB, 0, none⟩) 2 2, .slice (some ⟨gC, 0, none⟩) 2 2] 22) := by rw [hgL]; exact heap_alloc_new wa6 _
                  have hba7 : Below W5.heap.size W5 (wa6.alloc (.cells #[.slice (some ⟨gA, 0, none⟩) 2 2, .slice (some ⟨gB, 0, none⟩) 2 2, .slice (some ⟨gC, 0, none⟩) 2 2] 22)) := hba6.alloc hba6.size _
                  have hxhba7 : Below wa6.heap.size wa6 (wa6.alloc (.cells #[.slice (some ⟨gA, 0, none⟩) 2 2, .slice (some ⟨gB, 0, none⟩) 2 2, .slice (some ⟨gC, 0, none⟩) 2 2] 22)) := (Below.refl _ _).alloc (Nat.le_refl _) _
                  replace hB := (hxhba7.block _ (heap_lt hB)).trans hB
                  replace hA := (hxhba7.block _ (heap_lt hA)).trans hA
                  replace hC := (hxhba7.block _ (heap_lt hC)).trans hC
                  clear hxhba7 hgL
                  generalize wa6.alloc (.cells #[.slice (some ⟨gA, 0, none⟩) 2 2, .slice (some ⟨gB, 0, none⟩) 2 2, .slice (some ⟨gC, 0, none⟩) 2 2] 22) = wa7 at *
                  refine wpAnyG_take (v := ?_) 19 (by rfl) (by kernel_rfl) (by kernel_rfl) (by kernel_rfl) (by kernel_rfl) (fun _ _ _ h => h) (Or.inl ⟨by rfl, ?_⟩) (by assumption) ?_
                  rotate_left
                  · (intro w' hSw; (try dsimp only at hSw); (try simp only [List.getElem_toArray, List.getElem_cons_succ, List.getElem_cons_zero]); go_simp; try (with_reducible rfl))
                  simp only [Act.put, List.getElem_toArray, List.getElem_cons_succ, List.getElem_cons_zero, List.setIfInBounds_toArray, List.set_cons_zero, List.set_cons_succ]
                  refine wpAnyG_done (by kernel_rfl) ?_ _
                  refine NoPanic.normal ?_
                  clear hHeld
                  go_wp2
                  go_meet
                  exact ⟨gL, rfl, hide ⟨hb0W.trans (hba7.mono (unhide Hs5)), split_rows3 hA hB hC hL⟩⟩
                exact AllReadyG.nil
              exact AllReadyG.nil
            refine AllReadyG.cons 17 (by rfl) (fun K hK => ?_) ?_
            · simp only [List.getElem_toArray, List.getElem_cons_succ, List.getElem_cons_zero]
              go_simp
              refine hK.out _ _ (unhide HSx _ (hba4.alloc hba4.size _)) (fun _ => ?_)
              clear hK K
              try simp only [Act.put, List.setIfInBounds_toArray, List.set_cons_zero, List.set_cons_succ]
              obtain ⟨gC, hgC⟩ : ∃ g, g = wa4.heap.size := ⟨_, rfl⟩
              rw [← hgC]
              have hC : (wa4.alloc (.cells #[.int .i64 s1, .int .i64 v] 3)).heap[gC]? = some (.cells #[.int .i64 s1, .int .i64 v] 3) := by rw [hgC]; exact heap_alloc_new wa4 _
              have hba5 : Below W5.heap.size W5 (wa4.alloc (.cells #[.int .i64 s1, .int .i64 v] 3)) := hba4.alloc hba4.size _
              have hxhba5 : Below wa4.heap.size wa4 (wa4.alloc (.cells #[.int .i64 s1, .int .i64 v] 3)) := (Below.refl _ _).alloc (Nat.le_refl _) _
              replace hB := (hxhba5.block _ (heap_lt hB)).trans hB
              clear hxhba5 hgC
              generalize wa4.alloc (.cells #[.int .i64 s1, .int .i64 v] 3) = wa5 at *
              refine wpAnyG_ready [8] (by kernel_rfl) (by simp) ?_
              refine AllReadyG.cons 8 (by rfl) (fun K hK => ?_) ?_
              · simp only [List.getElem_toArray, List.getElem_cons_succ, List.getElem_cons_zero]
                go_simp
                refine hK.out _ _ (unhide HSx _ (hba5.alloc hba5.size _)) (fun _ => ?_)
                clear hK K
                try simp only [Act.put, List.setIfInBounds_toArray, List.set_cons_zero, List.set_cons_succ]
                obtain ⟨gA, hgA⟩ : ∃ g, g = wa5.heap.size := ⟨_, rfl⟩
                rw [← hgA]
                have hA : (wa5.alloc (.cells #[.int .i64 s1, .int .i64 t1] 3)).heap[gA]? = some (.cells #[.int .i64 s1, .int .i64 t1] 3) := by rw [hgA]; exact heap_alloc_new wa5 _
                have hba6 : Below W5.heap.size W5 (wa5.alloc (.cells #[.int .i64 s1, .int .i64 t1] 3)) := hba5.alloc hba5.size _
                have hxhba6 : Below wa5.heap.size wa5 (wa5.alloc (.cells #[.int .i64 s1, .int .i64 t1] 3)) := (Below.refl _ _).alloc (Nat.le_refl _) _
                replace hB := (hxhba6.block _ (heap_lt hB)).trans hB
                replace hC := (hxhba6.block _ (heap_lt hC)).trans hC
                clear hxhba6 hgA
                generalize wa5.alloc (.cells #[.int .i64 s1, .int .i64 t1] 3) = wa6 at *
                refine wpAnyG_ready [18] (by kernel_rfl) (by simp) ?_
                refine AllReadyG.cons 18 (by rfl) (fun K hK => ?_) ?_
                · simp only [List.getElem_toArray, List.getElem_cons_succ, List.getElem_cons_zero]
                  go_simp
                  refine hK.out _ _ (unhide HSx _ (hba6.alloc hba6.size _)) (fun _ => ?_)
                  clear hK K
                  try simp only [Act.put, List.setIfInBounds_toArray, List.set_cons_zero, List.set_cons_succ]
                  obtain ⟨gL, hgL⟩ : ∃ g, g = wa6.heap.size := ⟨_, rfl⟩
                  rw [← hgL]
                  have hL : (wa6.alloc (.cells #[.slice (some ⟨gA, 0, none⟩) 2 2, .slice (some ⟨gB, 0, none⟩) 2 2, .slice (some ⟨gC, 0, none⟩) 2 2] 22)).heap[gL]? = some (.cells #[.slice (some ⟨gA, 0, none⟩) 2 2, .slice (some ⟨gB, 0, none⟩) 2 2, .slice (some ⟨gC, 0, none⟩) 2 2] 22) := by rw [hgL]; exact heap_alloc_new wa6 _
                  have hba7 : Below W5.heap.size W5 (wa6.alloc (.cells #[.slice (some ⟨gA, 0, none⟩) 2 2, .slice (some ⟨gB, 0, none⟩) 2 2, .slice (some ⟨gC, 0, none⟩) 2 2] 22)) := hba6.alloc hba6.size _
                  have hxhba7 : Below wa6.heap.size wa6 (wa6.alloc (.cells #[.slice (some ⟨gA, 0, none⟩) 2 2, .slice (some ⟨gB, 0, none⟩) 2 2, .slice (some ⟨gC, 0, none⟩) 2 2] 22)) := (Below.refl _ _).alloc (Nat.le_refl _) _
                  replace hB := (hxhba7.block _ (heap_lt hB)).trans hB
                  replace hC := (hxhba7.block _ (heap_lt hC)).trans hC
                  replace hA := (hxhba7.block _ (heap_lt hA)).trans hA
                  clear hxhba7 hgL
                  generalize wa6.alloc (.cells #[.slice (some ⟨gA, 0, none⟩) 2 2, .slice (some ⟨gB, 0, none⟩) 2 2, .slice (some ⟨gC, 0, none⟩) 2 2] 22) = wa7 at *
                  refine wpAnyG_take (v := ?_) 19 (by rfl) (by kernel_rfl) (by kernel_rfl) (by kernel_rfl) (by kernel_rfl) (fun _ _ _ h => h) (Or.inl ⟨by rfl, ?_⟩) (by assumption) ?_
                  rotate_left
                  · (intro w' hSw; (try dsimp only at hSw); (try simp only [List.getElem_toArray, List.getElem_cons_succ, List.getElem_cons_zero]); go_simp; try (with_reducible rfl))
                  simp only [Act.put, List.getElem_toArray, List.getElem_cons_succ, List.getElem_cons_zero, List.setIfInBounds_toArray, List.set_cons_zero, List.set_cons_succ]
                  refine wpAnyG_done (by kernel_rfl) ?_ _
                  refine NoPanic.normal ?_
                  clear hHeld
                  go_wp2
                  go_meet
                  exact ⟨gL, rfl, hide ⟨hb0W.trans (hba7.mono (unhide Hs5)), split_rows3 hA hB hC hL⟩⟩
                exact AllReadyG.nil
              exact AllReadyG.nil
            exact AllReadyG.nil
          refine AllReadyG.cons 17 (by rfl) (fun K hK => ?_) ?_
          · simp only [List.getElem_toArray, List.getElem_cons_succ, List.getElem_cons_zero]
            go_simp
            refine hK.out _ _ (unhide HSx _ (hb0.alloc hb0.size _)) (fun _ => ?_)
            clear hK K
            try simp only [Act.put, List.setIfInBounds_toArray, List.set_cons_zero, List.set_cons_succ]
            obtain ⟨gC, hgC⟩ : ∃ g, g = W5.heap.size := ⟨_, rfl⟩
            rw [← hgC]
            have hC : (W5.alloc (.cells #[.int .i64 s1, .int .i64 v] 3)).heap[gC]? = some (.cells #[.int .i64 s1, .int .i64 v] 3) := by rw [hgC]; exact heap_alloc_new W5 _
            have hba4 : Below W5.heap.size W5 (W5.alloc (.cells #[.int .i64 s1, .int .i64 v] 3)) := hb0.alloc hb0.size _
            have hxhba4 : Below W5.heap.size W5 (W5.alloc (.cells #[.int .i64 s1, .int .i64 v] 3)) := (Below.refl _ _).alloc (Nat.le_refl _) _
            clear hxhba4 hgC
            generalize W5.alloc (.cells #[.int .i64 s1, .int .i64 v] 3) = wa4 at *
            refine wpAnyG_ready [8, 11] (by kernel_rfl) (by simp) ?_
            refine AllReadyG.cons 8 (by rfl) (fun K hK => ?_) ?_
            · simp only [List.getElem_toArray, List.getElem_cons_succ, List.getElem_cons_zero]
              go_simp
              refine hK.out _ _ (unhide HSx _ (hba4.alloc hba4.size _)) (fun _ => ?_)
              clear hK K
              try simp only [Act.put, List.setIfInBounds_toArray, List.set_cons_zero, List.set_cons_succ]
              obtain ⟨gA, hgA⟩ : ∃ g, g = wa4.heap.size := ⟨_, rfl⟩
              rw [← hgA]
              have hA : (wa4.alloc (.cells #[.int .i64 s1, .int .i64 t1] 3)).heap[gA]? = some (.cells #[.int .i64 s1, .int .i64 t1] 3) := by rw [hgA]; exact heap_alloc_new wa4 _
              have hba5 : Below W5.heap.size W5 (wa4.alloc (.cells #[.int .i64 s1, .int .i64 t1] 3)) := hba4.alloc hba4.size _
              have hxhba5 : Below wa4.heap.size wa4 (wa4.alloc (.cells #[.int .i64 s1, .int .i64 t1] 3)) := (Below.refl _ _).alloc (Nat.le_refl _) _
              replace hC := (hxhba5.block _ (heap_lt hC)).trans hC
              clear hxhba5 hgA
              generalize wa4.alloc (.cells #[.int .i64 s1, .int .i64 t1] 3) = wa5 at *
              refine wpAnyG_ready [11] (by kernel_rfl) (by simp) ?_
              refine AllReadyG.cons 11 (by rfl) (fun K hK => ?_) ?_
              · simp only [List.getElem_toArray, List.getElem_cons_succ, List.getElem_cons_zero]
                go_simp
                refine hK.out _ _ (unhide HSx _ (hba5.alloc hba5.size _)) (fun _ => ?_)
                clear hK K
                try simp only [Act.put, List.setIfInBounds_toArray, List.set_cons_zero, List.set_cons_succ]
                obtain ⟨gB, hgB⟩ : ∃ g, g = wa5.heap.size := ⟨_, rfl⟩
                rw [← hgB]
                have hB : (wa5.alloc (.cells #[.int .i64 u, .int .i64 v] 3)).heap[gB]? = some (.cells #[.int .i64 u, .int .i64 v] 3) := by rw [hgB]; exact heap_alloc_new wa5 _
                have hba6 : Below W5.heap.size W5 (wa5.alloc (.cells #[.int .i64 u, .int .i64 v] 3)) := hba5.alloc hba5.size _
                have hxhba6 : Below wa5.heap.size wa5 (wa5.alloc (.cells #[.int .i64 u, .int .i64 v] 3)) := (Below.refl _ _).alloc (Nat.le_refl _) _
                replace hC := (hxhba6.block _ (heap_lt hC)).trans hC
                replace hA := (hxhba6.block _ (heap_lt hA)).trans hA
                clear hxhba6 hgB
                generalize wa5.alloc (.cells #[.int .i64 u, .int .i64 v] 3) = wa6 at *
                refine wpAnyG_ready [18] (by kernel_rfl) (by simp) ?_
                refine AllReadyG.cons 18 (by rfl) (fun K hK => ?_) ?_
                · simp only [List.getElem_toArray, List.getElem_cons_succ, List.getElem_cons_zero]
                  go_simp
                  refine hK.out _ _ (unhide HSx _ (hba6.alloc hba6.size _)) (fun _ => ?_)
                  clear hK K
                  try simp only [Act.put, List.setIfInBounds_toArray, List.set_cons_zero, List.set_cons_succ]
                  obtain ⟨gL, hgL⟩ : ∃ g, g = wa6.heap.size := ⟨_, rfl⟩
                  rw [← hgL]
                  have hL : (wa6.alloc (.cells #[.slice (some ⟨gA, 0, none⟩) 2 2, .slice (some ⟨gB, 0, none⟩) 2 2, .slice (some ⟨gC, 0, none⟩) 2 2] 22)).heap[gL]? = some (.cells #[.slice (some ⟨gA, 0, none⟩) 2 2, .slice (some ⟨gB, 0, none⟩) 2 2, .slice (some ⟨gC, 0, none⟩) 2 2] 22) := by rw [hgL]; exact heap_alloc_new wa6 _
                  have hba7 : Below W5.heap.size W5 (wa6.alloc (.cells #[.slice (some ⟨gA, 0, none⟩) 2 2, .slice (some ⟨gB, 0, none⟩) 2 2, .slice (some ⟨gC, 0, none⟩) 2 2] 22)) := hba6.alloc hba6.size _
                  have hxhba7 : Below wa6.heap.size wa6 (wa6.alloc (.cells #[.slice (some ⟨gA, 0, none⟩) 2 2, .slice (some ⟨gB, 0, none⟩) 2 2, .slice (some ⟨gC, 0, none⟩) 2 2] 22)) := (Below.refl _ _).alloc (Nat.le_refl _) _
                  replace hC := (hxhba7.block _ (heap_lt hC)).trans hC
                  replace hA := (hxhba7.block _ (heap_lt hA)).trans hA
                  replace hB := (hxhba7.block _ (heap_lt hB)).trans hB
                  clear hxhba7 hgL
                  generalize wa6.alloc (.cells #[.slice (some ⟨gA, 0, none⟩) 2 2, .slice (some ⟨gB, 0, none⟩) 2 2, .slice (some ⟨gC, 0, none⟩) 2 2] 22) = wa7 at *
                  refine wpAnyG_take (v := ?_) 19 (by rfl) (by kernel_rfl) (by kernel_rfl) (by kernel_rfl) (by kernel_rfl) (fun _ _ _ h => h) (Or.inl ⟨by rfl, ?_⟩) (by assumption) ?_
                  rotate_left
                  · (intro w' hSw; (try dsimp only at hSw); (try simp only [List.getElem_toArray, List.getElem_cons_succ, List.getElem_cons_zero]); go_simp; try (with_reducible rfl))
                  simp only [Act.put, List.getElem_toArray, List.getElem_cons_succ, List.getElem_cons_zero, List.setIfInBounds_toArray, List.set_cons_zero, List.set_cons_succ]
                  refine wpAnyG_done (by kernel_rfl) ?_ _
                  refine NoPanic.normal ?_
                  clear hHeld
                  go_wp2
                  go_meet
                  exact ⟨gL, rfl, hide ⟨hb0W.trans (hba7.mono (unhide Hs5)), split_rows3 hA hB hC hL⟩⟩
                exact AllReadyG.nil
              exact AllReadyG.nil
            refine AllReadyG.cons 11 (by rfl) (fun K hK => ?_) ?_
            · simp only [List.getElem_toArray, List.getElem_cons_succ, List.getElem_cons_zero]
              go_simp
              refine hK.out _ _ (unhide HSx _ (hba4.alloc hba4.size _)) (fun _ => ?_)
              clear hK K
              try simp only [Act.put, List.setIfInBounds_toArray, List.set_cons_zero, List.set_cons_succ]
              obtain ⟨gB, hgB⟩ : ∃ g, g = wa4.heap.size := ⟨_, rfl⟩
              rw [← hgB]
              have hB : (wa4.alloc (.cells #[.int .i64 u, .int .i64 v] 3)).heap[gB]? = some (.cells #[.int .i64 u, .int .i64 v] 3) := by rw [hgB]; exact heap_alloc_new wa4 _
              have hba5 : Below W5.heap.size W5 (wa4.alloc (.cells #[.int .i64 u, .int .i64 v] 3)) := hba4.alloc hba4.size _
              have hxhba5 : Below wa4.heap.size wa4 (wa4.alloc (.cells #[.int .i64 u, .int .i64 v] 3)) := (Below.refl _ _).alloc (Nat.le_refl _) _
              replace hC := (hxhba5.block _ (heap_lt hC)).trans hC
              clear hxhba5 hgB
              generalize wa4.alloc (.cells #[.int .i64 u, .int .i64 v] 3) = wa5 at *
              refine wpAnyG_ready [8] (by kernel_rfl) (by simp) ?_
              refine AllReadyG.cons 8 (by rfl) (fun K hK => ?_) ?_
              · simp only [List.getElem_toArray, List.getElem_cons_succ, List.getElem_cons_zero]
                go_simp
                refine hK.out _ _ (unhide HSx _ (hba5.alloc hba5.size _)) (fun _ => ?_)
                clear hK K
                try simp only [Act.put, List.setIfInBounds_toArray, List.set_cons_zero, List.set_cons_succ]
                obtain ⟨gA, hgA⟩ : ∃ g, g = wa5.heap.size := ⟨_, rfl⟩
                rw [← hgA]
                have hA : (wa5.alloc (.cells #[.int .i64 s1, .int .i64 t1] 3)).heap[gA]? = some (.cells #[.int .i64 s1, .int .i64 t1] 3) := by rw [hgA]; exact heap_alloc_new wa5 _
                have hba6 : Below W5.heap.size W5 (wa5.alloc (.cells #[.int .i64 s1, .int .i64 t1] 3)) := hba5.alloc hba5.size _
                have hxhba6 : Below wa5.heap.size wa5 (wa5.alloc (.cells #[.int .i64 s1, .int .i64 t1] 3)) := (Below.refl _ _).alloc (Nat.le_refl _) _
                replace hC := (hxhba6.block _ (heap_lt hC)).trans hC
                replace hB := (hxhba6.block _ (heap_lt hB)).trans hB
                clear hxhba6 hgA
                generalize wa5.alloc (.cells #[.int .i64 s1, .int .i64 t1] 3) = wa6 at *
                refine wpAnyG_ready [18] (by kernel_rfl) (by simp) ?_
                refine AllReadyG.cons 18 (by rfl) (fun K hK => ?_) ?_
                · simp only [List.getElem_toArray, List.getElem_cons_succ, List.getElem_cons_zero]
                  go_simp
                  refine hK.out _ _ (unhide HSx _ (hba6.alloc hba6.size _)) (fun _ => ?_)
                  clear hK K
                  try simp only [Act.put, List.setIfInBounds_toArray, List.set_cons_zero, List.set_cons_succ]
                  obtain ⟨gL, hgL⟩ : ∃ g, g = wa6.heap.size := ⟨_, rfl⟩
                  rw [← hgL]
                  have hL : (wa6.alloc (.cells #[.slice (some ⟨gA, 0, none⟩) 2 2, .slice (some ⟨gB, 0, none⟩) 2 2, .slice (some ⟨gC, 0, none⟩) 2 2] 22)).heap[gL]? = some (.cells #[.slice (some ⟨gA, 0, none⟩) 2 2, .slice (some ⟨gB, 0, none⟩) 2 2, .slice (some ⟨gC, 0, none⟩) 2 2] 22) := by rw [hgL]; exact heap_alloc_new wa6 _
                  have hba7 : Below W5.heap.size W5 (wa6.alloc (.cells #[.slice (some ⟨gA, 0, none⟩) 2 2, .slice (some ⟨gB, 0, none⟩) 2 2, .slice (some ⟨gC, 0, none⟩) 2 2] 22)) := hba6.alloc hba6.size _
                  have hxhba7 : Below wa6.heap.size wa6 (wa6.alloc (.cells #[.slice (some ⟨gA, 0, none⟩) 2 2, .slice (some ⟨gB, 0, none⟩) 2 2, .slice (some ⟨gC, 0, none⟩) 2 2] 22)) := (Below.refl _ _).alloc (Nat.le_refl _) _
                  replace hC := (hxhba7.block _ (heap_lt hC)).trans hC
                  replace hB := (hxhba7.block _ (heap_lt hB)).trans hB
                  replace hA := (hxhba7.block _ (heap_lt hA)).trans hA
                  clear hxhba7 hgL
                  generalize wa6.alloc (.cells #[.slice (some ⟨gA, 0, none⟩) 2 2, .slice (some ⟨gB, 0, none⟩) 2 2, .slice (some ⟨gC, 0, none⟩) 2 2] 22) = wa7 at *
                  refine wpAnyG_take (v := ?_) 19 (by rfl) (by kernel_rfl) (by kernel_rfl) (by kernel_rfl) (by kernel_rfl) (fun _ _ _ h => h) (Or.inl ⟨by rfl, ?_⟩) (by assumption) ?_
                  rotate_left
                  · (intro w' hSw; (try dsimp only at hSw); (try simp only [List.getElem_toArray, List.getElem_cons_succ, List.getElem_cons_zero]); go_simp; try (with_reducible rfl))
                  simp only [Act.put, List.getElem_toArray, List.getElem_cons_succ, List.getElem_cons_zero, List.setIfInBounds_toArray, List.set_cons_zero, List.set_cons_succ]
                  refine wpAnyG_done (by kernel_rfl) ?_ _
                  refine NoPanic.normal ?_
                  clear hHeld
                  go_wp2
                  go_meet
                  exact ⟨gL, rfl, hide ⟨hb0W.trans (hba7.mono (unhide Hs5)), split_rows3 hA hB hC hL⟩⟩
                exact AllReadyG.nil
              exact AllReadyG.nil
            exact AllReadyG.nil
          exact AllReadyG.nil
        exact AllReadyG.nil
      refine AllReadyG.cons 11 (by rfl) (fun K hK => ?_) ?_
      · simp only [List.getElem_toArray, List.getElem_cons_succ, List.getElem_cons_zero]
        go_simp
        refine hK.out _ _ (unhide HSx _ (hb0.alloc hb0.size _)) (fun _ => ?_)
        clear hK K
        try simp only [Act.put, List.setIfInBounds_toArray, List.set_cons_zero, List.set_cons_succ]
        obtain ⟨gB, hgB⟩ : ∃ g, g = W5.heap.size := ⟨_, rfl⟩
        rw [← hgB]
        have hB : (W5.alloc (.cells #[.int .i64 u, .int .i64 v] 3)).heap[gB]? = some (.cells #[.int .i64 u, .int .i64 v] 3) := by rw [hgB]; exact heap_alloc_new W5 _
        have hba2 : Below W5.heap.size W5 (W5.alloc (.cells #[.int .i64 u, .int .i64 v] 3)) := hb0.alloc hb0.size _
        have hxhba2 : Below W5.heap.size W5 (W5.alloc (.cells #[.int .i64 u, .int .i64 v] 3)) := (Below.refl _ _).alloc (Nat.le_refl _) _
        clear hxhba2 hgB
        generalize W5.alloc (.cells #[.int .i64 u, .int .i64 v] 3) = wa2 at *
        refine wpAnyG_ready [7] (by kernel_rfl) (by simp) ?_
        refine AllReadyG.cons 7 (by rfl) (fun K hK => ?_) ?_
        · simp only [List.getElem_toArray, List.getElem_cons_succ, List.getElem_cons_zero]
          go_simp
          go_at_call 11
          refine (unhide HWt _).mono ?_
          rintro e wc3 ⟨rfl, hlc3⟩
          have hlc3' := hlc3.symm
          clear hlc3
          subst hlc3'
          refine hK.out _ _ (unhide HSx _ hba2) (fun _ => ?_)
          clear hK K
          try simp only [Act.put, List.setIfInBounds_toArray, List.set_cons_zero, List.set_cons_succ]
          refine wpAnyG_ready [8, 15] (by kernel_rfl) (by simp) ?_
          refine AllReadyG.cons 8 (by rfl) (fun K hK => ?_) ?_
          · simp only [List.getElem_toArray, List.getElem_cons_succ, List.getElem_cons_zero]
            go_simp
            refine hK.out _ _ (unhide HSx _ (hba2.alloc hba2.size _)) (fun _ => ?_)
            clear hK K
            try simp only [Act.put, List.setIfInBounds_toArray, List.set_cons_zero, List.set_cons_succ]
            obtain ⟨gA, hgA⟩ : ∃ g, g = wa2.heap.size := ⟨_, rfl⟩
            rw [← hgA]
            have hA : (wa2.alloc (.cells #[.int .i64 s1, .int .i64 t1] 3)).heap[gA]? = some (.cells #[.int .i64 s1, .int .i64 t1] 3) := by rw [hgA]; exact heap_alloc_new wa2 _
            have hba4 : Below W5.heap.size W5 (wa2.alloc (.cells #[.int .i64 s1, .int .i64 t1] 3)) := hba2.alloc hba2.size _
            have hxhba4 : Below wa2.heap.size wa2 (wa2.alloc (.cells #[.int .i64 s1, .int .i64 t1] 3)) := (Below.refl _ _).alloc (Nat.le_refl _) _
            replace hB := (hxhba4.block _ (heap_lt hB)).trans hB
            clear hxhba4 hgA
            generalize wa2.alloc (.cells #[.int .i64 s1, .int .i64 t1] 3) = wa4 at *
            refine wpAnyG_ready [15] (by kernel_rfl) (by simp) ?_
            refine AllReadyG.cons 15 (by rfl) (fun K hK => ?_) ?_
            · simp only [List.getElem_toArray, List.getElem_cons_succ, List.getElem_cons_zero]
              go_simp
              go_at_call 11
              refine (unhide HWs _).mono ?_
              rintro e wc5 ⟨rfl, hlc5⟩
              have hlc5' := hlc5.symm
              clear hlc5
              subst hlc5'
              refine hK.out _ _ (unhide HSx _ hba4) (fun _ => ?_)
              clear hK K
              try simp only [Act.put, List.setIfInBounds_toArray, List.set_cons_zero, List.set_cons_succ]
              refine wpAnyG_ready [17] (by kernel_rfl) (by simp) ?_
              refine AllReadyG.cons 17 (by rfl) (fun K hK => ?_) ?_
              · simp only [List.getElem_toArray, List.getElem_cons_succ, List.getElem_cons_zero]
                go_simp
                refine hK.out _ _ (unhide HSx _ (hba4.alloc hba4.size _)) (fun _ => ?_)
                clear hK K
                try simp only [Act.put, List.setIfInBounds_toArray, List.set_cons_zero, List.set_cons_succ]
                obtain ⟨gC, hgC⟩ : ∃ g, g = wa4.heap.size := ⟨_, rfl⟩
                rw [← hgC]
                have hC : (wa4.alloc (.cells #[.int .i64 s1, .int .i64 v] 3)).heap[gC]? = some (.cells #[.int .i64 s1, .int .i64 v] 3) := by rw [hgC]; exact heap_alloc_new wa4 _
                have hba6 : Below W5.heap.size W5 (wa4.alloc (.cells #[.int .i64 s1, .int .i64 v] 3)) := hba4.alloc hba4.size _
                have hxhba6 : Below wa4.heap.size wa4 (wa4.alloc (.cells #[.int .i64 s1, .int .i64 v] 3)) := (Below.refl _ _).alloc (Nat.le_refl _) _
                replace hB := (hxhba6.block _ (heap_lt hB)).trans hB
                replace hA := (hxhba6.block _ (heap_lt hA)).trans hA
                clear hxhba6 hgC
                generalize wa4.alloc (.cells #[.int .i64 s1, .int .i64 v] 3) = wa6 at *
                refine wpAnyG_ready [18] (by kernel_rfl) (by simp) ?_
                refine AllReadyG.cons 18 (by rfl) (fun K hK => ?_) ?_
                · simp only [List.getElem_toArray, List.getElem_cons_succ, List.getElem_cons_zero]
                  go_simp
                  refine hK.out _ _ (unhide HSx _ (hba6.alloc hba6.size _)) (fun _ => ?_)
                  clear hK K
                  try simp only [Act.put, List.setIfInBounds_toArray, List.set_cons_zero, List.set_cons_succ]
                  obtain ⟨gL, hgL⟩ : ∃ g, g = wa6.heap.size := ⟨_, rfl⟩
                  rw [← hgL]
                  have hL : (wa6.alloc (.cells #[.slice (some ⟨gA, 0, none⟩) 2 2, .slice (some ⟨gB, 0, none⟩) 2 2, .slice (some ⟨gC, 0, none⟩) 2 2] 22)).heap[gL]? = some (.cells #[.slice (some ⟨gA, 0, none⟩) 2 2, .slice (some ⟨gB, 0, none⟩) 2 2, .slice (some ⟨gC, 0, none⟩) 2 2] 22) := by rw [hgL]; exact heap_alloc_new wa6 _
                  have hba7 : Below W5.heap.size W5 (wa6.alloc (.cells #[.slice (some ⟨gA, 0, none⟩) 2 2, .slice (some ⟨gB, 0, none⟩) 2 2, .slice (some ⟨gC, 0, none⟩) 2 2] 22)) := hba6.alloc hba6.size _
                  have hxhba7 : Below wa6.heap.size wa6 (wa6.alloc (.cells #[.slice (some ⟨gA, 0, none⟩) 2 2, .slice (some ⟨gB, 0, none⟩) 2 2, .slice (some ⟨gC, 0, none⟩) 2 2] 22)) := (Below.refl _ _).alloc (Nat.le_refl _) _
                  replace hB := (hxhba7.block _ (heap_lt hB)).trans hB
                  replace hA := (hxhba7.block _ (heap_lt hA)).trans hA
                  replace hC := (hxhba7.block _ (heap_lt hC)).trans hC
                  clear hxhba7 hgL
                  generalize wa6.alloc (.cells #[.slice (some ⟨gA, 0, none⟩) 2 2, .slice (some ⟨gB, 0, none⟩) 2 2, .slice (some ⟨gC, 0, none⟩) 2 2] 22) = wa7 at *
                  refine wpAnyG_take (v := ?_) 19 (by rfl) (by kernel_rfl) (by kernel_rfl) (by kernel_rfl) (by kernel_rfl) (fun _ _ _ h => h) (Or.inl ⟨by rfl, ?_⟩) (by assumption) ?_
                  rotate_left
                  · (intro w' hSw; (try dsimp only at hSw); (try simp only [List.getElem_toArray, List.getElem_cons_succ, List.getElem_cons_zero]); go_simp; try (with_reducible rfl))
                  simp only [Act.put, List.getElem_toArray, List.getElem_cons_succ, List.getElem_cons_zero, List.setIfInBounds_toArray, List.set_cons_zero, List.set_cons_succ]
                  refine wpAnyG_done (by kernel_rfl) ?_ _
                  refine NoPanic.normal ?_
                  clear hHeld
                  go_wp2
                  go_meet
                  exact ⟨gL, rfl, hide ⟨hb0W.trans (hba7.mono (unhide Hs5)), split_rows3 hA hB hC hL⟩⟩
                exact AllReadyG.nil
              exact AllReadyG.nil
            exact AllReadyG.nil
          refine AllReadyG.cons 15 (by rfl) (fun K hK => ?_) ?_
          · simp only [List.getElem_toArray, List.getElem_cons_succ, List.getElem_cons_zero]
            go_simp
            go_at_call 11
            refine (unhide HWs _).mono ?_
            rintro e wc4 ⟨rfl, hlc4⟩
            have hlc4' := hlc4.symm
            clear hlc4
            subst hlc4'
            refine hK.out _ _ (unhide HSx _ hba2) (fun _ => ?_)
            clear hK K
            try simp only [Act.put, List.setIfInBounds_toArray, List.set_cons_zero, List.set_cons_succ]
            refine wpAnyG_ready [8, 17] (by kernel_rfl) (by simp) ?_
            refine AllReadyG.cons 8 (by rfl) (fun K hK => ?_) ?_
            · simp only [List.getElem_toArray, List.getElem_cons_succ, List.getElem_cons_zero]
              go_simp
              refine hK.out _ _ (unhide HSx _ (hba2.alloc hba2.size _)) (fun _ => ?_)
              clear hK K
              try simp only [Act.put, List.setIfInBounds_toArray, List.set_cons_zero, List.set_cons_succ]
              obtain ⟨gA, hgA⟩ : ∃ g, g = wa2.heap.size := ⟨_, rfl⟩
              rw [← hgA]
              have hA : (wa2.alloc (.cells #[.int .i64 s1, .int .i64 t1] 3)).heap[gA]? = some (.cells #[.int .i64 s1, .int .i64 t1] 3) := by rw [hgA]; exact heap_alloc_new wa2 _
              have hba5 : Below W5.heap.size W5 (wa2.alloc (.cells #[.int .i64 s1, .int .i64 t1] 3)) := hba2.alloc hba2.size _
              have hxhba5 : Below wa2.heap.size wa2 (wa2.alloc (.cells #[.int .i64 s1, .int .i64 t1] 3)) := (Below.refl _ _).alloc (Nat.le_refl _) _
              replace hB := (hxhba5.block _ (heap_lt hB)).trans hB
              clear hxhba5 hgA
              generalize wa2.alloc (.cells #[.int .i64 s1, .int .i64 t1] 3) = wa5 at *
              refine wpAnyG_ready [17] (by kernel_rfl) (by simp) ?_
              refine AllReadyG.cons 17 (by rfl) (fun K hK => ?_) ?_
              · simp only [List.getElem_toArray, List.getElem_cons_succ, List.getElem_cons_zero]
                go_simp
                refine hK.out _ _ (unhide HSx _ (hba5.alloc hba5.size _)) (fun _ => ?_)
                clear hK K
                try simp only [Act.put, List.setIfInBounds_toArray, List.set_cons_zero, List.set_cons_succ]
                obtain ⟨gC, hgC⟩ : ∃ g, g = wa5.heap.size := ⟨_, rfl⟩
                rw [← hgC]
                have hC : (wa5.alloc (.cells #[.int .i64 s1, .int .i64 v] 3)).heap[gC]? = some (.cells #[.int .i64 s1, .int .i64 v] 3) := by rw [hgC]; exact heap_alloc_new wa5 _
                have hba6 : Below W5.heap.size W5 (wa5.alloc (.cells #[.int .i64 s1, .int .i64 v] 3)) := hba5.alloc hba5.size _
                have hxhba6 : Below wa5.heap.size wa5 (wa5.alloc (.cells #[.int .i64 s1, .int .i64 v] 3)) := (Below.refl _ _).alloc (Nat.le_refl _) _
                replace hB := (hxhba6.block _ (heap_lt hB)).trans hB
                replace hA := (hxhba6.block _ (heap_lt hA)).trans hA
                clear hxhba6 hgC
                generalize wa5.alloc (.cells #[.int .i64 s1, .int .i64 v] 3) = wa6 at *
                refine wpAnyG_ready [18] (by kernel_rfl) (by simp) ?_
                refine AllReadyG.cons 18 (by rfl) (fun K hK => ?_) ?_
                · simp only [List.getElem_toArray, List.getElem_cons_succ, List.getElem_cons_zero]
                  go_simp
                  refine hK.out _ _ (unhide HSx _ (hba6.alloc hba6.size _)) (fun _ => ?_)
                  clear hK K
                  try simp only [Act.put, List.setIfInBounds_toArray, List.set_cons_zero, List.set_cons_succ]
                  obtain ⟨gL, hgL⟩ : ∃ g, g = wa6.heap.size := ⟨_, rfl⟩
                  rw [← hgL]
                  have hL : (wa6.alloc (.cells #[.slice (some ⟨gA, 0, none⟩) 2 2, .slice (some ⟨gB, 0, none⟩) 2 2, .slice (some ⟨gC, 0, none⟩) 2 2] 22)).heap[gL]? = some (.cells #[.slice (some ⟨gA, 0, none⟩) 2 2, .slice (some ⟨gB, 0, none⟩) 2 2, .slice (some ⟨gC, 0, none⟩) 2 2] 22) := by rw [hgL]; exact heap_alloc_new wa6 _
                  have hba7 : Below W5.heap.size W5 (wa6.alloc (.cells #[.slice (some ⟨gA, 0, none⟩) 2 2, .slice (some ⟨gB, 0, none⟩) 2 2, .slice (some ⟨gC, 0, none⟩) 2 2] 22)) := hba6.alloc hba6.size _
                  have hxhba7 : Below wa6.heap.size wa6 (wa6.alloc (.cells #[.slice (some ⟨gA, 0, none⟩) 2 2, .slice (some ⟨gB, 0, none⟩) 2 2, .slice (some ⟨gC, 0, none⟩) 2 2] 22)) := (Below.refl _ _).alloc (Nat.le_refl _) _
                  replace hB := (hxhba7.block _ (heap_lt hB)).trans hB
                  replace hA := (hxhba7.block _ (heap_lt hA)).trans hA
                  replace hC := (hxhba7.block _ (heap_lt hC)).trans hC
                  clear hxhba7 hgL
                  generalize wa6.alloc (.cells #[.slice (some ⟨gA, 0, none⟩) 2 2, .slice (some ⟨gB, 0, none⟩) 2 2, .slice (some ⟨gC, 0, none⟩) 2 2] 22) = wa7 at *
                  refine wpAnyG_take (v := ?_) 19 (by rfl) (by kernel_rfl) (by kernel_rfl) (by kernel_rfl) (by kernel_rfl) (fun _ _ _ h => h) (Or.inl ⟨by rfl, ?_⟩) (by assumption) ?_
                  rotate_left
                  · (intro w' hSw; (try dsimp only at hSw); (try simp only [List.getElem_toArray, List.getElem_cons_succ, List.getElem_cons_zero]); go_simp; try (with_reducible rfl))
                  simp only [Act.put, List.getElem_toArray, List.getElem_cons_succ, List.getElem_cons_zero, List.setIfInBounds_toArray, List.set_cons_zero, List.set_cons_succ]
                  refine wpAnyG_done (by kernel_rfl) ?_ _
                  refine NoPanic.normal ?_
                  clear hHeld
                  go_wp2
                  go_meet
                  exact ⟨gL, rfl, hide ⟨hb0W.trans (hba7.mono (unhide Hs5)), split_rows3 hA hB hC hL⟩⟩
                exact AllReadyG.nil
              exact AllReadyG.nil
            refine AllReadyG.cons 17 (by rfl) (fun K hK => ?_) ?_
            · simp only [List.getElem_toArray, List.getElem_cons_succ, List.getElem_cons_zero]
              go_simp
              refine hK.out _ _ (unhide HSx _ (hba2.alloc hba2.size _)) (fun _ => ?_)
              clear hK K
              try simp only [Act.put, List.setIfInBounds_toArray, List.set_cons_zero, List.set_cons_succ]
              obtain ⟨gC, hgC⟩ : ∃ g, g = wa2.heap.size := ⟨_, rfl⟩
              rw [← hgC]
              have hC : (wa2.alloc (.cells #[.int .i64 s1, .int .i64 v] 3)).heap[gC]? = some (.cells #[.int .i64 s1, .int .i64 v] 3) := by rw [hgC]; exact heap_alloc_new wa2 _
              have hba5 : Below W5.heap.size W5 (wa2.alloc (.cells #[.int .i64 s1, .int .i64 v] 3)) := hba2.alloc hba2.size _
              have hxhba5 : Below wa2.heap.size wa2 (wa2.alloc (.cells #[.int .i64 s1, .int .i64 v] 3)) := (Below.refl _ _).alloc (Nat.le_refl _) _
              replace hB := (hxhba5.block _ (heap_lt hB)).trans hB
              clear hxhba5 hgC
              generalize wa2.alloc (.cells #[.int .i64 s1, .int .i64 v] 3) = wa5 at *
              refine wpAnyG_ready [8] (by kernel_rfl) (by simp) ?_
              refine AllReadyG.cons 8 (by rfl) (fun K hK => ?_) ?_
              · simp only [List.getElem_toArray, List.getElem_cons_succ, List.getElem_cons_zero]
                go_simp
                refine hK.out _ _ (unhide HSx _ (hba5.alloc hba5.size _)) (fun _ => ?_)
                clear hK K
                try simp only [Act.put, List.setIfInBounds_toArray, List.set_cons_zero, List.set_cons_succ]
                obtain ⟨gA, hgA⟩ : ∃ g, g = wa5.heap.size := ⟨_, rfl⟩
                rw [← hgA]
                have hA : (wa5.alloc (.cells #[.int .i64 s1, .int .i64 t1] 3)).heap[gA]? = some (.cells #[.int .i64 s1, .int .i64 t1] 3) := by rw [hgA]; exact heap_alloc_new wa5 _
                have hba6 : Below W5.heap.size W5 (wa5.alloc (.cells #[.int .i64 s1, .int .i64 t1] 3)) := hba5.alloc hba5.size _
                have hxhba6 : Below wa5.heap.size wa5 (wa5.alloc (.cells #[.int .i64 s1, .int .i64 t1] 3)) := (Below.refl _ _).alloc (Nat.le_refl _) _
                replace hB := (hxhba6.block _ (heap_lt hB)).trans hB
                replace hC := (hxhba6.block _ (heap_lt hC)).trans hC
                clear hxhba6 hgA
                generalize wa5.alloc (.cells #[.int .i64 s1, .int .i64 t1] 3) = wa6 at *
                refine wpAnyG_ready [18] (by kernel_rfl) (by simp) ?_
                refine AllReadyG.cons 18 (by rfl) (fun K hK => ?_) ?_
                · simp only [List.getElem_toArray, List.getElem_cons_succ, List.getElem_cons_zero]
                  go_simp
                  refine hK.out _ _ (unhide HSx _ (hba6.alloc hba6.size _)) (fun _ => ?_)
                  clear hK K
                  try simp only [Act.put, List.setIfInBounds_toArray, List.set_cons_zero, List.set_cons_succ]
                  obtain ⟨gL, hgL⟩ : ∃ g, g = wa6.heap.size := ⟨_, rfl⟩
                  rw [← hgL]
                  have hL : (wa6.alloc (.cells #[.slice (some ⟨gA, 0, none⟩) 2 2, .slice (some ⟨gB, 0, none⟩) 2 2, .slice (some ⟨gC, 0, none⟩) 2 2] 22)).heap[gL]? = some (.cells #[.slice (some ⟨gA, 0, none⟩) 2 2, .slice (some ⟨gB, 0, none⟩) 2 2, .slice (some ⟨gC, 0, none⟩) 2 2] 22) := by rw [hgL]; exact heap_alloc_new wa6 _
                  have hba7 : Below W5.heap.size W5 (wa6.alloc (.cells #[.slice (some ⟨gA, 0, none⟩) 2 2, .slice (some ⟨gB, 0, none⟩) 2 2, .slice (some ⟨gC, 0, none⟩) 2 2] 22)) := hba6.alloc hba6.size _
                  have hxhba7 : Below wa6.heap.size wa6 (wa6.alloc (.cells #[.slice (some ⟨gA, 0, none⟩) 2 2, .slice (some ⟨gB, 0, none⟩) 2 2, .slice (some ⟨gC, 0, none⟩) 2 2] 22)) := (Below.refl _ _).alloc (Nat.le_refl _) _
                  replace hB := (hxhba7.block _ (heap_lt hB)).trans hB
                  replace hC := (hxhba7.block _ (heap_lt hC)).trans hC
                  replace hA := (hxhba7.block _ (heap_lt hA)).trans hA
                  clear hxhba7 hgL
                  generalize wa6.alloc (.cells #[.slice (some ⟨gA, 0, none⟩) 2 2, .slice (some ⟨gB, 0, none⟩) 2 2, .slice (some ⟨gC, 0, none⟩) 2 2] 22) = wa7 at *
                  refine wpAnyG_take (v := ?_) 19 (by rfl) (by kernel_rfl) (by kernel_rfl) (by kernel_rfl) (by kernel_rfl) (fun _ _ _ h => h) (Or.inl ⟨by rfl, ?_⟩) (by assumption) ?_
                  rotate_left
                  · (intro w' hSw; (try dsimp only at hSw); (try simp only [List.getElem_toArray, List.getElem_cons_succ, List.getElem_cons_zero]); go_simp; try (with_reducible rfl))
                  simp only [Act.put, List.getElem_toArray, List.getElem_cons_succ, List.getElem_cons_zero, List.setIfInBounds_toArray, List.set_cons_zero, List.set_cons_succ]
                  refine wpAnyG_done (by kernel_rfl) ?_ _
                  refine NoPanic.normal ?_
                  clear hHeld
                  go_wp2
                  go_meet
                  exact ⟨gL, rfl, hide ⟨hb0W.trans (hba7.mono (unhide Hs5)), split_rows3 hA hB hC hL⟩⟩
                exact AllReadyG.nil
              exact AllReadyG.nil
            exact AllReadyG.nil
          exact AllReadyG.nil
        exact AllReadyG.nil
      exact AllReadyG.nil
    refine AllReadyG.cons 11 (by rfl) (fun K hK => ?_) ?_
    · simp only [List.getElem_toArray, List.getElem_cons_succ, List.getElem_cons_zero]
      go_simp
      refine hK.out _ _ (unhide HSx _ (hb0.alloc hb0.size _)) (fun _ => ?_)
      clear hK K
      try simp only [Act.put, List.setIfInBounds_toArray, List.set_cons_zero, List.set_cons_succ]
      obtain ⟨gB, hgB⟩ : ∃ g, g = W5.heap.size := ⟨_, rfl⟩
      rw [← hgB]
      have hB : (W5.alloc (.cells #[.int .i64 u, .int .i64 v] 3)).heap[gB]? = some (.cells #[.int .i64 u, .int .i64 v] 3) := by rw [hgB]; exact heap_alloc_new W5 _
      have hba1 : Below W5.heap.size W5 (W5.alloc (.cells #[.int .i64 u, .int .i64 v] 3)) := hb0.alloc hb0.size _
      have hxhba1 : Below W5.heap.size W5 (W5.alloc (.cells #[.int .i64 u, .int .i64 v] 3)) := (Below.refl _ _).alloc (Nat.le_refl _) _
      clear hxhba1 hgB
      generalize W5.alloc (.cells #[.int .i64 u, .int .i64 v] 3) = wa1 at *
      refine wpAnyG_ready [3] (by kernel_rfl) (by simp) ?_
      refine AllReadyG.cons 3 (by rfl) (fun K hK => ?_) ?_
      · simp only [List.getElem_toArray, List.getElem_cons_succ, List.getElem_cons_zero]
        go_simp
        go_at_call 11
        refine (unhide HWs _).mono ?_
        rintro e wc2 ⟨rfl, hlc2⟩
        have hlc2' := hlc2.symm
        clear hlc2
        subst hlc2'
        refine hK.out _ _ (unhide HSx _ hba1) (fun _ => ?_)
        clear hK K
        try simp only [Act.put, List.setIfInBounds_toArray, List.set_cons_zero, List.set_cons_succ]
        refine wpAnyG_ready [7] (by kernel_rfl) (by simp) ?_
        refine AllReadyG.cons 7 (by rfl) (fun K hK => ?_) ?_
        · simp only [List.getElem_toArray, List.getElem_cons_succ, List.getElem_cons_zero]
          go_simp
          go_at_call 11
          refine (unhide HWt _).mono ?_
          rintro e wc3 ⟨rfl, hlc3⟩
          have hlc3' := hlc3.symm
          clear hlc3
          subst hlc3'
          refine hK.out _ _ (unhide HSx _ hba1) (fun _ => ?_)
          clear hK K
          try simp only [Act.put, List.setIfInBounds_toArray, List.set_cons_zero, List.set_cons_succ]
          refine wpAnyG_ready [8, 15] (by kernel_rfl) (by simp) ?_
          refine AllReadyG.cons 8 (by rfl) (fun K hK => ?_) ?_
          · simp only [List.getElem_toArray, List.getElem_cons_succ, List.getElem_cons_zero]
            go_simp
            refine hK.out _ _ (unhide HSx _ (hba1.alloc hba1.size _)) (fun _ => ?_)
            clear hK K
            try simp only [Act.put, List.setIfInBounds_toArray, List.set_cons_zero, List.set_cons_succ]
            obtain ⟨gA, hgA⟩ : ∃ g, g = wa1.heap.size := ⟨_, rfl⟩
            rw [← hgA]
            have hA : (wa1.alloc (.cells #[.int .i64 s1, .int .i64 t1] 3)).heap[gA]? = some (.cells #[.int .i64 s1, .int .i64 t1] 3) := by rw [hgA]; exact heap_alloc_new wa1 _
            have hba4 : Below W5.heap.size W5 (wa1.alloc (.cells #[.int .i64 s1, .int .i64 t1] 3)) := hba1.alloc hba1.size _
            have hxhba4 : Below wa1.heap.size wa1 (wa1.alloc (.cells #[.int .i64 s1, .int .i64 t1] 3)) := (Below.refl _ _).alloc (Nat.le_refl _) _
            replace hB := (hxhba4.block _ (heap_lt hB)).trans hB
            clear hxhba4 hgA
            generalize wa1.alloc (.cells #[.int .i64 s1, .int .i64 t1] 3) = wa4 at *
            refine wpAnyG_ready [15] (by kernel_rfl) (by simp) ?_
            refine AllReadyG.cons 15 (by rfl) (fun K hK => ?_) ?_
            · simp only [List.getElem_toArray, List.getElem_cons_succ, List.getElem_cons_zero]
              go_simp
              go_at_call 11
              refine (unhide HWs _).mono ?_
              rintro e wc5 ⟨rfl, hlc5⟩
              have hlc5' := hlc5.symm
              clear hlc5
              subst hlc5'
              refine hK.out _ _ (unhide HSx _ hba4) (fun _ => ?_)
              clear hK K
              try simp only [Act.put, List.setIfInBounds_toArray, List.set_cons_zero, List.set_cons_succ]
              refine wpAnyG_ready [17] (by kernel_rfl) (by simp) ?_
              refine AllReadyG.cons 17 (by rfl) (fun K hK => ?_) ?_
              · simp only [List.getElem_toArray, List.getElem_cons_succ, List.getElem_cons_zero]
                go_simp
                refine hK.out _ _ (unhide HSx _ (hba4.alloc hba4.size _)) (fun _ => ?_)
                clear hK K
                try simp only [Act.put, List.setIfInBounds_toArray, List.set_cons_zero, List.set_cons_succ]
                obtain ⟨gC, hgC⟩ : ∃ g, g = wa4.heap.size := ⟨_, rfl⟩
                rw [← hgC]
                have hC : (wa4.alloc (.cells #[.int .i64 s1, .int .i64 v] 3)).heap[gC]? = some (.cells #[.int .i64 s1, .int .i64 v] 3) := by rw [hgC]; exact heap_alloc_new wa4 _
                have hba6 : Below W5.heap.size W5 (wa4.alloc (.cells #[.int .i64 s1, .int .i64 v] 3)) := hba4.alloc hba4.size _
                have hxhba6 : Below wa4.heap.size wa4 (wa4.alloc (.cells #[.int .i64 s1, .int .i64 v] 3)) := (Below.refl _ _).alloc (Nat.le_refl _) _
                replace hB := (hxhba6.block _ (heap_lt hB)).trans hB
                replace hA := (hxhba6.block _ (heap_lt hA)).trans hA
                clear hxhba6 hgC
                generalize wa4.alloc (.cells #[.int .i64 s1, .int .i64 v] 3) = wa6 at *
                refine wpAnyG_ready [18] (by kernel_rfl) (by simp) ?_
                refine AllReadyG.cons 18 (by rfl) (fun K hK => ?_) ?_
                · simp only [List.getElem_toArray, List.getElem_cons_succ, List.getElem_cons_zero]
                  go_simp
                  refine hK.out _ _ (unhide HSx _ (hba6.alloc hba6.size _)) (fun _ => ?_)
                  clear hK K
                  try simp only [Act.put, List.setIfInBounds_toArray, List.set_cons_zero, List.set_cons_succ]
                  obtain ⟨gL, hgL⟩ : ∃ g, g = wa6.heap.size := ⟨_, rfl⟩
                  rw [← hgL]
                  have hL : (wa6.alloc (.cells #[.slice (some ⟨gA, 0, none⟩) 2 2, .slice (some ⟨gB, 0, none⟩) 2 2, .slice (some ⟨gC, 0, none⟩) 2 2] 22)).heap[gL]? = some (.cells #[.slice (some ⟨gA, 0, none⟩) 2 2, .slice (some ⟨gB, 0, none⟩) 2 2, .slice (some ⟨gC, 0, none⟩) 2 2] 22) := by rw [hgL]; exact heap_alloc_new wa6 _
                  have hba7 : Below W5.heap.size W5 (wa6.alloc (.cells #[.slice (some ⟨gA, 0, none⟩) 2 2, .slice (some ⟨gB, 0, none⟩) 2 2, .slice (some ⟨gC, 0, none⟩) 2 2] 22)) := hba6.alloc hba6.size _
                  have hxhba7 : Below wa6.heap.size wa6 (wa6.alloc (.cells #[.slice (some ⟨gA, 0, none⟩) 2 2, .slice (some ⟨gB, 0, none⟩) 2 2, .slice (some ⟨gC, 0, none⟩) 2 2] 22)) := (Below.refl _ _).alloc (Nat.le_refl _) _
                  replace hB := (hxhba7.block _ (heap_lt hB)).trans hB
                  replace hA := (hxhba7.block _ (heap_lt hA)).trans hA
                  replace hC := (hxhba7.block _ (heap_lt hC)).trans hC
                  clear hxhba7 hgL
                  generalize wa6.alloc (.cells #[.slice (some ⟨gA, 0, none⟩) 2 2, .slice (some ⟨gB, 0, none⟩) 2 2, .slice (some ⟨gC, 0, none⟩) 2 2] 22) = wa7 at *
                  refine wpAnyG_take (v := ?_) 19 (by rfl) (by kernel_rfl) (by kernel_rfl) (by kernel_rfl) (by kernel_rfl) (fun _ _ _ h => h) (Or.inl ⟨by rfl, ?_⟩) (by assumption) ?_
                  rotate_left
                  · (intro w' hSw; (try dsimp only at hSw); (try simp only [List.getElem_toArray, List.getElem_cons_succ, List.getElem_cons_zero]); go_simp; try (with_reducible rfl))
                  simp only [Act.put, List.getElem_toArray, List.getElem_cons_succ, List.getElem_cons_zero, List.setIfInBounds_toArray, List.set_cons_zero, List.set_cons_succ]
                  refine wpAnyG_done (by kernel_rfl) ?_ _
                  refine NoPanic.normal ?_
                  clear hHeld
                  go_wp2
                  go_meet
                  exact ⟨gL, rfl, hide ⟨hb0W.trans (hba7.mono (unhide Hs5)), split_rows3 hA hB hC hL⟩⟩
                exact AllReadyG.nil
              exact AllReadyG.nil
            exact AllReadyG.nil
          refine AllReadyG.cons 15 (by rfl) (fun K hK => ?_) ?_
          · simp only [List.getElem_toArray, List.getElem_cons_succ, List.getElem_cons_zero]
            go_simp
            go_at_call 11
            refine (unhide HWs _).mono ?_
            rintro e wc4 ⟨rfl, hlc4⟩
            have hlc4' := hlc4.symm
            clear hlc4
            subst hlc4'
            refine hK.out _ _ (unhide HSx _ hba1) (fun _ => ?_)
            clear hK K
            try simp only [Act.put, List.setIfInBounds_toArray, List.set_cons_zero, List.set_cons_succ]
            refine wpAnyG_ready [8, 17] (by kernel_rfl) (by simp) ?_
            refine AllReadyG.cons 8 (by rfl) (fun K hK => ?_) ?_
            · simp only [List.getElem_toArray, List.getElem_cons_succ, List.getElem_cons_zero]
              go_simp
              refine hK.out _ _ (unhide HSx _ (hba1.alloc hba1.size _)) (fun _ => ?_)
              clear hK K
              try simp only [Act.put, List.setIfInBounds_toArray, List.set_cons_zero, List.set_cons_succ]
              obtain ⟨gA, hgA⟩ : ∃ g, g = wa1.heap.size := ⟨_, rfl⟩
              rw [← hgA]
              have hA : (wa1.alloc (.cells #[.int .i64 s1, .int .i64 t1] 3)).heap[gA]? = some (.cells #[.int .i64 s1, .int .i64 t1] 3) := by rw [hgA]; exact heap_alloc_new wa1 _
              have hba5 : Below W5.heap.size W5 (wa1.alloc (.cells #[.int .i64 s1, .int .i64 t1] 3)) := hba1.alloc hba1.size _
              have hxhba5 : Below wa1.heap.size wa1 (wa1.alloc (.cells #[.int .i64 s1, .int .i64 t1] 3)) := (Below.refl _ _).alloc (Nat.le_refl _) _
              replace hB := (hxhba5.block _ (heap_lt hB)).trans hB
              clear hxhba5 hgA
              generalize wa1.alloc (.cells #[.int .i64 s1, .int .i64 t1] 3) = wa5 at *
              refine wpAnyG_ready [17] (by kernel_rfl) (by simp) ?_
              refine AllReadyG.cons 17 (by rfl) (fun K hK => ?_) ?_
              · simp only [List.getElem_toArray, List.getElem_cons_succ, List.getElem_cons_zero]
                go_simp
                refine hK.out _ _ (unhide HSx _ (hba5.alloc hba5.size _)) (fun _ => ?_)
                clear hK K
                try simp only [Act.put, List.setIfInBounds_toArray, List.set_cons_zero, List.set_cons_succ]
                obtain ⟨gC, hgC⟩ : ∃ g, g = wa5.heap.size := ⟨_, rfl⟩
                rw [← hgC]
                have hC : (wa5.alloc (.cells #[.int .i64 s1, .int .i64 v] 3)).heap[gC]? = some (.cells #[.int .i64 s1, .int .i64 v] 3) := by rw [hgC]; exact heap_alloc_new wa5 _
                have hba6 : Below W5.heap.size W5 (wa5.alloc (.cells #[.int .i64 s1, .int .i64 v] 3)) := hba5.alloc hba5.size _
                have hxhba6 : Below wa5.heap.size wa5 (wa5.alloc (.cells #[.int .i64 s1, .int .i64 v] 3)) := (Below.refl _ _).alloc (Nat.le_refl _) _
                replace hB := (hxhba6.block _ (heap_lt hB)).trans hB
                replace hA := (hxhba6.block _ (heap_lt hA)).trans hA
                clear hxhba6 hgC
                generalize wa5.alloc (.cells #[.int .i64 s1, .int .i64 v] 3) = wa6 at *
                refine wpAnyG_ready [18] (by kernel_rfl) (by simp) ?_
                refine AllReadyG.cons 18 (by rfl) (fun K hK => ?_) ?_
                · simp only [List.getElem_toArray, List.getElem_cons_succ, List.getElem_cons_zero]
                  go_simp
                  refine hK.out _ _ (unhide HSx _ (hba6.alloc hba6.size _)) (fun _ => ?_)
                  clear hK K
                  try simp only [Act.put, List.setIfInBounds_toArray, List.set_cons_zero, List.set_cons_succ]
                  obtain ⟨gL, hgL⟩ : ∃ g, g = wa6.heap.size := ⟨_, rfl⟩
                  rw [← hgL]
                  have hL : (wa6.alloc (.cells #[.slice (some ⟨gA, 0, none⟩) 2 2, .slice (some ⟨gB, 0, none⟩) 2 2, .slice (some ⟨gC, 0, none⟩) 2 2] 22)).heap[gL]? = some (.cells #[.slice (some ⟨gA, 0, none⟩) 2 2, .slice (some ⟨gB, 0, none⟩) 2 2, .slice (some ⟨gC, 0, none⟩) 2 2] 22) := by rw [hgL]; exact heap_alloc_new wa6 _
                  have hba7 : Below W5.heap.size W5 (wa6.alloc (.cells #[.slice (some ⟨gA, 0, none⟩) 2 2, .slice (some ⟨gB, 0, none⟩) 2 2, .slice (some ⟨gC, 0, none⟩) 2 2] 22)) := hba6.alloc hba6.size _
                  have hxhba7 : Below wa6.heap.size wa6 (wa6.alloc (.cells #[.slice (some ⟨gA, 0, none⟩) 2 2, .slice (some ⟨gB, 0, none⟩) 2 2, .slice (some ⟨gC, 0, none⟩) 2 2] 22)) := (Below.refl _ _).alloc (Nat.le_refl _) _
                  replace hB := (hxhba7.block _ (heap_lt hB)).trans hB
                  replace hA := (hxhba7.block _ (heap_lt hA)).trans hA
                  replace hC := (hxhba7.block _ (heap_lt hC)).trans hC
                  clear hxhba7 hgL
                  generalize wa6.alloc (.cells #[.slice (some ⟨gA, 0, none⟩) 2 2, .slice (some ⟨gB, 0, none⟩) 2 2, .slice (some ⟨gC, 0, none⟩) 2 2] 22) = wa7 at *
                  refine wpAnyG_take (v := ?_) 19 (by rfl) (by kernel_rfl) (by kernel_rfl) (by kernel_rfl) (by kernel_rfl) (fun _ _ _ h => h) (Or.inl ⟨by rfl, ?_⟩) (by assumption) ?_
                  rotate_left
                  · (intro w' hSw; (try dsimp only at hSw); (try simp only [List.getElem_toArray, List.getElem_cons_succ, List.getElem_cons_zero]); go_simp; try (with_reducible rfl))
                  simp only [Act.put, List.getElem_toArray, List.getElem_cons_succ, List.getElem_cons_zero, List.setIfInBounds_toArray, List.set_cons_zero, List.set_cons_succ]
                  refine wpAnyG_done (by kernel_rfl) ?_ _
                  refine NoPanic.normal ?_
                  clear hHeld
                  go_wp2
                  go_meet
                  exact ⟨gL, rfl, hide ⟨hb0W.trans (hba7.mono (unhide Hs5)), split_rows3 hA hB hC hL⟩⟩
                exact AllReadyG.nil
              exact AllReadyG.nil
            refine AllReadyG.cons 17 (by rfl) (fun K hK => ?_) ?_
            · simp only [List.getElem_toArray, List.getElem_cons_succ, List.getElem_cons_zero]
              go_simp
              refine hK.out _ _ (unhide HSx _ (hba1.alloc hba1.size _)) (fun _ => ?_)
              clear hK K
              try simp only [Act.put, List.setIfInBounds_toArray, List.set_cons_zero, List.set_cons_succ]
              obtain ⟨gC, hgC⟩ : ∃ g, g = wa1.heap.size := ⟨_, rfl⟩
              rw [← hgC]
              have hC : (wa1.alloc (.cells #[.int .i64 s1, .int .i64 v] 3)).heap[gC]? = some (.cells #[.int .i64 s1, .int .i64 v] 3) := by rw [hgC]; exact heap_alloc_new wa1 _
              have hba5 : Below W5.heap.size W5 (wa1.alloc (.cells #[.int .i64 s1, .int .i64 v] 3)) := hba1.alloc hba1.size _
              have hxhba5 : Below wa1.heap.size wa1 (wa1.alloc (.cells #[.int .i64 s1, .int .i64 v] 3)) := (Below.refl _ _).alloc (Nat.le_refl _) _
              replace hB := (hxhba5.block _ (heap_lt hB)).trans hB
              clear hxhba5 hgC
              generalize wa1.alloc (.cells #[.int .i64 s1, .int .i64 v] 3) = wa5 at *
              refine wpAnyG_ready [8] (by kernel_rfl) (by simp) ?_
              refine AllReadyG.cons 8 (by rfl) (fun K hK => ?_) ?_
              · simp only [List.getElem_toArray, List.getElem_cons_succ, List.getElem_cons_zero]
                go_simp
                refine hK.out _ _ (unhide HSx _ (hba5.alloc hba5.size _)) (fun _ => ?_)
                clear hK K
                try simp only [Act.put, List.setIfInBounds_toArray, List.set_cons_zero, List.set_cons_succ]
                obtain ⟨gA, hgA⟩ : ∃ g, g = wa5.heap.size := ⟨_, rfl⟩
                rw [← hgA]
                have hA : (wa5.alloc (.cells #[.int .i64 s1, .int .i64 t1] 3)).heap[gA]? = some (.cells #[.int .i64 s1, .int .i64 t1] 3) := by rw [hgA]; exact heap_alloc_new wa5 _
                have hba6 : Below W5.heap.size W5 (wa5.alloc (.cells #[.int .i64 s1, .int .i64 t1] 3)) := hba5.alloc hba5.size _
                have hxhba6 : Below wa5.heap.size wa5 (wa5.alloc (.cells #[.int .i64 s1, .int .i64 t1] 3)) := (Below.refl _ _).alloc (Nat.le_refl _) _
                replace hB := (hxhba6.block _ (heap_lt hB)).trans hB
                replace hC := (hxhba6.block _ (heap_lt hC)).trans hC
                clear hxhba6 hgA
                generalize wa5.alloc (.cells #[.int .i64 s1, .int .i64 t1] 3) = wa6 at *
                refine wpAnyG_ready [18] (by kernel_rfl) (by simp) ?_
                refine AllReadyG.cons 18 (by rfl) (fun K hK => ?_) ?_
                · simp only [List.getElem_toArray, List.getElem_cons_succ, List.getElem_cons_zero]
                  go_simp
                  refine hK.out _ _ (unhide HSx _ (hba6.alloc hba6.size _)) (fun _ => ?_)
                  clear hK K
                  try simp only [Act.put, List.setIfInBounds_toArray, List.set_cons_zero, List.set_cons_succ]
                  obtain ⟨gL, hgL⟩ : ∃ g, g = wa6.heap.size := ⟨_, rfl⟩
                  rw [← hgL]
                  have hL : (wa6.alloc (.cells #[.slice (some ⟨gA, 0, none⟩) 2 2, .slice (some ⟨gB, 0, none⟩) 2 2, .slice (some ⟨gC, 0, none⟩) 2 2] 22)).heap[gL]? = some (.cells #[.slice (some ⟨gA, 0, none⟩) 2 2, .slice (some ⟨gB, 0, none⟩) 2 2, .slice (some ⟨gC, 0, none⟩) 2 2] 22) := by rw [hgL]; exact heap_alloc_new wa6 _
                  have hba7 : Below W5.heap.size W5 (wa6.alloc (.cells #[.slice (some ⟨gA, 0, none⟩) 2 2, .slice (some ⟨gB, 0, none⟩) 2 2, .slice (some ⟨gC, 0, none⟩) 2 2] 22)) := hba6.alloc hba6.size _
                  have hxhba7 : Below wa6.heap.size wa6 (wa6.alloc (.cells #[.slice (some ⟨gA, 0, none⟩) 2 2, .slice (some ⟨gB, 0, none⟩) 2 2, .slice (some ⟨gC, 0, none⟩) 2 2] 22)) := (Below.refl _ _).alloc (Nat.le_refl _) _
                  replace hB := (hxhba7.block _ (heap_lt hB)).trans hB
                  replace hC := (hxhba7.block _ (heap_lt hC)).trans hC
                  replace hA := (hxhba7.block _ (heap_lt hA)).trans hA
                  clear hxhba7 hgL
                  generalize wa6.alloc (.cells #[.slice (some ⟨gA, 0, none⟩) 2 2, .slice (some ⟨gB, 0, none⟩) 2 2, .slice (some ⟨gC, 0, none⟩) 2 2] 22) = wa7 at *
                  refine wpAnyG_take (v := ?_) 19 (by rfl) (by kernel_rfl) (by kernel_rfl) (by kernel_rfl) (by kernel_rfl) (fun _ _ _ h => h) (Or.inl ⟨by rfl, ?_⟩) (by assumption) ?_
                  rotate_left
                  · (intro w' hSw; (try dsimp only at hSw); (try simp only [List.getElem_toArray, List.getElem_cons_succ, List.getElem_cons_zero]); go_simp; try (with_reducible rfl))
                  simp only [Act.put, List.getElem_toArray, List.getElem_cons_succ, List.getElem_cons_zero, List.setIfInBounds_toArray, List.set_cons_zero, List.set_cons_succ]
                  refine wpAnyG_done (by kernel_rfl) ?_ _
                  refine NoPanic.normal ?_
                  clear hHeld
                  go_wp2
                  go_meet
                  exact ⟨gL, rfl, hide ⟨hb0W.trans (hba7.mono (unhide Hs5)), split_rows3 hA hB hC hL⟩⟩
                exact AllReadyG.nil
              exact AllReadyG.nil
            exact AllReadyG.nil
          exact AllReadyG.nil
        exact AllReadyG.nil
      exact AllReadyG.nil
    exact AllReadyG.nil
  case rest =>
    obtain ⟨wP, rfl⟩ : ∃ wP, wP = wc := ⟨_, rfl⟩
    obtain ⟨gL, rfl, HL⟩ := hcut
    clear hb4 HWs HWt
    go_wp2
    go_loopg [13] 3 (fun g s13 wr => ∃ i : Nat, i + g = 3 ∧ s13 = .int .i64 (i : Int) ∧ Hid (Below (w3.heap.size + 1) W4 wr ∧ Below wP.heap.size wP wr))
    case atStart => exact ⟨0, by omega, rfl, hide ⟨(unhide HL).1, Below.refl _ _⟩⟩
    case round =>
      obtain ⟨i, hig, rfl, HI⟩ := hrel
      cases gk with
      | zero =>
        obtain rfl : i = 3 := by omega
        have HF := hide (unhide HBX _ (unhide HI).1).2.2.1
        clear HI HL
        go_wp2
        rw [unhide HP]
        exact ⟨by rfl, unhide HF⟩
      | succ g' =>
        have hi2 : i < 3 := by omega
        have hi2I : (i : Int) < 3 := by omega
        obtain ⟨g, pa, pb, hcl⟩ := (unhide HL).2 i hi2
        have HCl := hide hcl
        have HS0 : Hid (∀ w', Below wP.heap.size wP w' → Below (w3.heap.size + 1) W4 w' → (w'.cell? ⟨w3.heap.size, 0, none⟩ = some (.int .i64 q.n) ∧ w'.cell? ⟨w3.heap.size, 1, none⟩ = some (.slice ta q.tail.length tc) ∧ w'.cell? ⟨w3.heap.size, 2, none⟩ = some (.slice na q.next.length nc) ∧ w'.cell? ⟨w3.heap.size, 3, none⟩ = some (.slice ca q.cap.length cc)) ∧ w'.cell? ⟨gL, i, none⟩ = some (.slice (some ⟨g, 0, none⟩) 2 2) ∧ w'.cell? ⟨g, 0, none⟩ = some (.int .i64 pa) ∧ w'.cell? ⟨g, 1, none⟩ = some (.int .i64 pb)) := hide fun w' h1 h2 => ⟨(unhide HBX w' h2).1, unhide HCl w' h1⟩
        have hbr := (unhide HI).1
        have hpr := (unhide HI).2
        have HS8 : Hid (∀ w', Below wr.heap.size wr w' → (w'.cell? ⟨w3.heap.size, 0, none⟩ = some (.int .i64 q.n) ∧ w'.cell? ⟨w3.heap.size, 1, none⟩ = some (.slice ta q.tail.length tc) ∧ w'.cell? ⟨w3.heap.size, 2, none⟩ = some (.slice na q.next.length nc) ∧ w'.cell? ⟨w3.heap.size, 3, none⟩ = some (.slice ca q.cap.length cc)) ∧ w'.cell? ⟨gL, i, none⟩ = some (.slice (some ⟨g, 0, none⟩) 2 2) ∧ w'.cell? ⟨g, 0, none⟩ = some (.int .i64 pa) ∧ w'.cell? ⟨g, 1, none⟩ = some (.int .i64 pb)) := hide fun w' hb => unhide HS0 w' (hpr.trans (hb.mono hpr.size)) (unhide HTR _ _ hbr hb)
        have Hpr := hide hpr
        clear hcl HI hpr HS0 HCl
        obtain ⟨E, hE⟩ : ∃ E, Sp.rimE q pa pb = E := ⟨_, rfl⟩
        have HK1 := hide (unhide HH1 pa pb)
        have HK2 := hide (unhide HH2 pa pb)
        have HK3 := hide (unhide HH3 pa pb)
        have HK4 := hide (unhide HH4 pa pb)
        rw [hE] at HK1 HK2 HK3 HK4
        clear hE
        have e1 : (E != E) = false := bne_self_eq_false _
        go_upto_region 8 with fail
        go_cut [14, 15] (fun a1 a2 wx => ∃ P L x, a2 = .int .i64 E ∧ Hid (Ints wx a1 P ∧ Sp.RimIs q pa pb P L x ∧ Below (w3.heap.size + 1) W4 wx ∧ Below wr.heap.size wr wx))
        case first =>
          have hxr : Below wr.heap.size wr wr.drew := (Below.refl _ _).drew
          have hbr := hbr.drew
          refine wp_region_G (fun w' => (w'.cell? ⟨w3.heap.size, 0, none⟩ = some (.int .i64 q.n) ∧ w'.cell? ⟨w3.heap.size, 1, none⟩ = some (.slice ta q.tail.length tc) ∧ w'.cell? ⟨w3.heap.size, 2, none⟩ = some (.slice na q.next.length nc) ∧ w'.cell? ⟨w3.heap.size, 3, none⟩ = some (.slice ca q.cap.length cc)) ∧ w'.cell? ⟨gL, i, none⟩ = some (.slice (some ⟨g, 0, none⟩) 2 2) ∧ w'.cell? ⟨g, 0, none⟩ = some (.int .i64 pa) ∧ w'.cell? ⟨g, 1, none⟩ = some (.int .i64 pb)) (fun _ => false) (by kernel_rfl) (unhide HS8 _ hxr) (fun hHeld => ?_)
          generalize hwq : wr.drew = wq at *
          clear hwq
          refine wpAnyG_take (v := ?_) 0 (by rfl) (by kernel_rfl) (by kernel_rfl) (by kernel_rfl) (by kernel_rfl) (fun _ _ _ h => h) (Or.inl ⟨by rfl, ?_⟩) (by assumption) ?_
          rotate_left
          · (intro w' hSw; (try dsimp only at hSw); (try simp only [List.getElem_toArray, List.getElem_cons_zero]); go_simp; try (with_reducible rfl))
          simp only [Act.put, List.getElem_toArray, List.getElem_cons_zero, List.setIfInBounds_toArray, List.set_cons_zero, List.set_cons_succ]
          refine wpAnyG_take (v := ?_) 1 (by rfl) (by kernel_rfl) (by kernel_rfl) (by kernel_rfl) (by kernel_rfl) (fun _ _ _ h => h) (Or.inl ⟨by rfl, ?_⟩) (by assumption) ?_
          rotate_left
          · (intro w' hSw; (try dsimp only at hSw); (try simp only [List.getElem_toArray, List.getElem_cons_succ, List.getElem_cons_zero]); go_simp; try (with_reducible rfl))
          simp only [Act.put, List.getElem_toArray, List.getElem_cons_succ, List.getElem_cons_zero, List.setIfInBounds_toArray, List.set_cons_zero, List.set_cons_succ]
          refine wpAnyG_take (v := ?_) 2 (by rfl) (by kernel_rfl) (by kernel_rfl) (by kernel_rfl) (by kernel_rfl) (fun _ _ _ h => h) (Or.inl ⟨by rfl, ?_⟩) (by assumption) ?_
          rotate_left
          · (intro w' hSw; (try dsimp only at hSw); (try simp only [List.getElem_toArray, List.getElem_cons_succ, List.getElem_cons_zero]); go_simp; try (with_reducible rfl))
          simp only [Act.put, List.getElem_toArray, List.getElem_cons_succ, List.getElem_cons_zero, List.setIfInBounds_toArray, List.set_cons_zero, List.set_cons_succ]
          refine wpAnyG_take (v := ?_) 3 (by rfl) (by kernel_rfl) (by kernel_rfl) (by kernel_rfl) (by kernel_rfl) (fun _ _ _ h => h) (Or.inl ⟨by rfl, ?_⟩) (by assumption) ?_
          rotate_left
          · (intro w' hSw; (try dsimp only at hSw); (try simp only [List.getElem_toArray, List.getElem_cons_succ, List.getElem_cons_zero]); go_simp; try (with_reducible rfl))
          simp only [Act.put, List.getElem_toArray, List.getElem_cons_succ, List.getElem_cons_zero, List.setIfInBounds_toArray, List.set_cons_zero, List.set_cons_succ]
          refine wpAnyG_take (v := ?_) 4 (by rfl) (by kernel_rfl) (by kernel_rfl) (by kernel_rfl) (by kernel_rfl) (fun _ _ _ h => h) (Or.inl ⟨by rfl, ?_⟩) (by assumption) ?_
          rotate_left
          · (intro w' hSw; (try dsimp only at hSw); (try simp only [List.getElem_toArray, List.getElem_cons_succ, List.getElem_cons_zero]); go_simp; try (with_reducible rfl))
          simp only [Act.put, List.getElem_toArray, List.getElem_cons_succ, List.getElem_cons_zero, List.setIfInBounds_toArray, List.set_cons_zero, List.set_cons_succ]
          refine wpAnyG_take (v := ?_) 5 (by rfl) (by kernel_rfl) (by kernel_rfl) (by kernel_rfl) (by kernel_rfl) (fun _ _ _ h => h) (Or.inl ⟨by rfl, ?_⟩) (by assumption) ?_
          rotate_left
          · (intro w' hSw; (try dsimp only at hSw); (try simp only [List.getElem_toArray, List.getElem_cons_succ, List.getElem_cons_zero]); go_simp; try (with_reducible rfl))
          simp only [Act.put, List.getElem_toArray, List.getElem_cons_succ, List.getElem_cons_zero, List.setIfInBounds_toArray, List.set_cons_zero, List.set_cons_succ]
          refine wpAnyG_take (v := ?_) 6 (by rfl) (by kernel_rfl) (by kernel_rfl) (by kernel_rfl) (by kernel_rfl) (fun _ _ _ h => h) (Or.inl ⟨by rfl, ?_⟩) (by assumption) ?_
          rotate_left
          · (intro w' hSw; (try dsimp only at hSw); (try simp only [List.getElem_toArray, List.getElem_cons_succ, List.getElem_cons_zero]); go_simp; try (with_reducible rfl))
          simp only [Act.put, List.getElem_toArray, List.getElem_cons_succ, List.getElem_cons_zero, List.setIfInBounds_toArray, List.set_cons_zero, List.set_cons_succ]
          refine wpAnyG_take (v := ?_) 7 (by rfl) (by kernel_rfl) (by kernel_rfl) (by kernel_rfl) (by kernel_rfl) (fun _ _ _ h => h) (Or.inl ⟨by rfl, ?_⟩) (by assumption) ?_
          rotate_left
          · (intro w' hSw; (try dsimp only at hSw); (try simp only [List.getElem_toArray, List.getElem_cons_succ, List.getElem_cons_zero]); go_simp; try (with_reducible rfl))
          simp only [Act.put, List.getElem_toArray, List.getElem_cons_succ, List.getElem_cons_zero, List.setIfInBounds_toArray, List.set_cons_zero, List.set_cons_succ]
          refine wpAnyG_take (v := ?_) 8 (by rfl) (by kernel_rfl) (by kernel_rfl) (by kernel_rfl) (by kernel_rfl) (fun _ _ _ h => h) (Or.inl ⟨by rfl, ?_⟩) (by assumption) ?_
          rotate_left
          · (intro w' hSw; (try dsimp only at hSw); (try simp only [List.getElem_toArray, List.getElem_cons_succ, List.getElem_cons_zero]); go_simp; try (with_reducible rfl))
          simp only [Act.put, List.getElem_toArray, List.getElem_cons_succ, List.getElem_cons_zero, List.setIfInBounds_toArray, List.set_cons_zero, List.set_cons_succ]
          refine wpAnyG_take (v := ?_) 9 (by rfl) (by kernel_rfl) (by kernel_rfl) (by kernel_rfl) (by kernel_rfl) (fun _ _ _ h => h) (Or.inl ⟨by rfl, ?_⟩) (by assumption) ?_
          rotate_left
          · (intro w' hSw; (try dsimp only at hSw); (try simp only [List.getElem_toArray, List.getElem_cons_succ, List.getElem_cons_zero]); go_simp; try (with_reducible rfl))
          simp only [Act.put, List.getElem_toArray, List.getElem_cons_succ, List.getElem_cons_zero, List.setIfInBounds_toArray, List.set_cons_zero, List.set_cons_succ]
          refine wpAnyG_take (v := ?_) 10 (by rfl) (by kernel_rfl) (by kernel_rfl) (by kernel_rfl) (by kernel_rfl) (fun _ _ _ h => h) (Or.inl ⟨by rfl, ?_⟩) (by assumption) ?_
          rotate_left
          · (intro w' hSw; (try dsimp only at hSw); (try simp only [List.getElem_toArray, List.getElem_cons_succ, List.getElem_cons_zero]); go_simp; try (with_reducible rfl))
          simp only [Act.put, List.getElem_toArray, List.getElem_cons_succ, List.getElem_cons_zero, List.setIfInBounds_toArray, List.set_cons_zero, List.set_cons_succ]
          refine wpAnyG_take (v := ?_) 11 (by rfl) (by kernel_rfl) (by kernel_rfl) (by kernel_rfl) (by kernel_rfl) (fun _ _ _ h => h) (Or.inl ⟨by rfl, ?_⟩) (by assumption) ?_
          rotate_left
          · (intro w' hSw; (try dsimp only at hSw); (try simp only [List.getElem_toArray, List.getElem_cons_succ, List.getElem_cons_zero]); go_simp; try (with_reducible rfl))
          simp only [Act.put, List.getElem_toArray, List.getElem_cons_succ, List.getElem_cons_zero, List.setIfInBounds_toArray, List.set_cons_zero, List.set_cons_succ]
          refine wpAnyG_take (v := ?_) 12 (by rfl) (by kernel_rfl) (by kernel_rfl) (by kernel_rfl) (by kernel_rfl) (fun _ _ _ h => h) (Or.inl ⟨by rfl, ?_⟩) (by assumption) ?_
          rotate_left
          · (intro w' hSw; (try dsimp only at hSw); (try simp only [List.getElem_toArray, List.getElem_cons_succ, List.getElem_cons_zero]); go_simp; try (with_reducible rfl))
          simp only [Act.put, List.getElem_toArray, List.getElem_cons_succ, List.getElem_cons_zero, List.setIfInBounds_toArray, List.set_cons_zero, List.set_cons_succ]
          refine wpAnyG_ready [13] (by kernel_rfl) (by simp) ?_
          refine AllReadyG.cons 13 (by rfl) (fun K hK => ?_) ?_
          · simp only [List.getElem_toArray, List.getElem_cons_succ, List.getElem_cons_zero]
            go_simp
            go_at_call 12
            refine (unhide HK1 _ hbr).mono ?_
            rintro e wX ⟨pv, P1, L1, x9, rfl, hoX, hRX, hlX⟩
            have hbX := unhide HTR _ _ hbr hlX
            refine hK.out _ _ (unhide HS8 _ (hxr.trans (hlX.mono hxr.size))) (fun _ => ?_)
            clear hK K
            try simp only [Act.put, List.setIfInBounds_toArray, List.set_cons_zero, List.set_cons_succ]
            refine wpAnyG_take (v := ?_) 14 (by rfl) (by kernel_rfl) (by kernel_rfl) (by kernel_rfl) (by kernel_rfl) (fun _ _ _ h => h) (Or.inl ⟨by rfl, ?_⟩) (by assumption) ?_
            rotate_left
            · (intro w' hSw; (try dsimp only at hSw); (try simp only [List.getElem_toArray, List.getElem_cons_succ, List.getElem_cons_zero]); go_simp; try (with_reducible rfl))
            simp only [Act.put, List.getElem_toArray, List.getElem_cons_succ, List.getElem_cons_zero, List.setIfInBounds_toArray, List.set_cons_zero, List.set_cons_succ]
            refine wpAnyG_take (v := ?_) 15 (by rfl) (by kernel_rfl) (by kernel_rfl) (by kernel_rfl) (by kernel_rfl) (fun _ _ _ h => h) (Or.inl ⟨by rfl, ?_⟩) (by assumption) ?_
            rotate_left
            · (intro w' hSw; (try dsimp only at hSw); (try simp only [List.getElem_toArray, List.getElem_cons_succ, List.getElem_cons_zero]); go_simp; try (with_reducible rfl))
            simp only [Act.put, List.getElem_toArray, List.getElem_cons_succ, List.getElem_cons_zero, List.setIfInBounds_toArray, List.set_cons_zero, List.set_cons_succ]
            refine wpAnyG_take (v := ?_) 16 (by rfl) (by kernel_rfl) (by kernel_rfl) (by kernel_rfl) (by kernel_rfl) (fun _ _ _ h => h) (Or.inl ⟨by rfl, ?_⟩) (by assumption) ?_
            rotate_left
            · (intro w' hSw; (try dsimp only at hSw); (try simp only [List.getElem_toArray, List.getElem_cons_succ, List.getElem_cons_zero]); go_simp; try (with_reducible rfl))
            simp only [Act.put, List.getElem_toArray, List.getElem_cons_succ, List.getElem_cons_zero, List.setIfInBounds_toArray, List.set_cons_zero, List.set_cons_succ]
            refine wpAnyG_take (v := ?_) 17 (by rfl) (by kernel_rfl) (by kernel_rfl) (by kernel_rfl) (by kernel_rfl) (fun _ _ _ h => h) (Or.inl ⟨by rfl, ?_⟩) (by assumption) ?_
            rotate_left
            · (intro w' hSw; (try dsimp only at hSw); (try simp only [List.getElem_toArray, List.getElem_cons_succ, List.getElem_cons_zero]); go_simp; try (with_reducible rfl))
            simp only [Act.put, List.getElem_toArray, List.getElem_cons_succ, List.getElem_cons_zero, List.setIfInBounds_toArray, List.set_cons_zero, List.set_cons_succ]
            refine wpAnyG_take (v := ?_) 18 (by rfl) (by kernel_rfl) (by kernel_rfl) (by kernel_rfl) (by kernel_rfl) (fun _ _ _ h => h) (Or.inl ⟨by rfl, ?_⟩) (by assumption) ?_
            rotate_left
            · (intro w' hSw; (try dsimp only at hSw); (try simp only [List.getElem_toArray, List.getElem_cons_succ, List.getElem_cons_zero]); go_simp; try (with_reducible rfl))
            simp only [Act.put, List.getElem_toArray, List.getElem_cons_succ, List.getElem_cons_zero, List.setIfInBounds_toArray, List.set_cons_zero, List.set_cons_succ]
            refine wpAnyG_done (by kernel_rfl) ?_ _
            refine NoPanic.normal ?_
            go_wp2
            go_meet
            exact ⟨P1, L1, x9, rfl, hide ⟨hoX.ints, hRX, hbX, hxr.trans (hlX.mono hxr.size)⟩⟩
          exact AllReadyG.nil
        case rest =>
          obtain ⟨wA, rfl⟩ : ∃ wA, wA = wc := ⟨_, rfl⟩
          obtain ⟨P1, L1, x9, rfl, HA⟩ := hcut
          have hbA := (unhide HA).2.2.1
          have HS8' : Hid (∀ w', Below wA.heap.size wA w' → (w'.cell? ⟨w3.heap.size, 0, none⟩ = some (.int .i64 q.n) ∧ w'.cell? ⟨w3.heap.size, 1, none⟩ = some (.slice ta q.tail.length tc) ∧ w'.cell? ⟨w3.heap.size, 2, none⟩ = some (.slice na q.next.length nc) ∧ w'.cell? ⟨w3.heap.size, 3, none⟩ = some (.slice ca q.cap.length cc)) ∧ w'.cell? ⟨gL, i, none⟩ = some (.slice (some ⟨g, 0, none⟩) 2 2) ∧ w'.cell? ⟨g, 0, none⟩ = some (.int .i64 pa) ∧ w'.cell? ⟨g, 1, none⟩ = some (.int .i64 pb)) := hide fun w' hb => unhide HS8 w' (((unhide HA).2.2.2).trans (hb.mono ((unhide HA).2.2.2).size))
          clear HS8
          have HS8 := HS8'
          clear HS8'
          have HpA := hide ((unhide Hpr).trans ((unhide HA).2.2.2.mono (unhide Hpr).size))
          have HoA := hide (unhide HA).1
          have HlA := hide (unhide HLn _ _ _ _ _ (unhide HA).2.1)
          have HRA := hide (unhide HA).2.1
          clear HA hbr Hpr
          go_upto_region 9 with fail
          go_cut [16, 17] (fun a1 a2 wx => a2 = .int .i64 E ∧ Hid (Ints wx a1 P1 ∧ Below (w3.heap.size + 1) W4 wx ∧ Below wA.heap.size wA wx))
          case first =>
            have hxr : Below wA.heap.size wA wA.drew := (Below.refl _ _).drew
            have hbA := hbA.drew
            refine wp_region_G (fun w' => (w'.cell? ⟨w3.heap.size, 0, none⟩ = some (.int .i64 q.n) ∧ w'.cell? ⟨w3.heap.size, 1, none⟩ = some (.slice ta q.tail.length tc) ∧ w'.cell? ⟨w3.heap.size, 2, none⟩ = some (.slice na q.next.length nc) ∧ w'.cell? ⟨w3.heap.size, 3, none⟩ = some (.slice ca q.cap.length cc)) ∧ w'.cell? ⟨gL, i, none⟩ = some (.slice (some ⟨g, 0, none⟩) 2 2) ∧ w'.cell? ⟨g, 0, none⟩ = some (.int .i64 pa) ∧ w'.cell? ⟨g, 1, none⟩ = some (.int .i64 pb)) (fun _ => false) (by kernel_rfl) (unhide HS8 _ hxr) (fun hHeld => ?_)
            generalize hwq : wA.drew = wq at *
            clear hwq
            refine wpAnyG_take (v := ?_) 0 (by rfl) (by kernel_rfl) (by kernel_rfl) (by kernel_rfl) (by kernel_rfl) (fun _ _ _ h => h) (Or.inl ⟨by rfl, ?_⟩) (by assumption) ?_
            rotate_left
            · (intro w' hSw; (try dsimp only at hSw); (try simp only [List.getElem_toArray, List.getElem_cons_zero]); go_simp; try (with_reducible rfl))
            simp only [Act.put, List.getElem_toArray, List.getElem_cons_zero, List.setIfInBounds_toArray, List.set_cons_zero, List.set_cons_succ]
            refine wpAnyG_take (v := ?_) 1 (by rfl) (by kernel_rfl) (by kernel_rfl) (by kernel_rfl) (by kernel_rfl) (fun _ _ _ h => h) (Or.inl ⟨by rfl, ?_⟩) (by assumption) ?_
            rotate_left
            · (intro w' hSw; (try dsimp only at hSw); (try simp only [List.getElem_toArray, List.getElem_cons_succ, List.getElem_cons_zero]); go_simp; try (with_reducible rfl))
            simp only [Act.put, List.getElem_toArray, List.getElem_cons_succ, List.getElem_cons_zero, List.setIfInBounds_toArray, List.set_cons_zero, List.set_cons_succ]
            refine wpAnyG_take (v := ?_) 2 (by rfl) (by kernel_rfl) (by kernel_rfl) (by kernel_rfl) (by kernel_rfl) (fun _ _ _ h => h) (Or.inl ⟨by rfl, ?_⟩) (by assumption) ?_
            rotate_left
            · (intro w' hSw; (try dsimp only at hSw); (try simp only [List.getElem_toArray, List.getElem_cons_succ, List.getElem_cons_zero]); go_simp; try (with_reducible rfl))
            simp only [Act.put, List.getElem_toArray, List.getElem_cons_succ, List.getElem_cons_zero, List.setIfInBounds_toArray, List.set_cons_zero, List.set_cons_succ]
            refine wpAnyG_take (v := ?_) 3 (by rfl) (by kernel_rfl) (by kernel_rfl) (by kernel_rfl) (by kernel_rfl) (fun _ _ _ h => h) (Or.inl ⟨by rfl, ?_⟩) (by assumption) ?_
            rotate_left
            · (intro w' hSw; (try dsimp only at hSw); (try simp only [List.getElem_toArray, List.getElem_cons_succ, List.getElem_cons_zero]); go_simp; try (with_reducible rfl))
            simp only [Act.put, List.getElem_toArray, List.getElem_cons_succ, List.getElem_cons_zero, List.setIfInBounds_toArray, List.set_cons_zero, List.set_cons_succ]
            refine wpAnyG_take (v := ?_) 4 (by rfl) (by kernel_rfl) (by kernel_rfl) (by kernel_rfl) (by kernel_rfl) (fun _ _ _ h => h) (Or.inl ⟨by rfl, ?_⟩) (by assumption) ?_
            rotate_left
            · (intro w' hSw; (try dsimp only at hSw); (try simp only [List.getElem_toArray, List.getElem_cons_succ, List.getElem_cons_zero]); go_simp; try (with_reducible rfl))
            simp only [Act.put, List.getElem_toArray, List.getElem_cons_succ, List.getElem_cons_zero, List.setIfInBounds_toArray, List.set_cons_zero, List.set_cons_succ]
            refine wpAnyG_take (v := ?_) 5 (by rfl) (by kernel_rfl) (by kernel_rfl) (by kernel_rfl) (by kernel_rfl) (fun _ _ _ h => h) (Or.inl ⟨by rfl, ?_⟩) (by assumption) ?_
            rotate_left
            · (intro w' hSw; (try dsimp only at hSw); (try simp only [List.getElem_toArray, List.getElem_cons_succ, List.getElem_cons_zero]); go_simp; try (with_reducible rfl))
            simp only [Act.put, List.getElem_toArray, List.getElem_cons_succ, List.getElem_cons_zero, List.setIfInBounds_toArray, List.set_cons_zero, List.set_cons_succ]
            refine wpAnyG_take (v := ?_) 6 (by rfl) (by kernel_rfl) (by kernel_rfl) (by kernel_rfl) (by kernel_rfl) (fun _ _ _ h => h) (Or.inl ⟨by rfl, ?_⟩) (by assumption) ?_
            rotate_left
            · (intro w' hSw; (try dsimp only at hSw); (try simp only [List.getElem_toArray, List.getElem_cons_succ, List.getElem_cons_zero]); go_simp; try (with_reducible rfl))
            simp only [Act.put, List.getElem_toArray, List.getElem_cons_succ, List.getElem_cons_zero, List.setIfInBounds_toArray, List.set_cons_zero, List.set_cons_succ]
            refine wpAnyG_take (v := ?_) 7 (by rfl) (by kernel_rfl) (by kernel_rfl) (by kernel_rfl) (by kernel_rfl) (fun _ _ _ h => h) (Or.inl ⟨by rfl, ?_⟩) (by assumption) ?_
            rotate_left
            · (intro w' hSw; (try dsimp only at hSw); (try simp only [List.getElem_toArray, List.getElem_cons_succ, List.getElem_cons_zero]); go_simp; try (with_reducible rfl))
            simp only [Act.put, List.getElem_toArray, List.getElem_cons_succ, List.getElem_cons_zero, List.setIfInBounds_toArray, List.set_cons_zero, List.set_cons_succ]
            refine wpAnyG_take (v := ?_) 8 (by rfl) (by kernel_rfl) (by kernel_rfl) (by kernel_rfl) (by kernel_rfl) (fun _ _ _ h => h) (Or.inl ⟨by rfl, ?_⟩) (by assumption) ?_
            rotate_left
            · (intro w' hSw; (try dsimp only at hSw); (try simp only [List.getElem_toArray, List.getElem_cons_succ, List.getElem_cons_zero]); go_simp; try (with_reducible rfl))
            simp only [Act.put, List.getElem_toArray, List.getElem_cons_succ, List.getElem_cons_zero, List.setIfInBounds_toArray, List.set_cons_zero, List.set_cons_succ]
            refine wpAnyG_take (v := ?_) 9 (by rfl) (by kernel_rfl) (by kernel_rfl) (by kernel_rfl) (by kernel_rfl) (fun _ _ _ h => h) (Or.inl ⟨by rfl, ?_⟩) (by assumption) ?_
            rotate_left
            · (intro w' hSw; (try dsimp only at hSw); (try simp only [List.getElem_toArray, List.getElem_cons_succ, List.getElem_cons_zero]); go_simp; try (with_reducible rfl))
            simp only [Act.put, List.getElem_toArray, List.getElem_cons_succ, List.getElem_cons_zero, List.setIfInBounds_toArray, List.set_cons_zero, List.set_cons_succ]
            refine wpAnyG_take (v := ?_) 10 (by rfl) (by kernel_rfl) (by kernel_rfl) (by kernel_rfl) (by kernel_rfl) (fun _ _ _ h => h) (Or.inl ⟨by rfl, ?_⟩) (by assumption) ?_
            rotate_left
            · (intro w' hSw; (try dsimp only at hSw); (try simp only [List.getElem_toArray, List.getElem_cons_succ, List.getElem_cons_zero]); go_simp; try (with_reducible rfl))
            simp only [Act.put, List.getElem_toArray, List.getElem_cons_succ, List.getElem_cons_zero, List.setIfInBounds_toArray, List.set_cons_zero, List.set_cons_succ]
            refine wpAnyG_take (v := ?_) 11 (by rfl) (by kernel_rfl) (by kernel_rfl) (by kernel_rfl) (by kernel_rfl) (fun _ _ _ h => h) (Or.inl ⟨by rfl, ?_⟩) (by assumption) ?_
            rotate_left
            · (intro w' hSw; (try dsimp only at hSw); (try simp only [List.getElem_toArray, List.getElem_cons_succ, List.getElem_cons_zero]); go_simp; try (with_reducible rfl))
            simp only [Act.put, List.getElem_toArray, List.getElem_cons_succ, List.getElem_cons_zero, List.setIfInBounds_toArray, List.set_cons_zero, List.set_cons_succ]
            refine wpAnyG_take (v := ?_) 12 (by rfl) (by kernel_rfl) (by kernel_rfl) (by kernel_rfl) (by kernel_rfl) (fun _ _ _ h => h) (Or.inl ⟨by rfl, ?_⟩) (by assumption) ?_
            rotate_left
            · (intro w' hSw; (try dsimp only at hSw); (try simp only [List.getElem_toArray, List.getElem_cons_succ, List.getElem_cons_zero]); go_simp; try (with_reducible rfl))
            simp only [Act.put, List.getElem_toArray, List.getElem_cons_succ, List.getElem_cons_zero, List.setIfInBounds_toArray, List.set_cons_zero, List.set_cons_succ]
            refine wpAnyG_ready [13] (by kernel_rfl) (by simp) ?_
            refine AllReadyG.cons 13 (by rfl) (fun K hK => ?_) ?_
            · simp only [List.getElem_toArray, List.getElem_cons_succ, List.getElem_cons_zero]
              go_simp
              go_at_call 13
              refine (unhide HK2 _ _ _ _ hbA (unhide HRA)).mono ?_
              rintro e wY ⟨pv2, rfl, hoY, hlY⟩
              have hbY := unhide HTR _ _ hbA hlY
              refine hK.out _ _ (unhide HS8 _ (hxr.trans (hlY.mono hxr.size))) (fun _ => ?_)
              clear hK K
              try simp only [Act.put, List.setIfInBounds_toArray, List.set_cons_zero, List.set_cons_succ]
              refine wpAnyG_take (v := ?_) 14 (by rfl) (by kernel_rfl) (by kernel_rfl) (by kernel_rfl) (by kernel_rfl) (fun _ _ _ h => h) (Or.inl ⟨by rfl, ?_⟩) (by assumption) ?_
              rotate_left
              · (intro w' hSw; (try dsimp only at hSw); (try simp only [List.getElem_toArray, List.getElem_cons_succ, List.getElem_cons_zero]); go_simp; try (with_reducible rfl))
              simp only [Act.put, List.getElem_toArray, List.getElem_cons_succ, List.getElem_cons_zero, List.setIfInBounds_toArray, List.set_cons_zero, List.set_cons_succ]
              refine wpAnyG_take (v := ?_) 15 (by rfl) (by kernel_rfl) (by kernel_rfl) (by kernel_rfl) (by kernel_rfl) (fun _ _ _ h => h) (Or.inl ⟨by rfl, ?_⟩) (by assumption) ?_
              rotate_left
              · (intro w' hSw; (try dsimp only at hSw); (try simp only [List.getElem_toArray, List.getElem_cons_succ, List.getElem_cons_zero]); go_simp; try (with_reducible rfl))
              simp only [Act.put, List.getElem_toArray, List.getElem_cons_succ, List.getElem_cons_zero, List.setIfInBounds_toArray, List.set_cons_zero, List.set_cons_succ]
              refine wpAnyG_take (v := ?_) 16 (by rfl) (by kernel_rfl) (by kernel_rfl) (by kernel_rfl) (by kernel_rfl) (fun _ _ _ h => h) (Or.inl ⟨by rfl, ?_⟩) (by assumption) ?_
              rotate_left
              · (intro w' hSw; (try dsimp only at hSw); (try simp only [List.getElem_toArray, List.getElem_cons_succ, List.getElem_cons_zero]); go_simp; try (with_reducible rfl))
              simp only [Act.put, List.getElem_toArray, List.getElem_cons_succ, List.getElem_cons_zero, List.setIfInBounds_toArray, List.set_cons_zero, List.set_cons_succ]
              refine wpAnyG_take (v := ?_) 17 (by rfl) (by kernel_rfl) (by kernel_rfl) (by kernel_rfl) (by kernel_rfl) (fun _ _ _ h => h) (Or.inl ⟨by rfl, ?_⟩) (by assumption) ?_
              rotate_left
              · (intro w' hSw; (try dsimp only at hSw); (try simp only [List.getElem_toArray, List.getElem_cons_succ, List.getElem_cons_zero]); go_simp; try (with_reducible rfl))
              simp only [Act.put, List.getElem_toArray, List.getElem_cons_succ, List.getElem_cons_zero, List.setIfInBounds_toArray, List.set_cons_zero, List.set_cons_succ]
              refine wpAnyG_take (v := ?_) 18 (by rfl) (by kernel_rfl) (by kernel_rfl) (by kernel_rfl) (by kernel_rfl) (fun _ _ _ h => h) (Or.inl ⟨by rfl, ?_⟩) (by assumption) ?_
              rotate_left
              · (intro w' hSw; (try dsimp only at hSw); (try simp only [List.getElem_toArray, List.getElem_cons_succ, List.getElem_cons_zero]); go_simp; try (with_reducible rfl))
              simp only [Act.put, List.getElem_toArray, List.getElem_cons_succ, List.getElem_cons_zero, List.setIfInBounds_toArray, List.set_cons_zero, List.set_cons_succ]
              refine wpAnyG_done (by kernel_rfl) ?_ _
              refine NoPanic.normal ?_
              go_wp2
              go_meet
              exact ⟨rfl, hide ⟨hoY.ints, hbY, hxr.trans (hlY.mono hxr.size)⟩⟩
            exact AllReadyG.nil
          case rest =>
            obtain ⟨wB, rfl⟩ : ∃ wB, wB = wc := ⟨_, rfl⟩
            obtain ⟨rfl, HB⟩ := hcut
            have hbB := (unhide HB).2.1
            have HS8' : Hid (∀ w', Below wB.heap.size wB w' → (w'.cell? ⟨w3.heap.size, 0, none⟩ = some (.int .i64 q.n) ∧ w'.cell? ⟨w3.heap.size, 1, none⟩ = some (.slice ta q.tail.length tc) ∧ w'.cell? ⟨w3.heap.size, 2, none⟩ = some (.slice na q.next.length nc) ∧ w'.cell? ⟨w3.heap.size, 3, none⟩ = some (.slice ca q.cap.length cc)) ∧ w'.cell? ⟨gL, i, none⟩ = some (.slice (some ⟨g, 0, none⟩) 2 2) ∧ w'.cell? ⟨g, 0, none⟩ = some (.int .i64 pa) ∧ w'.cell? ⟨g, 1, none⟩ = some (.int .i64 pb)) := hide fun w' hb => unhide HS8 w' (((unhide HB).2.2).trans (hb.mono ((unhide HB).2.2).size))
            clear HS8
            have HS8 := HS8'
            clear HS8'
            have HpB := hide ((unhide HpA).trans ((unhide HB).2.2.mono (unhide HpA).size))
            have HoB := hide (And.intro ((unhide HoA).below (unhide HB).2.2) (unhide HB).1)
            clear HB hbA HpA HoA HRA
            go_upto_region 10 with fail
            go_cut [18, 19, 20] (fun a1 a2 a3 wx => ∃ P L x, a2 = .int .i64 x ∧ a3 = .int .i64 E ∧ Hid (Ints wx a1 L ∧ Sp.RimIs q pa pb P L x ∧ Below (w3.heap.size + 1) W4 wx ∧ Below wB.heap.size wB wx))
            case first =>
              have hxr : Below wB.heap.size wB wB.drew := (Below.refl _ _).drew
              have hbB := hbB.drew
              refine wp_region_G (fun w' => (w'.cell? ⟨w3.heap.size, 0, none⟩ = some (.int .i64 q.n) ∧ w'.cell? ⟨w3.heap.size, 1, none⟩ = some (.slice ta q.tail.length tc) ∧ w'.cell? ⟨w3.heap.size, 2, none⟩ = some (.slice na q.next.length nc) ∧ w'.cell? ⟨w3.heap.size, 3, none⟩ = some (.slice ca q.cap.length cc)) ∧ w'.cell? ⟨gL, i, none⟩ = some (.slice (some ⟨g, 0, none⟩) 2 2) ∧ w'.cell? ⟨g, 0, none⟩ = some (.int .i64 pa) ∧ w'.cell? ⟨g, 1, none⟩ = some (.int .i64 pb)) (fun _ => false) (by kernel_rfl) (unhide HS8 _ hxr) (fun hHeld => ?_)
              generalize hwq : wB.drew = wq at *
              clear hwq
              refine wpAnyG_take (v := ?_) 0 (by rfl) (by kernel_rfl) (by kernel_rfl) (by kernel_rfl) (by kernel_rfl) (fun _ _ _ h => h) (Or.inl ⟨by rfl, ?_⟩) (by assumption) ?_
              rotate_left
              · (intro w' hSw; (try dsimp only at hSw); (try simp only [List.getElem_toArray, List.getElem_cons_zero]); go_simp; try (with_reducible rfl))
              simp only [Act.put, List.getElem_toArray, List.getElem_cons_zero, List.setIfInBounds_toArray, List.set_cons_zero, List.set_cons_succ]
              refine wpAnyG_take (v := ?_) 1 (by rfl) (by kernel_rfl) (by kernel_rfl) (by kernel_rfl) (by kernel_rfl) (fun _ _ _ h => h) (Or.inl ⟨by rfl, ?_⟩) (by assumption) ?_
              rotate_left
              · (intro w' hSw; (try dsimp only at hSw); (try simp only [List.getElem_toArray, List.getElem_cons_succ, List.getElem_cons_zero]); go_simp; try (with_reducible rfl))
              simp only [Act.put, List.getElem_toArray, List.getElem_cons_succ, List.getElem_cons_zero, List.setIfInBounds_toArray, List.set_cons_zero, List.set_cons_succ]
              refine wpAnyG_take (v := ?_) 2 (by rfl) (by kernel_rfl) (by kernel_rfl) (by kernel_rfl) (by kernel_rfl) (fun _ _ _ h => h) (Or.inl ⟨by rfl, ?_⟩) (by assumption) ?_
              rotate_left
              · (intro w' hSw; (try dsimp only at hSw); (try simp only [List.getElem_toArray, List.getElem_cons_succ, List.getElem_cons_zero]); go_simp; try (with_reducible rfl))
              simp only [Act.put, List.getElem_toArray, List.getElem_cons_succ, List.getElem_cons_zero, List.setIfInBounds_toArray, List.set_cons_zero, List.set_cons_succ]
              refine wpAnyG_take (v := ?_) 3 (by rfl) (by kernel_rfl) (by kernel_rfl) (by kernel_rfl) (by kernel_rfl) (fun _ _ _ h => h) (Or.inl ⟨by rfl, ?_⟩) (by assumption) ?_
              rotate_left
              · (intro w' hSw; (try dsimp only at hSw); (try simp only [List.getElem_toArray, List.getElem_cons_succ, List.getElem_cons_zero]); go_simp; try (with_reducible rfl))
              simp only [Act.put, List.getElem_toArray, List.getElem_cons_succ, List.getElem_cons_zero, List.setIfInBounds_toArray, List.set_cons_zero, List.set_cons_succ]
              refine wpAnyG_take (v := ?_) 4 (by rfl) (by kernel_rfl) (by kernel_rfl) (by kernel_rfl) (by kernel_rfl) (fun _ _ _ h => h) (Or.inl ⟨by rfl, ?_⟩) (by assumption) ?_
              rotate_left
              · (intro w' hSw; (try dsimp only at hSw); (try simp only [List.getElem_toArray, List.getElem_cons_succ, List.getElem_cons_zero]); go_simp; try (with_reducible rfl))
              simp only [Act.put, List.getElem_toArray, List.getElem_cons_succ, List.getElem_cons_zero, List.setIfInBounds_toArray, List.set_cons_zero, List.set_cons_succ]
              refine wpAnyG_take (v := ?_) 5 (by rfl) (by kernel_rfl) (by kernel_rfl) (by kernel_rfl) (by kernel_rfl) (fun _ _ _ h => h) (Or.inl ⟨by rfl, ?_⟩) (by assumption) ?_
              rotate_left
              · (intro w' hSw; (try dsimp only at hSw); (try simp only [List.getElem_toArray, List.getElem_cons_succ, List.getElem_cons_zero]); go_simp; try (with_reducible rfl))
              simp only [Act.put, List.getElem_toArray, List.getElem_cons_succ, List.getElem_cons_zero, List.setIfInBounds_toArray, List.set_cons_zero, List.set_cons_succ]
              refine wpAnyG_take (v := ?_) 6 (by rfl) (by kernel_rfl) (by kernel_rfl) (by kernel_rfl) (by kernel_rfl) (fun _ _ _ h => h) (Or.inl ⟨by rfl, ?_⟩) (by assumption) ?_
              rotate_left
              · (intro w' hSw; (try dsimp only at hSw); (try simp only [List.getElem_toArray, List.getElem_cons_succ, List.getElem_cons_zero]); go_simp; try (with_reducible rfl))
              simp only [Act.put, List.getElem_toArray, List.getElem_cons_succ, List.getElem_cons_zero, List.setIfInBounds_toArray, List.set_cons_zero, List.set_cons_succ]
              refine wpAnyG_take (v := ?_) 7 (by rfl) (by kernel_rfl) (by kernel_rfl) (by kernel_rfl) (by kernel_rfl) (fun _ _ _ h => h) (Or.inl ⟨by rfl, ?_⟩) (by assumption) ?_
              rotate_left
              · (intro w' hSw; (try dsimp only at hSw); (try simp only [List.getElem_toArray, List.getElem_cons_succ, List.getElem_cons_zero]); go_simp; try (with_reducible rfl))
              simp only [Act.put, List.getElem_toArray, List.getElem_cons_succ, List.getElem_cons_zero, List.setIfInBounds_toArray, List.set_cons_zero, List.set_cons_succ]
              refine wpAnyG_take (v := ?_) 8 (by rfl) (by kernel_rfl) (by kernel_rfl) (by kernel_rfl) (by kernel_rfl) (fun _ _ _ h => h) (Or.inl ⟨by rfl, ?_⟩) (by assumption) ?_
              rotate_left
              · (intro w' hSw; (try dsimp only at hSw); (try simp only [List.getElem_toArray, List.getElem_cons_succ, List.getElem_cons_zero]); go_simp; try (with_reducible rfl))
              simp only [Act.put, List.getElem_toArray, List.getElem_cons_succ, List.getElem_cons_zero, List.setIfInBounds_toArray, List.set_cons_zero, List.set_cons_succ]
              refine wpAnyG_take (v := ?_) 9 (by rfl) (by kernel_rfl) (by kernel_rfl) (by kernel_rfl) (by kernel_rfl) (fun _ _ _ h => h) (Or.inl ⟨by rfl, ?_⟩) (by assumption) ?_
              rotate_left
              · (intro w' hSw; (try dsimp only at hSw); (try simp only [List.getElem_toArray, List.getElem_cons_succ, List.getElem_cons_zero]); go_simp; try (with_reducible rfl))
              simp only [Act.put, List.getElem_toArray, List.getElem_cons_succ, List.getElem_cons_zero, List.setIfInBounds_toArray, List.set_cons_zero, List.set_cons_succ]
              refine wpAnyG_take (v := ?_) 10 (by rfl) (by kernel_rfl) (by kernel_rfl) (by kernel_rfl) (by kernel_rfl) (fun _ _ _ h => h) (Or.inl ⟨by rfl, ?_⟩) (by assumption) ?_
              rotate_left
              · (intro w' hSw; (try dsimp only at hSw); (try simp only [List.getElem_toArray, List.getElem_cons_succ, List.getElem_cons_zero]); go_simp; try (with_reducible rfl))
              simp only [Act.put, List.getElem_toArray, List.getElem_cons_succ, List.getElem_cons_zero, List.setIfInBounds_toArray, List.set_cons_zero, List.set_cons_succ]
              refine wpAnyG_take (v := ?_) 11 (by rfl) (by kernel_rfl) (by kernel_rfl) (by kernel_rfl) (by kernel_rfl) (fun _ _ _ h => h) (Or.inl ⟨by rfl, ?_⟩) (by assumption) ?_
              rotate_left
              · (intro w' hSw; (try dsimp only at hSw); (try simp only [List.getElem_toArray, List.getElem_cons_succ, List.getElem_cons_zero]); go_simp; try (with_reducible rfl))
              simp only [Act.put, List.getElem_toArray, List.getElem_cons_succ, List.getElem_cons_zero, List.setIfInBounds_toArray, List.set_cons_zero, List.set_cons_succ]
              refine wpAnyG_take (v := ?_) 12 (by rfl) (by kernel_rfl) (by kernel_rfl) (by kernel_rfl) (by kernel_rfl) (fun _ _ _ h => h) (Or.inl ⟨by rfl, ?_⟩) (by assumption) ?_
              rotate_left
              · (intro w' hSw; (try dsimp only at hSw); (try simp only [List.getElem_toArray, List.getElem_cons_succ, List.getElem_cons_zero]); go_simp; try (with_reducible rfl))
              simp only [Act.put, List.getElem_toArray, List.getElem_cons_succ, List.getElem_cons_zero, List.setIfInBounds_toArray, List.set_cons_zero, List.set_cons_succ]
              refine wpAnyG_ready [13] (by kernel_rfl) (by simp) ?_
              refine AllReadyG.cons 13 (by rfl) (fun K hK => ?_) ?_
              · simp only [List.getElem_toArray, List.getElem_cons_succ, List.getElem_cons_zero]
                go_simp
                go_at_call 14
                refine (unhide HK3 _ hbB).mono ?_
                rintro e wZ ⟨lv, P2, L2, x8, rfl, hoZ, hRZ, hlZ⟩
                have hbZ := unhide HTR _ _ hbB hlZ
                refine hK.out _ _ (unhide HS8 _ (hxr.trans (hlZ.mono hxr.size))) (fun _ => ?_)
                clear hK K
                try simp only [Act.put, List.setIfInBounds_toArray, List.set_cons_zero, List.set_cons_succ]
                refine wpAnyG_take (v := ?_) 14 (by rfl) (by kernel_rfl) (by kernel_rfl) (by kernel_rfl) (by kernel_rfl) (fun _ _ _ h => h) (Or.inl ⟨by rfl, ?_⟩) (by assumption) ?_
                rotate_left
                · (intro w' hSw; (try dsimp only at hSw); (try simp only [List.getElem_toArray, List.getElem_cons_succ, List.getElem_cons_zero]); go_simp; try (with_reducible rfl))
                simp only [Act.put, List.getElem_toArray, List.getElem_cons_succ, List.getElem_cons_zero, List.setIfInBounds_toArray, List.set_cons_zero, List.set_cons_succ]
                refine wpAnyG_take (v := ?_) 15 (by rfl) (by kernel_rfl) (by kernel_rfl) (by kernel_rfl) (by kernel_rfl) (fun _ _ _ h => h) (Or.inl ⟨by rfl, ?_⟩) (by assumption) ?_
                rotate_left
                · (intro w' hSw; (try dsimp only at hSw); (try simp only [List.getElem_toArray, List.getElem_cons_succ, List.getElem_cons_zero]); go_simp; try (with_reducible rfl))
                simp only [Act.put, List.getElem_toArray, List.getElem_cons_succ, List.getElem_cons_zero, List.setIfInBounds_toArray, List.set_cons_zero, List.set_cons_succ]
                refine wpAnyG_take (v := ?_) 16 (by rfl) (by kernel_rfl) (by kernel_rfl) (by kernel_rfl) (by kernel_rfl) (fun _ _ _ h => h) (Or.inl ⟨by rfl, ?_⟩) (by assumption) ?_
                rotate_left
                · (intro w' hSw; (try dsimp only at hSw); (try simp only [List.getElem_toArray, List.getElem_cons_succ, List.getElem_cons_zero]); go_simp; try (with_reducible rfl))
                simp only [Act.put, List.getElem_toArray, List.getElem_cons_succ, List.getElem_cons_zero, List.setIfInBounds_toArray, List.set_cons_zero, List.set_cons_succ]
                refine wpAnyG_take (v := ?_) 17 (by rfl) (by kernel_rfl) (by kernel_rfl) (by kernel_rfl) (by kernel_rfl) (fun _ _ _ h => h) (Or.inl ⟨by rfl, ?_⟩) (by assumption) ?_
                rotate_left
                · (intro w' hSw; (try dsimp only at hSw); (try simp only [List.getElem_toArray, List.getElem_cons_succ, List.getElem_cons_zero]); go_simp; try (with_reducible rfl))
                simp only [Act.put, List.getElem_toArray, List.getElem_cons_succ, List.getElem_cons_zero, List.setIfInBounds_toArray, List.set_cons_zero, List.set_cons_succ]
                refine wpAnyG_take (v := ?_) 18 (by rfl) (by kernel_rfl) (by kernel_rfl) (by kernel_rfl) (by kernel_rfl) (fun _ _ _ h => h) (Or.inl ⟨by rfl, ?_⟩) (by assumption) ?_
                rotate_left
                · (intro w' hSw; (try dsimp only at hSw); (try simp only [List.getElem_toArray, List.getElem_cons_succ, List.getElem_cons_zero]); go_simp; try (with_reducible rfl))
                simp only [Act.put, List.getElem_toArray, List.getElem_cons_succ, List.getElem_cons_zero, List.setIfInBounds_toArray, List.set_cons_zero, List.set_cons_succ]
                refine wpAnyG_take (v := ?_) 19 (by rfl) (by kernel_rfl) (by kernel_rfl) (by kernel_rfl) (by kernel_rfl) (fun _ _ _ h => h) (Or.inl ⟨by rfl, ?_⟩) (by assumption) ?_
                rotate_left
                · (intro w' hSw; (try dsimp only at hSw); (try simp only [List.getElem_toArray, List.getElem_cons_succ, List.getElem_cons_zero]); go_simp; try (with_reducible rfl))
                simp only [Act.put, List.getElem_toArray, List.getElem_cons_succ, List.getElem_cons_zero, List.setIfInBounds_toArray, List.set_cons_zero, List.set_cons_succ]
                refine wpAnyG_take (v := ?_) 20 (by rfl) (by kernel_rfl) (by kernel_rfl) (by kernel_rfl) (by kernel_rfl) (fun _ _ _ h => h) (Or.inl ⟨by rfl, ?_⟩) (by assumption) ?_
                rotate_left
                · (intro w' hSw; (try dsimp only at hSw); (try simp only [List.getElem_toArray, List.getElem_cons_succ, List.getElem_cons_zero]); go_simp; try (with_reducible rfl))
                simp only [Act.put, List.getElem_toArray, List.getElem_cons_succ, List.getElem_cons_zero, List.setIfInBounds_toArray, List.set_cons_zero, List.set_cons_succ]
                refine wpAnyG_done (by kernel_rfl) ?_ _
                refine NoPanic.normal ?_
                go_wp2
                go_meet
                exact ⟨P2, L2, x8, rfl, rfl, hide ⟨hoZ.ints, hRZ, hbZ, hxr.trans (hlZ.mono hxr.size)⟩⟩
              exact AllReadyG.nil
            case rest =>
              obtain ⟨wC, rfl⟩ : ∃ wC, wC = wc := ⟨_, rfl⟩
              obtain ⟨P2, L2, x8, rfl, rfl, HC⟩ := hcut
              have hbC := (unhide HC).2.2.1
              have HS8' : Hid (∀ w', Below wC.heap.size wC w' → (w'.cell? ⟨w3.heap.size, 0, none⟩ = some (.int .i64 q.n) ∧ w'.cell? ⟨w3.heap.size, 1, none⟩ = some (.slice ta q.tail.length tc) ∧ w'.cell? ⟨w3.heap.size, 2, none⟩ = some (.slice na q.next.length nc) ∧ w'.cell? ⟨w3.heap.size, 3, none⟩ = some (.slice ca q.cap.length cc)) ∧ w'.cell? ⟨gL, i, none⟩ = some (.slice (some ⟨g, 0, none⟩) 2 2) ∧ w'.cell? ⟨g, 0, none⟩ = some (.int .i64 pa) ∧ w'.cell? ⟨g, 1, none⟩ = some (.int .i64 pb)) := hide fun w' hb => unhide HS8 w' (((unhide HC).2.2.2).trans (hb.mono ((unhide HC).2.2.2).size))
              clear HS8
              have HS8 := HS8'
              clear HS8'
              have HpC := hide ((unhide HpB).trans ((unhide HC).2.2.2.mono (unhide HpB).size))
              have HoC := hide (And.intro ((unhide HoB).1.below (unhide HC).2.2.2) (And.intro ((unhide HoB).2.below (unhide HC).2.2.2) (unhide HC).1))
              have HlC := hide (unhide HLn _ _ _ _ _ (unhide HC).2.1)
              have HRC := hide (unhide HC).2.1
              clear HC hbB HpB HoB
              go_upto_region 11 with fail
              go_cut [21, 22, 23] (fun a1 a2 a3 wx => a2 = .int .i64 x8 ∧ a3 = .int .i64 E ∧ Hid (Ints wx a1 L2 ∧ Below (w3.heap.size + 1) W4 wx ∧ Below wC.heap.size wC wx))
              case first =>
                have hxr : Below wC.heap.size wC wC.drew := (Below.refl _ _).drew
                have hbC := hbC.drew
                refine wp_region_G (fun w' => (w'.cell? ⟨w3.heap.size, 0, none⟩ = some (.int .i64 q.n) ∧ w'.cell? ⟨w3.heap.size, 1, none⟩ = some (.slice ta q.tail.length tc) ∧ w'.cell? ⟨w3.heap.size, 2, none⟩ = some (.slice na q.next.length nc) ∧ w'.cell? ⟨w3.heap.size, 3, none⟩ = some (.slice ca q.cap.length cc)) ∧ w'.cell? ⟨gL, i, none⟩ = some (.slice (some ⟨g, 0, none⟩) 2 2) ∧ w'.cell? ⟨g, 0, none⟩ = some (.int .i64 pa) ∧ w'.cell? ⟨g, 1, none⟩ = some (.int .i64 pb)) (fun _ => false) (by kernel_rfl) (unhide HS8 _ hxr) (fun hHeld => ?_)
                generalize hwq : wC.drew = wq at *
                clear hwq
                refine wpAnyG_take (v := ?_) 0 (by rfl) (by kernel_rfl) (by kernel_rfl) (by kernel_rfl) (by kernel_rfl) (fun _ _ _ h => h) (Or.inl ⟨by rfl, ?_⟩) (by assumption) ?_
                rotate_left
                · (intro w' hSw; (try dsimp only at hSw); (try simp only [List.getElem_toArray, List.getElem_cons_zero]); go_simp; try (with_reducible rfl))
                simp only [Act.put, List.getElem_toArray, List.getElem_cons_zero, List.setIfInBounds_toArray, List.set_cons_zero, List.set_cons_succ]
                refine wpAnyG_take (v := ?_) 1 (by rfl) (by kernel_rfl) (by kernel_rfl) (by kernel_rfl) (by kernel_rfl) (fun _ _ _ h => h) (Or.inl ⟨by rfl, ?_⟩) (by assumption) ?_
                rotate_left
                · (intro w' hSw; (try dsimp only at hSw); (try simp only [List.getElem_toArray, List.getElem_cons_succ, List.getElem_cons_zero]); go_simp; try (with_reducible rfl))
                simp only [Act.put, List.getElem_toArray, List.getElem_cons_succ, List.getElem_cons_zero, List.setIfInBounds_toArray, List.set_cons_zero, List.set_cons_succ]
                refine wpAnyG_take (v := ?_) 2 (by rfl) (by kernel_rfl) (by kernel_rfl) (by kernel_rfl) (by kernel_rfl) (fun _ _ _ h => h) (Or.inl ⟨by rfl, ?_⟩) (by assumption) ?_
                rotate_left
                · (intro w' hSw; (try dsimp only at hSw); (try simp only [List.getElem_toArray, List.getElem_cons_succ, List.getElem_cons_zero]); go_simp; try (with_reducible rfl))
                simp only [Act.put, List.getElem_toArray, List.getElem_cons_succ, List.getElem_cons_zero, List.setIfInBounds_toArray, List.set_cons_zero, List.set_cons_succ]
                refine wpAnyG_take (v := ?_) 3 (by rfl) (by kernel_rfl) (by kernel_rfl) (by kernel_rfl) (by kernel_rfl) (fun _ _ _ h => h) (Or.inl ⟨by rfl, ?_⟩) (by assumption) ?_
                rotate_left
                · (intro w' hSw; (try dsimp only at hSw); (try simp only [List.getElem_toArray, List.getElem_cons_succ, List.getElem_cons_zero]); go_simp; try (with_reducible rfl))
                simp only [Act.put, List.getElem_toArray, List.getElem_cons_succ, List.getElem_cons_zero, List.setIfInBounds_toArray, List.set_cons_zero, List.set_cons_succ]
                refine wpAnyG_take (v := ?_) 4 (by rfl) (by kernel_rfl) (by kernel_rfl) (by kernel_rfl) (by kernel_rfl) (fun _ _ _ h => h) (Or.inl ⟨by rfl, ?_⟩) (by assumption) ?_
                rotate_left
                · (intro w' hSw; (try dsimp only at hSw); (try simp only [List.getElem_toArray, List.getElem_cons_succ, List.getElem_cons_zero]); go_simp; try (with_reducible rfl))
                simp only [Act.put, List.getElem_toArray, List.getElem_cons_succ, List.getElem_cons_zero, List.setIfInBounds_toArray, List.set_cons_zero, List.set_cons_succ]
                refine wpAnyG_take (v := ?_) 5 (by rfl) (by kernel_rfl) (by kernel_rfl) (by kernel_rfl) (by kernel_rfl) (fun _ _ _ h => h) (Or.inl ⟨by rfl, ?_⟩) (by assumption) ?_
                rotate_left
                · (intro w' hSw; (try dsimp only at hSw); (try simp only [List.getElem_toArray, List.getElem_cons_succ, List.getElem_cons_zero]); go_simp; try (with_reducible rfl))
                simp only [Act.put, List.getElem_toArray, List.getElem_cons_succ, List.getElem_cons_zero, List.setIfInBounds_toArray, List.set_cons_zero, List.set_cons_succ]
                refine wpAnyG_take (v := ?_) 6 (by rfl) (by kernel_rfl) (by kernel_rfl) (by kernel_rfl) (by kernel_rfl) (fun _ _ _ h => h) (Or.inl ⟨by rfl, ?_⟩) (by assumption) ?_
                rotate_left
                · (intro w' hSw; (try dsimp only at hSw); (try simp only [List.getElem_toArray, List.getElem_cons_succ, List.getElem_cons_zero]); go_simp; try (with_reducible rfl))
                simp only [Act.put, List.getElem_toArray, List.getElem_cons_succ, List.getElem_cons_zero, List.setIfInBounds_toArray, List.set_cons_zero, List.set_cons_succ]
                refine wpAnyG_take (v := ?_) 7 (by rfl) (by kernel_rfl) (by kernel_rfl) (by kernel_rfl) (by kernel_rfl) (fun _ _ _ h => h) (Or.inl ⟨by rfl, ?_⟩) (by assumption) ?_
                rotate_left
                · (intro w' hSw; (try dsimp only at hSw); (try simp only [List.getElem_toArray, List.getElem_cons_succ, List.getElem_cons_zero]); go_simp; try (with_reducible rfl))
                simp only [Act.put, List.getElem_toArray, List.getElem_cons_succ, List.getElem_cons_zero, List.setIfInBounds_toArray, List.set_cons_zero, List.set_cons_succ]
                refine wpAnyG_take (v := ?_) 8 (by rfl) (by kernel_rfl) (by kernel_rfl) (by kernel_rfl) (by kernel_rfl) (fun _ _ _ h => h) (Or.inl ⟨by rfl, ?_⟩) (by assumption) ?_
                rotate_left
                · (intro w' hSw; (try dsimp only at hSw); (try simp only [List.getElem_toArray, List.getElem_cons_succ, List.getElem_cons_zero]); go_simp; try (with_reducible rfl))
                simp only [Act.put, List.getElem_toArray, List.getElem_cons_succ, List.getElem_cons_zero, List.setIfInBounds_toArray, List.set_cons_zero, List.set_cons_succ]
                refine wpAnyG_take (v := ?_) 9 (by rfl) (by kernel_rfl) (by kernel_rfl) (by kernel_rfl) (by kernel_rfl) (fun _ _ _ h => h) (Or.inl ⟨by rfl, ?_⟩) (by assumption) ?_
                rotate_left
                · (intro w' hSw; (try dsimp only at hSw); (try simp only [List.getElem_toArray, List.getElem_cons_succ, List.getElem_cons_zero]); go_simp; try (with_reducible rfl))
                simp only [Act.put, List.getElem_toArray, List.getElem_cons_succ, List.getElem_cons_zero, List.setIfInBounds_toArray, List.set_cons_zero, List.set_cons_succ]
                refine wpAnyG_take (v := ?_) 10 (by rfl) (by kernel_rfl) (by kernel_rfl) (by kernel_rfl) (by kernel_rfl) (fun _ _ _ h => h) (Or.inl ⟨by rfl, ?_⟩) (by assumption) ?_
                rotate_left
                · (intro w' hSw; (try dsimp only at hSw); (try simp only [List.getElem_toArray, List.getElem_cons_succ, List.getElem_cons_zero]); go_simp; try (with_reducible rfl))
                simp only [Act.put, List.getElem_toArray, List.getElem_cons_succ, List.getElem_cons_zero, List.setIfInBounds_toArray, List.set_cons_zero, List.set_cons_succ]
                refine wpAnyG_take (v := ?_) 11 (by rfl) (by kernel_rfl) (by kernel_rfl) (by kernel_rfl) (by kernel_rfl) (fun _ _ _ h => h) (Or.inl ⟨by rfl, ?_⟩) (by assumption) ?_
                rotate_left
                · (intro w' hSw; (try dsimp only at hSw); (try simp only [List.getElem_toArray, List.getElem_cons_succ, List.getElem_cons_zero]); go_simp; try (with_reducible rfl))
                simp only [Act.put, List.getElem_toArray, List.getElem_cons_succ, List.getElem_cons_zero, List.setIfInBounds_toArray, List.set_cons_zero, List.set_cons_succ]
                refine wpAnyG_take (v := ?_) 12 (by rfl) (by kernel_rfl) (by kernel_rfl) (by kernel_rfl) (by kernel_rfl) (fun _ _ _ h => h) (Or.inl ⟨by rfl, ?_⟩) (by assumption) ?_
                rotate_left
                · (intro w' hSw; (try dsimp only at hSw); (try simp only [List.getElem_toArray, List.getElem_cons_succ, List.getElem_cons_zero]); go_simp; try (with_reducible rfl))
                simp only [Act.put, List.getElem_toArray, List.getElem_cons_succ, List.getElem_cons_zero, List.setIfInBounds_toArray, List.set_cons_zero, List.set_cons_succ]
                refine wpAnyG_ready [13] (by kernel_rfl) (by simp) ?_
                refine AllReadyG.cons 13 (by rfl) (fun K hK => ?_) ?_
                · simp only [List.getElem_toArray, List.getElem_cons_succ, List.getElem_cons_zero]
                  go_simp
                  go_at_call 15
                  refine (unhide HK4 _ _ _ _ hbC (unhide HRC)).mono ?_
                  rintro e wV ⟨lv2, rfl, hoV, hlV⟩
                  have hbV := unhide HTR _ _ hbC hlV
                  refine hK.out _ _ (unhide HS8 _ (hxr.trans (hlV.mono hxr.size))) (fun _ => ?_)
                  clear hK K
                  try simp only [Act.put, List.setIfInBounds_toArray, List.set_cons_zero, List.set_cons_succ]
                  refine wpAnyG_take (v := ?_) 14 (by rfl) (by kernel_rfl) (by kernel_rfl) (by kernel_rfl) (by kernel_rfl) (fun _ _ _ h => h) (Or.inl ⟨by rfl, ?_⟩) (by assumption) ?_
                  rotate_left
                  · (intro w' hSw; (try dsimp only at hSw); (try simp only [List.getElem_toArray, List.getElem_cons_succ, List.getElem_cons_zero]); go_simp; try (with_reducible rfl))
                  simp only [Act.put, List.getElem_toArray, List.getElem_cons_succ, List.getElem_cons_zero, List.setIfInBounds_toArray, List.set_cons_zero, List.set_cons_succ]
                  refine wpAnyG_take (v := ?_) 15 (by rfl) (by kernel_rfl) (by kernel_rfl) (by kernel_rfl) (by kernel_rfl) (fun _ _ _ h => h) (Or.inl ⟨by rfl, ?_⟩) (by assumption) ?_
                  rotate_left
                  · (intro w' hSw; (try dsimp only at hSw); (try simp only [List.getElem_toArray, List.getElem_cons_succ, List.getElem_cons_zero]); go_simp; try (with_reducible rfl))
                  simp only [Act.put, List.getElem_toArray, List.getElem_cons_succ, List.getElem_cons_zero, List.setIfInBounds_toArray, List.set_cons_zero, List.set_cons_succ]
                  refine wpAnyG_take (v := ?_) 16 (by rfl) (by kernel_rfl) (by kernel_rfl) (by kernel_rfl) (by kernel_rfl) (fun _ _ _ h => h) (Or.inl ⟨by rfl, ?_⟩) (by assumption) ?_
                  rotate_left
                  · (intro w' hSw; (try dsimp only at hSw); (try simp only [List.getElem_toArray, List.getElem_cons_succ, List.getElem_cons_zero]); go_simp; try (with_reducible rfl))
                  simp only [Act.put, List.getElem_toArray, List.getElem_cons_succ, List.getElem_cons_zero, List.setIfInBounds_toArray, List.set_cons_zero, List.set_cons_succ]
                  refine wpAnyG_take (v := ?_) 17 (by rfl) (by kernel_rfl) (by kernel_rfl) (by kernel_rfl) (by kernel_rfl) (fun _ _ _ h => h) (Or.inl ⟨by rfl, ?_⟩) (by assumption) ?_
                  rotate_left
                  · (intro w' hSw; (try dsimp only at hSw); (try simp only [List.getElem_toArray, List.getElem_cons_succ, List.getElem_cons_zero]); go_simp; try (with_reducible rfl))
                  simp only [Act.put, List.getElem_toArray, List.getElem_cons_succ, List.getElem_cons_zero, List.setIfInBounds_toArray, List.set_cons_zero, List.set_cons_succ]
                  refine wpAnyG_take (v := ?_) 18 (by rfl) (by kernel_rfl) (by kernel_rfl) (by kernel_rfl) (by kernel_rfl) (fun _ _ _ h => h) (Or.inl ⟨by rfl, ?_⟩) (by assumption) ?_
                  rotate_left
                  · (intro w' hSw; (try dsimp only at hSw); (try simp only [List.getElem_toArray, List.getElem_cons_succ, List.getElem_cons_zero]); go_simp; try (with_reducible rfl))
                  simp only [Act.put, List.getElem_toArray, List.getElem_cons_succ, List.getElem_cons_zero, List.setIfInBounds_toArray, List.set_cons_zero, List.set_cons_succ]
                  refine wpAnyG_take (v := ?_) 19 (by rfl) (by kernel_rfl) (by kernel_rfl) (by kernel_rfl) (by kernel_rfl) (fun _ _ _ h => h) (Or.inl ⟨by rfl, ?_⟩) (by assumption) ?_
                  rotate_left
                  · (intro w' hSw; (try dsimp only at hSw); (try simp only [List.getElem_toArray, List.getElem_cons_succ, List.getElem_cons_zero]); go_simp; try (with_reducible rfl))
                  simp only [Act.put, List.getElem_toArray, List.getElem_cons_succ, List.getElem_cons_zero, List.setIfInBounds_toArray, List.set_cons_zero, List.set_cons_succ]
                  refine wpAnyG_take (v := ?_) 20 (by rfl) (by kernel_rfl) (by kernel_rfl) (by kernel_rfl) (by kernel_rfl) (fun _ _ _ h => h) (Or.inl ⟨by rfl, ?_⟩) (by assumption) ?_
                  rotate_left
                  · (intro w' hSw; (try dsimp only at hSw); (try simp only [List.getElem_toArray, List.getElem_cons_succ, List.getElem_cons_zero]); go_simp; try (with_reducible rfl))
                  simp only [Act.put, List.getElem_toArray, List.getElem_cons_succ, List.getElem_cons_zero, List.setIfInBounds_toArray, List.set_cons_zero, List.set_cons_succ]
                  refine wpAnyG_done (by kernel_rfl) ?_ _
                  refine NoPanic.normal ?_
                  go_wp2
                  go_meet
                  exact ⟨rfl, rfl, hide ⟨hoV.ints, hbV, hxr.trans (hlV.mono hxr.size)⟩⟩
                exact AllReadyG.nil
              case rest =>
                obtain ⟨wD, rfl⟩ : ∃ wD, wD = wc := ⟨_, rfl⟩
                obtain ⟨rfl, rfl, HD⟩ := hcut
                have e2 : (x8 != x8) = false := bne_self_eq_false _
                have HoD := hide (And.intro ((unhide HoC).1.below (unhide HD).2.2) (And.intro ((unhide HoC).2.1.below (unhide HD).2.2) (And.intro ((unhide HoC).2.2.below (unhide HD).2.2) (unhide HD).1)))
                have HpD := hide ((unhide HpC).trans ((unhide HD).2.2.mono (unhide HpC).size))
                have hbD := (unhide HD).2.1
                clear HD HS8 HoC HpC HRC HK1 HK2 HK3 HK4 hbC
                go_wp2_with fail
                go_at_call 16
                refine (unhide HIs _ wD _ _ (unhide HlA).1 (unhide HoD).1 (unhide HoD).2.1).mono ?_
                rintro e wE ⟨rfl, hlE⟩
                have hbE := unhide HTR _ _ hbD hlE
                have HpE := hide ((unhide HpD).trans (hlE.mono (unhide HpD).size))
                have HoE := hide (And.intro ((unhide HoD).2.2.1.below hlE) ((unhide HoD).2.2.2.below hlE))
                clear hlE HoD HpD hbD
                go_wp2_with fail
                go_at_call 16
                refine (unhide HIs _ wE _ _ (unhide HlC).2 (unhide HoE).1 (unhide HoE).2).mono ?_
                rintro e wF ⟨rfl, hlF⟩
                have HN := hide (And.intro (unhide HTR _ _ hbE hlF) ((unhide HpE).trans (hlF.mono (unhide HpE).size)))
                clear hlF HoE HpE hbE
                go_wp2
                go_roundg g'
                case rel => exact ⟨i + 1, by omega, by go_num, HN⟩
                case measure => omega
end Go.Proofs.Ytoegjnolccabjaa


