/- What the proof needs, part 5. -/
import Derived.Test.YtohfmohkaaidpabL4
/- The reference's New. -/
namespace Go.Proofs.Ytohfmohkaaidpab
open Go Go.RowKit

theorem own_keepK {w w' : World} {B : Nat} {v : Value} {l : List Int} {o : Option Nat} (h : OwnI w B v l) (hg : w.grownBy w' o) (hne : ∀ g, v.ownBlock = some g → o ≠ some g) : OwnI w' B v l := by
  cases hb : v.ownBlock with
  | none =>
    obtain ⟨h1, h2 | ⟨k, cap, cur, e, r⟩⟩ := h
    · exact ⟨h1, .inl h2⟩
    · rw [e] at hb; cases hb
  | some k => exact h.kept hg (.inr fun e => hne k hb (e.symm.trans hb))
theorem own_butx {w : World} {B x j : Nat} {v u : Value} {l : List Int} (h : OwnI w B v l) (hx : x < B) : OwnI (w.setCell ⟨x, j, none⟩ u) B v l := by
  obtain ⟨h1, h2 | ⟨k, cap, cur, e, hk, hh, r⟩⟩ := h
  · exact ⟨h1, .inl h2⟩
  · exact ⟨h1, .inr ⟨k, cap, cur, e, hk, (Below.heap_setCell _ _ _ _ (by show k ≠ x; omega)).trans hh, r⟩⟩
theorem rep_snoc (i : Nat) (z : Int) : List.replicate i z ++ [z] = List.replicate (i + 1) z := by
  rw [List.replicate_succ', ]
theorem frs_cells {w : World} {b : Nat} {p q : Value} (h : w.heap[b]? = some (.cells #[p, q] 52)) : w.cell? ⟨b, 0, none⟩ = some p ∧ w.cell? ⟨b, 1, none⟩ = some q ∧ ∀ i, w.frozen? ⟨b, i, none⟩ = false := by
  refine ⟨?_, ?_, fun i => ?_⟩
  · simp only [World.cell?, h]; rfl
  · simp only [World.cell?, h]; rfl
  · simp only [World.frozen?, h]; simp
theorem frs_set {w : World} {b : Nat} {p q : Value} (h : w.heap[b]? = some (.cells #[p, q] 52)) (u v : Value) : ((w.setCell ⟨b, 0, none⟩ u).setCell ⟨b, 1, none⟩ v).heap[b]? = some (.cells #[u, v] 52) := by
  simp only [World.setCell, Array.getElem?_modify, if_pos, h]; rfl
/-- The reference's forest as New makes it: so many vertices, its struct in block x, its rows behind it. -/
structure RI (w : World) (B x i : Nat) (w' : World) : Prop where
  ex : ∃ ao co ac cw, w'.heap[x]? = some (.cells #[.slice ao i co, .slice ac i cw] 52) ∧ OwnI w' B (.slice ao i co) (List.replicate i (-1)) ∧ OwnI w' B (.slice ac i cw) (List.replicate i 0) ∧ (∀ g, (Value.slice ao i co).ownBlock = some g → (Value.slice ac i cw).ownBlock ≠ some g) ∧ Below w.heap.size w w'
theorem RI.lay {w w' : World} {B x i : Nat} (ao : Option Addr) (co : Nat) (ac : Option Addr) (cw : Nat) (h1 : w'.heap[x]? = some (.cells #[.slice ao i co, .slice ac i cw] 52)) (h2 : OwnI w' B (.slice ao i co) (List.replicate i (-1))) (h3 : OwnI w' B (.slice ac i cw) (List.replicate i 0)) (h4 : ∀ g, (Value.slice ao i co).ownBlock = some g → (Value.slice ac i cw).ownBlock ≠ some g) (h5 : Below w.heap.size w w') : RI w B x i w' := ⟨ao, co, ac, cw, h1, h2, h3, h4, h5⟩
theorem wpAnyG_takeL {P : Program} {ops : Array Oper} {Q : Exit → Act → World → Prop} {md : Region.Mode} {S : World → Prop} {late : Nat → Bool} (i : Nat) {oi : Oper} {v : Value} {fuel : Nat} {listed : Array Bool} {a : Act} {w : World} (hi : ops[i]? = some oi)
    (hs : Region.noSelect ops = true) (hf : Region.free md ops listed i = true) (hr : (Region.ready md ops listed).contains i = true) (hl : (!late i && !noLate late listed) = true)
    (hQ : ∀ c a w, Q (.panic c) (a.put oi.dst v) w → Q (.panic c) a w) (hy : YieldsIf P ops (fun _ => True) oi v a) (_u : True)
    (h : wpAnyG P md ops Q S late fuel (listed.setIfInBounds i true) (a.put oi.dst v) w) : wpAnyG P md ops Q S late (fuel + 1) listed a w := by
  rw [Bool.and_eq_true] at hl
  refine wpAnyG_first' hi (Region.noSelect_spec hs) (by simpa using hl.1) hQ fuel listed a w (Region.free_spec hi hf) (by simpa using hr) hy (fun e => ?_) h
  have h2 := hl.2
  rw [e] at h2
  cases h2
set_option maxRecDepth 100000 in
set_option maxHeartbeats 8000000 in
theorem lkrnew_any (n : Nat) (w : World) (hn1 : 1 ≤ n) (hn : n ≤ 60) :
    Calls Try.prog 15 #[.int .i64 (n : Int)] w fun e w' => ∃ x o c co cw, e = .returned (.pointer (some ⟨x, 0, none⟩)) ∧ LkR w' x o c n co cw (fun _ => -1) (fun _ => 0) ∧ Below w.heap.size w w' ∧ w.heap.size ≤ x ∧ w.heap.size ≤ o ∧ w.heap.size ≤ c := by
  obtain ⟨x, hxe⟩ : ∃ x, w.heap.size = x := ⟨_, rfl⟩
  obtain ⟨B, hB⟩ : ∃ B, B = x + 1 := ⟨_, rfl⟩
  obtain ⟨W1, hW1⟩ : ∃ W1, W1 = w.alloc (.cells #[.slice none 0 0, .slice none 0 0] 52) := ⟨_, rfl⟩
  have HR0 : Hid (RI w B x 0 W1) := hide (RI.lay none 0 none 0 (by rw [hW1, ← hxe]; exact heap_alloc_new w _) (World.ownsRow_nil _ _ _ _) (World.ownsRow_nil _ _ _ _) (fun g hg => by cases hg) (by rw [hW1]; exact (Below.refl _ w).alloc (Nat.le_refl _) _))
  have HxB := hide (And.intro hxe hB)
  obtain ⟨P, hP⟩ : ∃ P : Ending → World → Prop, P = fun e w' => ∃ x o c co cw, e = .returned (.pointer (some ⟨x, 0, none⟩)) ∧ LkR w' x o c n co cw (fun _ => -1) (fun _ => 0) ∧ Below w.heap.size w w' ∧ w.heap.size ≤ x ∧ w.heap.size ≤ o ∧ w.heap.size ≤ c := ⟨_, rfl⟩
  rw [← hP]
  have HP := hide hP
  clear hP hB
  go_enter Try.func15, Try.ntmps15
  go_wp2
  rw [← hW1]
  clear hW1 hxe
  go_loopg [4] n (fun g' s4 wr => ∃ i : Nat, i + g' = n ∧ s4 = .int .i64 (i : Int) ∧ Hid (RI w B x i wr))
  case atStart => exact ⟨0, by omega, rfl, HR0⟩
  case round =>
    clear HR0
    obtain ⟨i, hig, rfl, HR⟩ := hrel
    obtain ⟨ao, co, ac, cw, hx, ho, hc, hdis, hbw⟩ := (unhide HR).ex
    have hxb0 := frs_cells hx
    cases gk with
    | zero =>
      obtain rfl : n = i := by omega
      have hnn : ¬ (n : Int) < (n : Int) := by omega
      have HE : Hid (∃ o c co cw, LkR wr x o c n co cw (fun _ => -1) (fun _ => 0) ∧ Below w.heap.size w wr ∧ w.heap.size ≤ x ∧ w.heap.size ≤ o ∧ w.heap.size ≤ c) := hide (by
        have hBB := unhide HxB
        obtain ⟨ho1, ⟨-, ho2⟩ | ⟨go_, capo, curo, eo, hgo, hho, hno, hmo, hso, hto⟩⟩ := ho
        · rw [List.length_replicate] at ho2; omega
        · obtain ⟨hc1, ⟨-, hc2⟩ | ⟨gc_, capc, curc, ec, hgc, hhc, hnc, hmc, hsc, htc⟩⟩ := hc
          · rw [List.length_replicate] at hc2; omega
          · have hdd := hdis go_ (by rw [eo]; rfl)
            rw [ec] at hdd
            rw [eo, ec] at hx
            simp only [List.length_replicate] at hx eo ec hno hnc hto htc
            refine ⟨go_, gc_, capo, capc, ⟨hx, ⟨curo, hho, by omega, hno, fun j hj => ?_⟩, ⟨curc, hhc, by omega, hnc, fun j hj => ?_⟩, by omega, by omega, fun e => hdd (by rw [e]; rfl)⟩, hbw, by omega, by omega, by omega⟩
            · have h1 : (curo.toList.take (n * 1))[j]? = ((List.replicate n (-1 : Int)).map (Value.int .i64))[j]? := by rw [hto]
              rw [List.getElem?_take, if_pos (by omega), List.getElem?_map, List.getElem?_replicate, if_pos hj, Array.getElem?_toList] at h1
              exact h1
            · have h1 : (curc.toList.take (n * 1))[j]? = ((List.replicate n (0 : Int)).map (Value.int .i64))[j]? := by rw [htc]
              rw [List.getElem?_take, if_pos (by omega), List.getElem?_map, List.getElem?_replicate, if_pos hj, Array.getElem?_toList] at h1
              exact h1)
      clear hx ho hc hdis hbw hxb0
      go_wp2
      rw [unhide HP]
      obtain ⟨o, c, co, cw, h1, h2⟩ := unhide HE
      exact ⟨x, o, c, co, cw, rfl, h1, h2⟩
    | succ g' =>
      have hin : (i : Int) < (n : Int) := by omega
      have hi3 : (i : Int) < 300 := by omega
      have hxB : x < B := by have := (unhide HxB).2; omega
      have hxw : w.heap.size ≤ x := by have := (unhide HxB).1; omega
      have hBs : B ≤ wr.heap.size := by
        have h1 := (Array.getElem?_eq_some_iff.1 hx).1
        have := (unhide HxB).2
        omega
      have hBw : w.heap.size ≤ B := by omega
      clear hxb0
      go_upto_region 5 with fail
      have hwb := hbw.drew
      have hO := ho.drew
      have hC := hc.drew
      have hxb : wr.drew.heap[x]? = some (.cells #[.slice ao i co, .slice ac i cw] 52) := hx
      obtain ⟨s0, s1, -⟩ := frs_cells hxb
      refine wp_region_G (fun w' => w'.cell? ⟨x, 0, none⟩ = some (.slice ao i co) ∧ w'.cell? ⟨x, 1, none⟩ = some (.slice ac i cw)) (fun j => j == 16 || j == 19) (by kernel_rfl) ⟨s0, s1⟩ (fun hHeld => ?_)
      have hBd : B ≤ wr.drew.heap.size := hBs
      generalize wr.drew = wb at *
      have hb0 := Below.refl B wb
      have hSx : ∀ w', Below B wb w' → w'.cell? ⟨x, 0, none⟩ = some (.slice ao i co) ∧ w'.cell? ⟨x, 1, none⟩ = some (.slice ac i cw) := fun w' hb' => ⟨(World.cell?_of_block (w := wb) (hb'.block x hxB)).trans s0, (World.cell?_of_block (w := wb) (hb'.block x hxB)).trans s1⟩
      clear hbw ho hc hx
      refine wpAnyG_take (v := ?_) 0 (by rfl) (by kernel_rfl) (by kernel_rfl) (by kernel_rfl) (by kernel_rfl) (fun _ _ _ h => h) (Or.inl ⟨by rfl, ?_⟩) (by assumption) ?_
      rotate_left
      · (intro w' hSw; (try dsimp only at hSw); (try simp only [List.getElem_toArray, List.getElem_cons_zero]); go_simp; try (with_reducible rfl))
      simp only [Act.put, List.getElem_toArray, List.getElem_cons_zero, List.setIfInBounds_toArray, List.set_cons_zero, List.set_cons_succ]
      refine wpAnyG_takeW (v := ?_) 1 (by rfl) (by kernel_rfl) (by kernel_rfl) (by kernel_rfl) (by kernel_rfl) (fun _ _ _ h => h) (Or.inl ⟨by rfl, ?_⟩) (by assumption) ?_
      rotate_left
      · (intro w' hSw; (try dsimp only at hSw); (try simp only [List.getElem_toArray, List.getElem_cons_succ, List.getElem_cons_zero]); go_simp; try (with_reducible rfl))
      simp only [Act.put, List.getElem_toArray, List.getElem_cons_succ, List.getElem_cons_zero, List.setIfInBounds_toArray, List.set_cons_zero, List.set_cons_succ]
      refine wpAnyG_take (v := ?_) 2 (by rfl) (by kernel_rfl) (by kernel_rfl) (by kernel_rfl) (by kernel_rfl) (fun _ _ _ h => h) (Or.inl ⟨by rfl, ?_⟩) (by assumption) ?_
      rotate_left
      · (intro w' hSw; (try dsimp only at hSw); (try simp only [List.getElem_toArray, List.getElem_cons_succ, List.getElem_cons_zero]); go_simp; try (with_reducible rfl))
      simp only [Act.put, List.getElem_toArray, List.getElem_cons_succ, List.getElem_cons_zero, List.setIfInBounds_toArray, List.set_cons_zero, List.set_cons_succ]
      refine wpAnyG_take (v := ?_) 3 (by rfl) (by kernel_rfl) (by kernel_rfl) (by kernel_rfl) (by kernel_rfl) (fun _ _ _ h => h) (Or.inl ⟨by rfl, ?_⟩) (by assumption) ?_
      rotate_left
      · (intro w' hSw; (try dsimp only at hSw); (try simp only [List.getElem_toArray, List.getElem_cons_succ, List.getElem_cons_zero]); go_simp; try (with_reducible rfl))
      simp only [Act.put, List.getElem_toArray, List.getElem_cons_succ, List.getElem_cons_zero, List.setIfInBounds_toArray, List.set_cons_zero, List.set_cons_succ]
      refine wpAnyG_take (v := ?_) 4 (by rfl) (by kernel_rfl) (by kernel_rfl) (by kernel_rfl) (by kernel_rfl) (fun _ _ _ h => h) (Or.inl ⟨by rfl, ?_⟩) (by assumption) ?_
      rotate_left
      · (intro w' hSw; (try dsimp only at hSw); (try simp only [List.getElem_toArray, List.getElem_cons_succ, List.getElem_cons_zero]); go_simp; try (with_reducible rfl))
      simp only [Act.put, List.getElem_toArray, List.getElem_cons_succ, List.getElem_cons_zero, List.setIfInBounds_toArray, List.set_cons_zero, List.set_cons_succ]
      refine wpAnyG_take (v := ?_) 5 (by rfl) (by kernel_rfl) (by kernel_rfl) (by kernel_rfl) (by kernel_rfl) (fun _ _ _ h => h) (Or.inl ⟨by rfl, ?_⟩) (by assumption) ?_
      rotate_left
      · (intro w' hSw; (try dsimp only at hSw); (try simp only [List.getElem_toArray, List.getElem_cons_succ, List.getElem_cons_zero]); go_simp; try (with_reducible rfl))
      simp only [Act.put, List.getElem_toArray, List.getElem_cons_succ, List.getElem_cons_zero, List.setIfInBounds_toArray, List.set_cons_zero, List.set_cons_succ]
      refine wpAnyG_takeW (v := ?_) 8 (by rfl) (by kernel_rfl) (by kernel_rfl) (by kernel_rfl) (by kernel_rfl) (fun _ _ _ h => h) (Or.inl ⟨by rfl, ?_⟩) (by assumption) ?_
      rotate_left
      · (intro w' hSw; (try dsimp only at hSw); (try simp only [List.getElem_toArray, List.getElem_cons_succ, List.getElem_cons_zero]); go_simp; try (with_reducible rfl))
      simp only [Act.put, List.getElem_toArray, List.getElem_cons_succ, List.getElem_cons_zero, List.setIfInBounds_toArray, List.set_cons_zero, List.set_cons_succ]
      refine wpAnyG_takeW (v := ?_) 9 (by rfl) (by kernel_rfl) (by kernel_rfl) (by kernel_rfl) (by kernel_rfl) (fun _ _ _ h => h) (Or.inl ⟨by rfl, ?_⟩) (by assumption) ?_
      rotate_left
      · (intro w' hSw; (try dsimp only at hSw); (try simp only [List.getElem_toArray, List.getElem_cons_succ, List.getElem_cons_zero]); go_simp; try (with_reducible rfl))
      simp only [Act.put, List.getElem_toArray, List.getElem_cons_succ, List.getElem_cons_zero, List.setIfInBounds_toArray, List.set_cons_zero, List.set_cons_succ]
      refine wpAnyG_takeW (v := ?_) 10 (by rfl) (by kernel_rfl) (by kernel_rfl) (by kernel_rfl) (by kernel_rfl) (fun _ _ _ h => h) (Or.inl ⟨by rfl, ?_⟩) (by assumption) ?_
      rotate_left
      · (intro w' hSw; (try dsimp only at hSw); (try simp only [List.getElem_toArray, List.getElem_cons_succ, List.getElem_cons_zero]); go_simp; try (with_reducible rfl))
      simp only [Act.put, List.getElem_toArray, List.getElem_cons_succ, List.getElem_cons_zero, List.setIfInBounds_toArray, List.set_cons_zero, List.set_cons_succ]
      refine wpAnyG_take (v := ?_) 11 (by rfl) (by kernel_rfl) (by kernel_rfl) (by kernel_rfl) (by kernel_rfl) (fun _ _ _ h => h) (Or.inl ⟨by rfl, ?_⟩) (by assumption) ?_
      rotate_left
      · (intro w' hSw; (try dsimp only at hSw); (try simp only [List.getElem_toArray, List.getElem_cons_succ, List.getElem_cons_zero]); go_simp; try (with_reducible rfl))
      simp only [Act.put, List.getElem_toArray, List.getElem_cons_succ, List.getElem_cons_zero, List.setIfInBounds_toArray, List.set_cons_zero, List.set_cons_succ]
      refine wpAnyG_ready [6, 12] (by kernel_rfl) (by simp) ?_
      refine AllReadyG.cons 6 (by rfl) (fun K hK => ?_) ?_
      · simp only [List.getElem_toArray, List.getElem_cons_succ, List.getElem_cons_zero]
        go_simp
        refine hK.out _ _ (hSx _ (Below.alloc hb0 (Nat.le_trans hBd hb0.size) (.cells #[.int .i64 (-1)] 3))) (fun _ => ?_)
        clear hK K
        try simp only [Act.put, List.setIfInBounds_toArray, List.set_cons_zero, List.set_cons_succ]
        have hb6 := Below.alloc hb0 (Nat.le_trans hBd hb0.size) (.cells #[.int .i64 (-1)] 3)
        have lit6 : OwnI (wb.alloc (.cells #[.int .i64 (-1)] 3)) B (.slice (some ⟨wb.heap.size, 0, none⟩) 1 1) [-1] := own_lit wb B _ 1 [-1] rfl rfl (Nat.le_trans hBd hb0.size) (by simp)
        have ho6 := World.ownsRow.alloc hO (.cells #[.int .i64 (-1)] 3)
        have hc6 := World.ownsRow.alloc hC (.cells #[.int .i64 (-1)] 3)
        obtain ⟨g6, hg6⟩ : ∃ g, g = wb.heap.size := ⟨_, rfl⟩
        have hz6 : (wb.alloc (.cells #[.int .i64 (-1)] 3)).heap.size = g6 + 1 := by rw [hg6]; simp
        have hlo6 : ∀ g, (Value.slice ao i co).ownBlock = some g → g < g6 := fun g hg => by rw [hg6]; exact (World.ownsRow.lt hO g hg).2
        have hlc6 : ∀ g, (Value.slice ac i cw).ownBlock = some g → g < g6 := fun g hg => by rw [hg6]; exact (World.ownsRow.lt hC g hg).2
        rw [← hg6] at lit6
        try rw [← hg6]
        generalize (wb.alloc (.cells #[.int .i64 (-1)] 3)) = w6 at *
        clear hg6 hz6
        refine wpAnyG_ready [7, 12] (by kernel_rfl) (by simp) ?_
        refine AllReadyG.cons 7 (by rfl) (fun K hK => ?_) ?_
        · simp only [List.getElem_toArray, List.getElem_cons_succ, List.getElem_cons_zero]
          refine if_wanted (by rfl) (wp_app2 (w := w6) _ _ (by rfl) B _ _ (List.replicate i (-1)) [-1] (by rfl) (by rfl) ho6 (OwnI.ints lit6) (i + 1) (by simp) (by omega) (Nat.le_trans hBd hb6.size) ?_)
          intro a7 c7 w7 own7 hbb7 hg7 ho7
          have hb7 : Below B wb w7 := hb6.trans hbb7
          have hc7 := own_keepK hc6 hg7 (fun g hg e => hdis g e hg)
          have hn7 : ∀ g, (Value.slice a7 (i + 1) c7).ownBlock = some g → (Value.slice ac i cw).ownBlock ≠ some g := fun g hg hcg => by
            rcases ho7 with h | h
            · exact hdis g (h.symm.trans hg) hcg
            · have h1 := (World.ownsRow.lt hc6 g hcg).2
              rw [h] at hg
              injection hg with hg
              omega
          refine hK.out _ _ (hSx _ hb7) (fun _ => ?_)
          clear hK K
          try simp only [Act.put, List.setIfInBounds_toArray, List.set_cons_zero, List.set_cons_succ]
          refine wpAnyG_ready [12] (by kernel_rfl) (by simp) ?_
          refine AllReadyG.cons 12 (by rfl) (fun K hK => ?_) ?_
          · simp only [List.getElem_toArray, List.getElem_cons_succ, List.getElem_cons_zero]
            go_simp
            refine hK.out _ _ (hSx _ (Below.alloc hb7 (Nat.le_trans hBd hb7.size) (.cells #[.int .i64 0] 3))) (fun _ => ?_)
            clear hK K
            try simp only [Act.put, List.setIfInBounds_toArray, List.set_cons_zero, List.set_cons_succ]
            have hb12 := Below.alloc hb7 (Nat.le_trans hBd hb7.size) (.cells #[.int .i64 0] 3)
            have lit12 : OwnI (w7.alloc (.cells #[.int .i64 0] 3)) B (.slice (some ⟨w7.heap.size, 0, none⟩) 1 1) [0] := own_lit w7 B _ 1 [0] rfl rfl (Nat.le_trans hBd hb7.size) (by simp)
            have ho12 := World.ownsRow.alloc own7 (.cells #[.int .i64 0] 3)
            have hc12 := World.ownsRow.alloc hc7 (.cells #[.int .i64 0] 3)
            have l612 := World.ownsRow.alloc lit6 (.cells #[.int .i64 0] 3)
            obtain ⟨g12, hg12⟩ : ∃ g, g = w7.heap.size := ⟨_, rfl⟩
            have hz12 : (w7.alloc (.cells #[.int .i64 0] 3)).heap.size = g12 + 1 := by rw [hg12]; simp
            have hlo12 : ∀ g, (Value.slice a7 (i + 1) c7).ownBlock = some g → g < g12 := fun g hg => by rw [hg12]; exact (World.ownsRow.lt own7 g hg).2
            have hlc12 : ∀ g, (Value.slice ac i cw).ownBlock = some g → g < g12 := fun g hg => by rw [hg12]; exact (World.ownsRow.lt hc7 g hg).2
            rw [← hg12] at lit12
            try rw [← hg12]
            generalize (w7.alloc (.cells #[.int .i64 0] 3)) = w12 at *
            clear hg12 hz12
            refine wpAnyG_ready [13] (by kernel_rfl) (by simp) ?_
            refine AllReadyG.cons 13 (by rfl) (fun K hK => ?_) ?_
            · simp only [List.getElem_toArray, List.getElem_cons_succ, List.getElem_cons_zero]
              refine if_wanted (by rfl) (wp_app2 (w := w12) _ _ (by rfl) B _ _ (List.replicate i 0) [0] (by rfl) (by rfl) hc12 (OwnI.ints lit12) (i + 1) (by simp) (by omega) (Nat.le_trans hBd hb12.size) ?_)
              intro a13 c13 w13 own13 hbb13 hg13 ho13
              have hb13 : Below B wb w13 := hb12.trans hbb13
              have ho7' := own_keepK ho12 hg13 (fun g hg e => hn7 g hg e)
              have hd13 : ∀ g, (Value.slice a7 (i + 1) c7).ownBlock = some g → (Value.slice a13 (i + 1) c13).ownBlock ≠ some g := fun g hg hcg => by
                rcases ho13 with h | h
                · exact hn7 g hg (h.symm.trans hcg)
                · have h1 := (World.ownsRow.lt ho12 g hg).2
                  rw [h] at hcg
                  injection hcg with hcg
                  omega
              refine hK.out _ _ (hSx _ hb13) (fun _ => ?_)
              clear hK K
              try simp only [Act.put, List.setIfInBounds_toArray, List.set_cons_zero, List.set_cons_succ]
              have hx13 : w13.heap[x]? = some (.cells #[.slice ao i co, .slice ac i cw] 52) := (hb13.block x hxB).trans hxb
              obtain ⟨x0, x1, xf⟩ := frs_cells hx13
              have x1' := fun v : Value => show (w13.setCell ⟨x, 0, none⟩ v).cell? ⟨x, 1, none⟩ = some (.slice ac i cw) by rw [cell_set_ne (by omega)]; exact x1
              refine wpAnyG_takeW (v := ?_) 14 (by rfl) (by kernel_rfl) (by kernel_rfl) (by kernel_rfl) (by kernel_rfl) (fun _ _ _ h => h) (Or.inl ⟨by rfl, ?_⟩) (by assumption) ?_
              rotate_left
              · (intro w' hSw; (try dsimp only at hSw); (try simp only [List.getElem_toArray, List.getElem_cons_succ, List.getElem_cons_zero]); go_simp; try (with_reducible rfl))
              simp only [Act.put, List.getElem_toArray, List.getElem_cons_succ, List.getElem_cons_zero, List.setIfInBounds_toArray, List.set_cons_zero, List.set_cons_succ]
              refine wpAnyG_take (v := ?_) 15 (by rfl) (by kernel_rfl) (by kernel_rfl) (by kernel_rfl) (by kernel_rfl) (fun _ _ _ h => h) (Or.inl ⟨by rfl, ?_⟩) (by assumption) ?_
              rotate_left
              · (intro w' hSw; (try dsimp only at hSw); (try simp only [List.getElem_toArray, List.getElem_cons_succ, List.getElem_cons_zero]); go_simp; try (with_reducible rfl))
              simp only [Act.put, List.getElem_toArray, List.getElem_cons_succ, List.getElem_cons_zero, List.setIfInBounds_toArray, List.set_cons_zero, List.set_cons_succ]
              refine wpAnyG_ready [16] (by kernel_rfl) (by simp) ?_
              refine AllReadyG.last 16 (by rfl) (by kernel_rfl) (fun K hK => ?_) ?_
              · simp only [List.getElem_toArray, List.getElem_cons_succ, List.getElem_cons_zero]
                go_simp
                refine hK.out _ _ ?_
                clear hK K
                try simp only [Act.put, List.setIfInBounds_toArray, List.set_cons_zero, List.set_cons_succ]
                refine wpAnyG_takeL (v := ?_) 17 (by rfl) (by kernel_rfl) (by kernel_rfl) (by kernel_rfl) (by kernel_rfl) (fun _ _ _ h => h) (Or.inl ⟨by rfl, ?_⟩) trivial ?_
                rotate_left
                · (intro w' hSw; (try dsimp only at hSw); (try simp only [List.getElem_toArray, List.getElem_cons_succ, List.getElem_cons_zero]); go_simp; try (with_reducible rfl))
                simp only [Act.put, List.getElem_toArray, List.getElem_cons_succ, List.getElem_cons_zero, List.setIfInBounds_toArray, List.set_cons_zero, List.set_cons_succ]
                refine wpAnyG_takeL (v := ?_) 18 (by rfl) (by kernel_rfl) (by kernel_rfl) (by kernel_rfl) (by kernel_rfl) (fun _ _ _ h => h) (Or.inl ⟨by rfl, ?_⟩) trivial ?_
                rotate_left
                · (intro w' hSw; (try dsimp only at hSw); (try simp only [List.getElem_toArray, List.getElem_cons_succ, List.getElem_cons_zero]); go_simp; try (with_reducible rfl))
                simp only [Act.put, List.getElem_toArray, List.getElem_cons_succ, List.getElem_cons_zero, List.setIfInBounds_toArray, List.set_cons_zero, List.set_cons_succ]
                refine wpAnyG_ready [19] (by kernel_rfl) (by simp) ?_
                refine AllReadyG.last 19 (by rfl) (by kernel_rfl) (fun K hK => ?_) ?_
                · simp only [List.getElem_toArray, List.getElem_cons_succ, List.getElem_cons_zero]
                  go_simp
                  refine hK.out _ _ ?_
                  clear hK K
                  try simp only [Act.put, List.setIfInBounds_toArray, List.set_cons_zero, List.set_cons_succ]
                  refine wpAnyG_done (by kernel_rfl) ?_ _
                  refine NoPanic.normal ?_
                  have HR : Hid (RI w B x (i + 1) ((w13.setCell ⟨x, 0, none⟩ (.slice a7 (i + 1) c7)).setCell ⟨x, 1, none⟩ (.slice a13 (i + 1) c13))) := hide (RI.lay a7 c7 a13 c13 (frs_set hx13 _ _) (own_butx (own_butx (by rw [← rep_snoc]; exact ho7') hxB) hxB) (own_butx (own_butx (by rw [← rep_snoc]; exact own13) hxB) hxB) hd13 (((hwb.trans (hb13.mono (by omega))).setCell (p := ⟨x, 0, none⟩) hxw _).setCell (p := ⟨x, 1, none⟩) hxw _))
                  clear hHeld x0 x1 xf x1' hx13 own13 ho7' hd13
                  go_wp2
                  go_roundg g'
                  case rel => exact ⟨i + 1, by omega, by go_num, HR⟩
                  case measure => omega
                exact AllReadyG.nil
              exact AllReadyG.nil
            exact AllReadyG.nil
          exact AllReadyG.nil
        refine AllReadyG.cons 12 (by rfl) (fun K hK => ?_) ?_
        · simp only [List.getElem_toArray, List.getElem_cons_succ, List.getElem_cons_zero]
          go_simp
          refine hK.out _ _ (hSx _ (Below.alloc hb6 (Nat.le_trans hBd hb6.size) (.cells #[.int .i64 0] 3))) (fun _ => ?_)
          clear hK K
          try simp only [Act.put, List.setIfInBounds_toArray, List.set_cons_zero, List.set_cons_succ]
          have hb12 := Below.alloc hb6 (Nat.le_trans hBd hb6.size) (.cells #[.int .i64 0] 3)
          have lit12 : OwnI (w6.alloc (.cells #[.int .i64 0] 3)) B (.slice (some ⟨w6.heap.size, 0, none⟩) 1 1) [0] := own_lit w6 B _ 1 [0] rfl rfl (Nat.le_trans hBd hb6.size) (by simp)
          have ho12 := World.ownsRow.alloc ho6 (.cells #[.int .i64 0] 3)
          have hc12 := World.ownsRow.alloc hc6 (.cells #[.int .i64 0] 3)
          have l612 := World.ownsRow.alloc lit6 (.cells #[.int .i64 0] 3)
          obtain ⟨g12, hg12⟩ : ∃ g, g = w6.heap.size := ⟨_, rfl⟩
          have hz12 : (w6.alloc (.cells #[.int .i64 0] 3)).heap.size = g12 + 1 := by rw [hg12]; simp
          have hlo12 : ∀ g, (Value.slice ao i co).ownBlock = some g → g < g12 := fun g hg => by rw [hg12]; exact (World.ownsRow.lt ho6 g hg).2
          have hlc12 : ∀ g, (Value.slice ac i cw).ownBlock = some g → g < g12 := fun g hg => by rw [hg12]; exact (World.ownsRow.lt hc6 g hg).2
          rw [← hg12] at lit12
          try rw [← hg12]
          generalize (w6.alloc (.cells #[.int .i64 0] 3)) = w12 at *
          clear hg12 hz12
          refine wpAnyG_ready [7] (by kernel_rfl) (by simp) ?_
          refine AllReadyG.cons 7 (by rfl) (fun K hK => ?_) ?_
          · simp only [List.getElem_toArray, List.getElem_cons_succ, List.getElem_cons_zero]
            refine if_wanted (by rfl) (wp_app2 (w := w12) _ _ (by rfl) B _ _ (List.replicate i (-1)) [-1] (by rfl) (by rfl) ho12 (OwnI.ints l612) (i + 1) (by simp) (by omega) (Nat.le_trans hBd hb12.size) ?_)
            intro a7 c7 w7 own7 hbb7 hg7 ho7
            have hb7 : Below B wb w7 := hb12.trans hbb7
            have hc7 := own_keepK hc12 hg7 (fun g hg e => hdis g e hg)
            have hn7 : ∀ g, (Value.slice a7 (i + 1) c7).ownBlock = some g → (Value.slice ac i cw).ownBlock ≠ some g := fun g hg hcg => by
              rcases ho7 with h | h
              · exact hdis g (h.symm.trans hg) hcg
              · have h1 := (World.ownsRow.lt hc12 g hcg).2
                rw [h] at hg
                injection hg with hg
                omega
            have l127 := own_keepK lit12 hg7 (fun g hg e => by
              have h1 := hlo12 g e
              have h2 : g12 = g := Option.some.inj hg
              omega)
            refine hK.out _ _ (hSx _ hb7) (fun _ => ?_)
            clear hK K
            try simp only [Act.put, List.setIfInBounds_toArray, List.set_cons_zero, List.set_cons_succ]
            refine wpAnyG_ready [13] (by kernel_rfl) (by simp) ?_
            refine AllReadyG.cons 13 (by rfl) (fun K hK => ?_) ?_
            · simp only [List.getElem_toArray, List.getElem_cons_succ, List.getElem_cons_zero]
              refine if_wanted (by rfl) (wp_app2 (w := w7) _ _ (by rfl) B _ _ (List.replicate i 0) [0] (by rfl) (by rfl) hc7 (OwnI.ints l127) (i + 1) (by simp) (by omega) (Nat.le_trans hBd hb7.size) ?_)
              intro a13 c13 w13 own13 hbb13 hg13 ho13
              have hb13 : Below B wb w13 := hb7.trans hbb13
              have ho7' := own_keepK own7 hg13 (fun g hg e => hn7 g hg e)
              have hd13 : ∀ g, (Value.slice a7 (i + 1) c7).ownBlock = some g → (Value.slice a13 (i + 1) c13).ownBlock ≠ some g := fun g hg hcg => by
                rcases ho13 with h | h
                · exact hn7 g hg (h.symm.trans hcg)
                · have h1 := (World.ownsRow.lt own7 g hg).2
                  rw [h] at hcg
                  injection hcg with hcg
                  omega
              refine hK.out _ _ (hSx _ hb13) (fun _ => ?_)
              clear hK K
              try simp only [Act.put, List.setIfInBounds_toArray, List.set_cons_zero, List.set_cons_succ]
              have hx13 : w13.heap[x]? = some (.cells #[.slice ao i co, .slice ac i cw] 52) := (hb13.block x hxB).trans hxb
              obtain ⟨x0, x1, xf⟩ := frs_cells hx13
              have x1' := fun v : Value => show (w13.setCell ⟨x, 0, none⟩ v).cell? ⟨x, 1, none⟩ = some (.slice ac i cw) by rw [cell_set_ne (by omega)]; exact x1
              refine wpAnyG_takeW (v := ?_) 14 (by rfl) (by kernel_rfl) (by kernel_rfl) (by kernel_rfl) (by kernel_rfl) (fun _ _ _ h => h) (Or.inl ⟨by rfl, ?_⟩) (by assumption) ?_
              rotate_left
              · (intro w' hSw; (try dsimp only at hSw); (try simp only [List.getElem_toArray, List.getElem_cons_succ, List.getElem_cons_zero]); go_simp; try (with_reducible rfl))
              simp only [Act.put, List.getElem_toArray, List.getElem_cons_succ, List.getElem_cons_zero, List.setIfInBounds_toArray, List.set_cons_zero, List.set_cons_succ]
              refine wpAnyG_take (v := ?_) 15 (by rfl) (by kernel_rfl) (by kernel_rfl) (by kernel_rfl) (by kernel_rfl) (fun _ _ _ h => h) (Or.inl ⟨by rfl, ?_⟩) (by assumption) ?_
              rotate_left
              · (intro w' hSw; (try dsimp only at hSw); (try simp only [List.getElem_toArray, List.getElem_cons_succ, List.getElem_cons_zero]); go_simp; try (with_reducible rfl))
              simp only [Act.put, List.getElem_toArray, List.getElem_cons_succ, List.getElem_cons_zero, List.setIfInBounds_toArray, List.set_cons_zero, List.set_cons_succ]
              refine wpAnyG_ready [16] (by kernel_rfl) (by simp) ?_
              refine AllReadyG.last 16 (by rfl) (by kernel_rfl) (fun K hK => ?_) ?_
              · simp only [List.getElem_toArray, List.getElem_cons_succ, List.getElem_cons_zero]
                go_simp
                refine hK.out _ _ ?_
                clear hK K
                try simp only [Act.put, List.setIfInBounds_toArray, List.set_cons_zero, List.set_cons_succ]
                refine wpAnyG_takeL (v := ?_) 17 (by rfl) (by kernel_rfl) (by kernel_rfl) (by kernel_rfl) (by kernel_rfl) (fun _ _ _ h => h) (Or.inl ⟨by rfl, ?_⟩) trivial ?_
                rotate_left
                · (intro w' hSw; (try dsimp only at hSw); (try simp only [List.getElem_toArray, List.getElem_cons_succ, List.getElem_cons_zero]); go_simp; try (with_reducible rfl))
                simp only [Act.put, List.getElem_toArray, List.getElem_cons_succ, List.getElem_cons_zero, List.setIfInBounds_toArray, List.set_cons_zero, List.set_cons_succ]
                refine wpAnyG_takeL (v := ?_) 18 (by rfl) (by kernel_rfl) (by kernel_rfl) (by kernel_rfl) (by kernel_rfl) (fun _ _ _ h => h) (Or.inl ⟨by rfl, ?_⟩) trivial ?_
                rotate_left
                · (intro w' hSw; (try dsimp only at hSw); (try simp only [List.getElem_toArray, List.getElem_cons_succ, List.getElem_cons_zero]); go_simp; try (with_reducible rfl))
                simp only [Act.put, List.getElem_toArray, List.getElem_cons_succ, List.getElem_cons_zero, List.setIfInBounds_toArray, List.set_cons_zero, List.set_cons_succ]
                refine wpAnyG_ready [19] (by kernel_rfl) (by simp) ?_
                refine AllReadyG.last 19 (by rfl) (by kernel_rfl) (fun K hK => ?_) ?_
                · simp only [List.getElem_toArray, List.getElem_cons_succ, List.getElem_cons_zero]
                  go_simp
                  refine hK.out _ _ ?_
                  clear hK K
                  try simp only [Act.put, List.setIfInBounds_toArray, List.set_cons_zero, List.set_cons_succ]
                  refine wpAnyG_done (by kernel_rfl) ?_ _
                  refine NoPanic.normal ?_
                  have HR : Hid (RI w B x (i + 1) ((w13.setCell ⟨x, 0, none⟩ (.slice a7 (i + 1) c7)).setCell ⟨x, 1, none⟩ (.slice a13 (i + 1) c13))) := hide (RI.lay a7 c7 a13 c13 (frs_set hx13 _ _) (own_butx (own_butx (by rw [← rep_snoc]; exact ho7') hxB) hxB) (own_butx (own_butx (by rw [← rep_snoc]; exact own13) hxB) hxB) hd13 (((hwb.trans (hb13.mono (by omega))).setCell (p := ⟨x, 0, none⟩) hxw _).setCell (p := ⟨x, 1, none⟩) hxw _))
                  clear hHeld x0 x1 xf x1' hx13 own13 ho7' hd13
                  go_wp2
                  go_roundg g'
                  case rel => exact ⟨i + 1, by omega, by go_num, HR⟩
                  case measure => omega
                exact AllReadyG.nil
              exact AllReadyG.nil
            exact AllReadyG.nil
          exact AllReadyG.nil
        exact AllReadyG.nil
      refine AllReadyG.cons 12 (by rfl) (fun K hK => ?_) ?_
      · simp only [List.getElem_toArray, List.getElem_cons_succ, List.getElem_cons_zero]
        go_simp
        refine hK.out _ _ (hSx _ (Below.alloc hb0 (Nat.le_trans hBd hb0.size) (.cells #[.int .i64 0] 3))) (fun _ => ?_)
        clear hK K
        try simp only [Act.put, List.setIfInBounds_toArray, List.set_cons_zero, List.set_cons_succ]
        have hb12 := Below.alloc hb0 (Nat.le_trans hBd hb0.size) (.cells #[.int .i64 0] 3)
        have lit12 : OwnI (wb.alloc (.cells #[.int .i64 0] 3)) B (.slice (some ⟨wb.heap.size, 0, none⟩) 1 1) [0] := own_lit wb B _ 1 [0] rfl rfl (Nat.le_trans hBd hb0.size) (by simp)
        have ho12 := World.ownsRow.alloc hO (.cells #[.int .i64 0] 3)
        have hc12 := World.ownsRow.alloc hC (.cells #[.int .i64 0] 3)
        obtain ⟨g12, hg12⟩ : ∃ g, g = wb.heap.size := ⟨_, rfl⟩
        have hz12 : (wb.alloc (.cells #[.int .i64 0] 3)).heap.size = g12 + 1 := by rw [hg12]; simp
        have hlo12 : ∀ g, (Value.slice ao i co).ownBlock = some g → g < g12 := fun g hg => by rw [hg12]; exact (World.ownsRow.lt hO g hg).2
        have hlc12 : ∀ g, (Value.slice ac i cw).ownBlock = some g → g < g12 := fun g hg => by rw [hg12]; exact (World.ownsRow.lt hC g hg).2
        rw [← hg12] at lit12
        try rw [← hg12]
        generalize (wb.alloc (.cells #[.int .i64 0] 3)) = w12 at *
        clear hg12 hz12
        refine wpAnyG_ready [6] (by kernel_rfl) (by simp) ?_
        refine AllReadyG.cons 6 (by rfl) (fun K hK => ?_) ?_
        · simp only [List.getElem_toArray, List.getElem_cons_succ, List.getElem_cons_zero]
          go_simp
          refine hK.out _ _ (hSx _ (Below.alloc hb12 (Nat.le_trans hBd hb12.size) (.cells #[.int .i64 (-1)] 3))) (fun _ => ?_)
          clear hK K
          try simp only [Act.put, List.setIfInBounds_toArray, List.set_cons_zero, List.set_cons_succ]
          have hb6 := Below.alloc hb12 (Nat.le_trans hBd hb12.size) (.cells #[.int .i64 (-1)] 3)
          have lit6 : OwnI (w12.alloc (.cells #[.int .i64 (-1)] 3)) B (.slice (some ⟨w12.heap.size, 0, none⟩) 1 1) [-1] := own_lit w12 B _ 1 [-1] rfl rfl (Nat.le_trans hBd hb12.size) (by simp)
          have ho6 := World.ownsRow.alloc ho12 (.cells #[.int .i64 (-1)] 3)
          have hc6 := World.ownsRow.alloc hc12 (.cells #[.int .i64 (-1)] 3)
          have l126 := World.ownsRow.alloc lit12 (.cells #[.int .i64 (-1)] 3)
          obtain ⟨g6, hg6⟩ : ∃ g, g = w12.heap.size := ⟨_, rfl⟩
          have hz6 : (w12.alloc (.cells #[.int .i64 (-1)] 3)).heap.size = g6 + 1 := by rw [hg6]; simp
          have hlo6 : ∀ g, (Value.slice ao i co).ownBlock = some g → g < g6 := fun g hg => by rw [hg6]; exact (World.ownsRow.lt ho12 g hg).2
          have hlc6 : ∀ g, (Value.slice ac i cw).ownBlock = some g → g < g6 := fun g hg => by rw [hg6]; exact (World.ownsRow.lt hc12 g hg).2
          rw [← hg6] at lit6
          try rw [← hg6]
          generalize (w12.alloc (.cells #[.int .i64 (-1)] 3)) = w6 at *
          clear hg6 hz6
          refine wpAnyG_ready [7] (by kernel_rfl) (by simp) ?_
          refine AllReadyG.cons 7 (by rfl) (fun K hK => ?_) ?_
          · simp only [List.getElem_toArray, List.getElem_cons_succ, List.getElem_cons_zero]
            refine if_wanted (by rfl) (wp_app2 (w := w6) _ _ (by rfl) B _ _ (List.replicate i (-1)) [-1] (by rfl) (by rfl) ho6 (OwnI.ints lit6) (i + 1) (by simp) (by omega) (Nat.le_trans hBd hb6.size) ?_)
            intro a7 c7 w7 own7 hbb7 hg7 ho7
            have hb7 : Below B wb w7 := hb6.trans hbb7
            have hc7 := own_keepK hc6 hg7 (fun g hg e => hdis g e hg)
            have hn7 : ∀ g, (Value.slice a7 (i + 1) c7).ownBlock = some g → (Value.slice ac i cw).ownBlock ≠ some g := fun g hg hcg => by
              rcases ho7 with h | h
              · exact hdis g (h.symm.trans hg) hcg
              · have h1 := (World.ownsRow.lt hc6 g hcg).2
                rw [h] at hg
                injection hg with hg
                omega
            have l127 := own_keepK l126 hg7 (fun g hg e => by
              have h1 := hlo12 g e
              have h2 : g12 = g := Option.some.inj hg
              omega)
            refine hK.out _ _ (hSx _ hb7) (fun _ => ?_)
            clear hK K
            try simp only [Act.put, List.setIfInBounds_toArray, List.set_cons_zero, List.set_cons_succ]
            refine wpAnyG_ready [13] (by kernel_rfl) (by simp) ?_
            refine AllReadyG.cons 13 (by rfl) (fun K hK => ?_) ?_
            · simp only [List.getElem_toArray, List.getElem_cons_succ, List.getElem_cons_zero]
              refine if_wanted (by rfl) (wp_app2 (w := w7) _ _ (by rfl) B _ _ (List.replicate i 0) [0] (by rfl) (by rfl) hc7 (OwnI.ints l127) (i + 1) (by simp) (by omega) (Nat.le_trans hBd hb7.size) ?_)
              intro a13 c13 w13 own13 hbb13 hg13 ho13
              have hb13 : Below B wb w13 := hb7.trans hbb13
              have ho7' := own_keepK own7 hg13 (fun g hg e => hn7 g hg e)
              have hd13 : ∀ g, (Value.slice a7 (i + 1) c7).ownBlock = some g → (Value.slice a13 (i + 1) c13).ownBlock ≠ some g := fun g hg hcg => by
                rcases ho13 with h | h
                · exact hn7 g hg (h.symm.trans hcg)
                · have h1 := (World.ownsRow.lt own7 g hg).2
                  rw [h] at hcg
                  injection hcg with hcg
                  omega
              refine hK.out _ _ (hSx _ hb13) (fun _ => ?_)
              clear hK K
              try simp only [Act.put, List.setIfInBounds_toArray, List.set_cons_zero, List.set_cons_succ]
              have hx13 : w13.heap[x]? = some (.cells #[.slice ao i co, .slice ac i cw] 52) := (hb13.block x hxB).trans hxb
              obtain ⟨x0, x1, xf⟩ := frs_cells hx13
              have x1' := fun v : Value => show (w13.setCell ⟨x, 0, none⟩ v).cell? ⟨x, 1, none⟩ = some (.slice ac i cw) by rw [cell_set_ne (by omega)]; exact x1
              refine wpAnyG_takeW (v := ?_) 14 (by rfl) (by kernel_rfl) (by kernel_rfl) (by kernel_rfl) (by kernel_rfl) (fun _ _ _ h => h) (Or.inl ⟨by rfl, ?_⟩) (by assumption) ?_
              rotate_left
              · (intro w' hSw; (try dsimp only at hSw); (try simp only [List.getElem_toArray, List.getElem_cons_succ, List.getElem_cons_zero]); go_simp; try (with_reducible rfl))
              simp only [Act.put, List.getElem_toArray, List.getElem_cons_succ, List.getElem_cons_zero, List.setIfInBounds_toArray, List.set_cons_zero, List.set_cons_succ]
              refine wpAnyG_take (v := ?_) 15 (by rfl) (by kernel_rfl) (by kernel_rfl) (by kernel_rfl) (by kernel_rfl) (fun _ _ _ h => h) (Or.inl ⟨by rfl, ?_⟩) (by assumption) ?_
              rotate_left
              · (intro w' hSw; (try dsimp only at hSw); (try simp only [List.getElem_toArray, List.getElem_cons_succ, List.getElem_cons_zero]); go_simp; try (with_reducible rfl))
              simp only [Act.put, List.getElem_toArray, List.getElem_cons_succ, List.getElem_cons_zero, List.setIfInBounds_toArray, List.set_cons_zero, List.set_cons_succ]
              refine wpAnyG_ready [16] (by kernel_rfl) (by simp) ?_
              refine AllReadyG.last 16 (by rfl) (by kernel_rfl) (fun K hK => ?_) ?_
              · simp only [List.getElem_toArray, List.getElem_cons_succ, List.getElem_cons_zero]
                go_simp
                refine hK.out _ _ ?_
                clear hK K
                try simp only [Act.put, List.setIfInBounds_toArray, List.set_cons_zero, List.set_cons_succ]
                refine wpAnyG_takeL (v := ?_) 17 (by rfl) (by kernel_rfl) (by kernel_rfl) (by kernel_rfl) (by kernel_rfl) (fun _ _ _ h => h) (Or.inl ⟨by rfl, ?_⟩) trivial ?_
                rotate_left
                · (intro w' hSw; (try dsimp only at hSw); (try simp only [List.getElem_toArray, List.getElem_cons_succ, List.getElem_cons_zero]); go_simp; try (with_reducible rfl))
                simp only [Act.put, List.getElem_toArray, List.getElem_cons_succ, List.getElem_cons_zero, List.setIfInBounds_toArray, List.set_cons_zero, List.set_cons_succ]
                refine wpAnyG_takeL (v := ?_) 18 (by rfl) (by kernel_rfl) (by kernel_rfl) (by kernel_rfl) (by kernel_rfl) (fun _ _ _ h => h) (Or.inl ⟨by rfl, ?_⟩) trivial ?_
                rotate_left
                · (intro w' hSw; (try dsimp only at hSw); (try simp only [List.getElem_toArray, List.getElem_cons_succ, List.getElem_cons_zero]); go_simp; try (with_reducible rfl))
                simp only [Act.put, List.getElem_toArray, List.getElem_cons_succ, List.getElem_cons_zero, List.setIfInBounds_toArray, List.set_cons_zero, List.set_cons_succ]
                refine wpAnyG_ready [19] (by kernel_rfl) (by simp) ?_
                refine AllReadyG.last 19 (by rfl) (by kernel_rfl) (fun K hK => ?_) ?_
                · simp only [List.getElem_toArray, List.getElem_cons_succ, List.getElem_cons_zero]
                  go_simp
                  refine hK.out _ _ ?_
                  clear hK K
                  try simp only [Act.put, List.setIfInBounds_toArray, List.set_cons_zero, List.set_cons_succ]
                  refine wpAnyG_done (by kernel_rfl) ?_ _
                  refine NoPanic.normal ?_
                  have HR : Hid (RI w B x (i + 1) ((w13.setCell ⟨x, 0, none⟩ (.slice a7 (i + 1) c7)).setCell ⟨x, 1, none⟩ (.slice a13 (i + 1) c13))) := hide (RI.lay a7 c7 a13 c13 (frs_set hx13 _ _) (own_butx (own_butx (by rw [← rep_snoc]; exact ho7') hxB) hxB) (own_butx (own_butx (by rw [← rep_snoc]; exact own13) hxB) hxB) hd13 (((hwb.trans (hb13.mono (by omega))).setCell (p := ⟨x, 0, none⟩) hxw _).setCell (p := ⟨x, 1, none⟩) hxw _))
                  clear hHeld x0 x1 xf x1' hx13 own13 ho7' hd13
                  go_wp2
                  go_roundg g'
                  case rel => exact ⟨i + 1, by omega, by go_num, HR⟩
                  case measure => omega
                exact AllReadyG.nil
              exact AllReadyG.nil
            exact AllReadyG.nil
          exact AllReadyG.nil
        exact AllReadyG.nil
      exact AllReadyG.nil
end Go.Proofs.Ytohfmohkaaidpab


