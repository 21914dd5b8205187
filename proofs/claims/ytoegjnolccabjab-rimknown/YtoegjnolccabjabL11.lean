/- What the proof needs, part 11. -/
import Derived.Test.YtoegjnolccabjabL10
/- Package path: leaving. -/
namespace Go.Proofs.Ytoegjnolccabjab
open Go Go.RowKit

/-- Rows of arcs of the call's own, each in a block of its own, told by block G. -/
structure OutA (w : World) (G N : Nat) (rv : Nat → Value) (D : Nat → List Sp.Arc) : Prop where
  blk : ∃ c, w.heap[G]? = some (.cells c 60) ∧ c.size = N ∧ ∀ k, k < N → c[k]? = some (rv k)
  row : ∀ k, k < N → OwnA w (G + 1) (rv k) (D k)
  sep : ∀ k k', k < N → k' < N → k ≠ k' → (rv k).ownBlock = none ∨ (rv k).ownBlock ≠ (rv k').ownBlock
theorem OutA.cell {w : World} {G N : Nat} {rv : Nat → Value} {D : Nat → List Sp.Arc} (h : OutA w G N rv D) {k : Nat} (hk : k < N) : w.cell? ⟨G, k, none⟩ = some (rv k) ∧ w.frozen? ⟨G, k, none⟩ = false := by
  obtain ⟨c, hc, -, hz⟩ := h.blk
  constructor
  · simp only [World.cell?, hc]; exact hz k hk
  · simp [World.frozen?, hc]
theorem OutA.lt {w : World} {G N : Nat} {rv : Nat → Value} {D : Nat → List Sp.Arc} (h : OutA w G N rv D) : G < w.heap.size := by
  obtain ⟨c, hc, -⟩ := h.blk
  exact (Array.getElem?_eq_some_iff.1 hc).1
theorem OutA.below {w w' : World} {G N : Nat} {rv : Nat → Value} {D : Nat → List Sp.Arc} (h : OutA w G N rv D) (hb : Below w.heap.size w w') : OutA w' G N rv D := by
  have hl := h.lt
  obtain ⟨⟨c, hc, r⟩, h2, h3⟩ := h
  exact ⟨⟨c, (hb.block G hl).trans hc, r⟩, fun k hk => (h2 k hk).below hb, h3⟩
/-- A row has grown. -/
theorem OutA.put {w w6 : World} {o : Obj} {G N x : Nat} {rv : Nat → Value} {D : Nat → List Sp.Arc} {nv : Value} {l : List Sp.Arc} (h : OutA w G N rv D) (hx : x < N) (hown : OwnA w6 (G + 1) nv l) (hg : (w.alloc o).grownBy w6 (rv x).ownBlock) (ho : nv.ownBlock = (rv x).ownBlock ∨ nv.ownBlock = some (w.heap.size + 1)) :
    OutA (w6.setCell ⟨G, x, none⟩ nv) G N (fun k => if k = x then nv else rv k) (fun k => if k = x then l else D k) := by
  have hl := h.lt
  have hlt : ∀ k, k < N → ∀ g, (rv k).ownBlock = some g → G + 1 ≤ g ∧ g < w.heap.size := fun k hk g hgk => (h.row k hk).lt g hgk
  have hsz : (w.alloc o).heap.size = w.heap.size + 1 := by show (w.heap.push _).size = _; exact Array.size_push _
  refine ⟨?_, fun k hk => ?_, fun k k' hk hk' hne => ?_⟩
  · obtain ⟨c, hc, hs, hz⟩ := h.blk
    have hc6 : w6.heap[G]? = some (.cells c 60) := by
      rw [hg.block G (by omega) (fun e => by have := (hlt x hx G e.symm).1; omega), Below.heap_alloc _ _ _ hl]; exact hc
    refine ⟨c.setIfInBounds x nv, ?_, by simpa using hs, fun k hk => ?_⟩
    · simp only [World.setCell, Array.getElem?_modify, if_pos, hc6]; rfl
    · show _ = some (if k = x then nv else rv k)
      rw [Array.getElem?_setIfInBounds]
      by_cases hxk : x = k
      · rw [if_pos hxk, if_pos (by omega), if_pos hxk.symm]
      · rw [if_neg hxk, hz k hk, if_neg (fun e : k = x => hxk e.symm)]
  · show OwnA _ (G + 1) (if k = x then nv else rv k) (if k = x then l else D k)
    by_cases hkx : k = x
    · rw [if_pos hkx, if_pos hkx]
      exact ownsRow_setCell_below hown (by show G < G + 1; omega) _
    · rw [if_neg hkx, if_neg hkx]
      exact ownsRow_setCell_below ((World.ownsRow.alloc (h.row k hk) o).kept hg (h.sep k x hk hx hkx)) (by show G < G + 1; omega) _
  · show (if k = x then nv else rv k).ownBlock = none ∨ (if k = x then nv else rv k).ownBlock ≠ (if k' = x then nv else rv k').ownBlock
    by_cases hkx : k = x
    · subst hkx
      rw [if_pos rfl, if_neg (fun e => hne e.symm)]
      rcases ho with ho | ho
      · rw [ho]; exact h.sep k k' hk hk' hne
      · refine .inr fun e => ?_
        rw [ho] at e
        have := (hlt k' hk' _ e.symm).2
        omega
    · rw [if_neg hkx]
      by_cases hkx' : k' = x
      · subst hkx'
        rw [if_pos rfl]
        rcases ho with ho | ho
        · rw [ho]; exact h.sep k k' hk hk' hne
        · refine .inr fun e => ?_
          rw [ho] at e
          have := (hlt k hk _ e).2
          omega
      · rw [if_neg hkx']; exact h.sep k k' hk hk' hne

theorem OutA.bt {p : Nat → Prop} {w w' : World} {G N : Nat} {rv : Nat → Value} {D : Nat → List Sp.Arc} (h : OutA w G N rv D) (hb : Bt p w w') (hp : ∀ k, p k → k < G ∨ w.heap.size ≤ k) : OutA w' G N rv D := by
  have hl := h.lt
  obtain ⟨⟨c, hc, r⟩, h2, h3⟩ := h
  have hq : ∀ k, G ≤ k → k < w.heap.size → ¬ p k := fun k h1 h2 e => by have := hp k e; omega
  refine ⟨⟨c, (hb.block G hl (hq G (Nat.le_refl _) hl)).trans hc, r⟩, fun k hk => (h2 k hk).keep fun g hg => ?_, h3⟩
  have := (h2 k hk).lt g hg
  exact hb.block g this.2 (hq g (by omega) this.2)
/-- The arcs that begin at k. -/
def Sp.outs (L : List Sp.Arc) (k : Nat) : List Sp.Arc := L.filter fun a => a.f == k
theorem Sp.outs_snoc (L : List Sp.Arc) (a : Sp.Arc) (k : Nat) : Sp.outs (L ++ [a]) k = if k = a.f then Sp.outs L k ++ [a] else Sp.outs L k := by
  unfold Sp.outs
  rw [List.filter_append]
  by_cases h : k = a.f
  · subst h; rw [if_pos rfl]; simp
  · rw [if_neg h]
    have : (a.f == k) = false := beq_eq_false_iff_ne.2 (fun e => h e.symm)
    simp [this]
theorem Sp.outs_len (L : List Sp.Arc) (k : Nat) : (Sp.outs L k).length ≤ L.length := List.length_filter_le _ _
theorem Sp.outs_mem {L : List Sp.Arc} {k : Nat} {a : Sp.Arc} : a ∈ Sp.outs L k ↔ a ∈ L ∧ a.f = k := by
  unfold Sp.outs; rw [List.mem_filter]; simp
theorem infoAs : (Try.prog.info? 60).map (fun i => (i.zero, i.size, i.bytes)) = some (some (.slice none 0 0), 1, 24) := by kernel_rfl
set_option maxRecDepth 100000 in
set_option maxHeartbeats 8000000 in
theorem leaving_any (N : Nat) (L : List Sp.Arc) (lv : Value) (w : World) (hl : ArcsI w lv L) (hS : Sp.Snd N L) (hN : N ≤ 300) (hN1 : 0 < N) :
    Calls Try.prog 64 #[.int .i64 (N : Int), lv] w fun e w' => ∃ rv, e = .returned (.slice (some ⟨w.heap.size, 0, none⟩) N N) ∧ OutA w' w.heap.size N rv (Sp.outs L) ∧ Below w.heap.size w w' := by
  obtain ⟨iS, hiS, hS0, hS1, hS2⟩ : ∃ i0, Try.prog.info? 60 = some i0 ∧ i0.zero = some (.slice none 0 0) ∧ i0.size = 1 ∧ i0.bytes = 24 := by
    have h := infoAs
    cases hq : Try.prog.info? 60 with
    | none => rw [hq] at h; cases h
    | some i0 =>
      rw [hq] at h
      simp only [Option.map_some, Option.some.injEq, Prod.mk.injEq] at h
      exact ⟨i0, rfl, h.1, h.2.1, h.2.2⟩
  have hfew := hS.few
  obtain ⟨la, lc, rfl, -, -, HT⟩ := hl.all
  have HTb : Hid (∀ k, k < L.length → (L.getD k Sp.arc0).f < N) := hide fun k hk => (hS.at_ _ (Sp.arc_mem hk)).1
  have HTk : Hid (∀ k, k < L.length → L.take (k + 1) = L.take k ++ [L.getD k Sp.arc0]) := hide fun k hk => by
    rw [List.take_succ_eq_append_getElem hk, List.getD_eq_getElem?_getD, List.getElem?_eq_getElem hk]; rfl
  have HTa : Hid (L.take L.length = L) := hide (List.take_of_length_le (Nat.le_refl _))
  obtain ⟨P, hP⟩ : ∃ P : Ending → World → Prop, P = fun e w' => ∃ rv, e = .returned (.slice (some ⟨w.heap.size, 0, none⟩) N N) ∧ OutA w' w.heap.size N rv (Sp.outs L) ∧ Below w.heap.size w w' := ⟨_, rfl⟩
  rw [← hP]
  have HP := hide hP
  clear hP hl hS
  go_enter Try.func64, Try.ntmps64
  go_wp2_with (at_make; refine wpList_make_full _ rfl _ _ 92 rfl w.heap.size 60 iS (.slice none 0 0) 1 Try.underlying92 hiS hS0 hS1 .i64 .i64 _ _ N rfl rfl rfl rfl (by rw [hS2]; omega) (by unfold maxLen; omega) (Nat.le_refl _) ?_)
  intro w5 hown5 hg5
  have hb5 : Below w.heap.size w w5 := (Below.refl _ w).grown hg5 (Nat.le_refl _) (by simp)
  have hout : OutA w5 w.heap.size N (fun _ => .slice none 0 0) (Sp.outs (L.take 0)) := by
    rcases hown5.2 with ⟨-, h0⟩ | ⟨g, cap, cur, e, -, hc, h1, -, h3, h4⟩
    · omega
    · injection e with e1 _ e2
      injection e1 with e1
      injection e1 with e1
      subst e1 e2
      have hcur : cur.toList = List.replicate N (.slice none 0 0) := by
        rw [← toList_madeCells_one]
        have : cur.toList.length ≤ N * 1 := by simp [h3]
        rw [List.take_of_length_le this] at h4
        exact h4
      refine ⟨⟨cur, hc, by omega, fun k hk => ?_⟩, fun k _ => OwnA.nil _ _, fun _ _ _ _ _ => .inl rfl⟩
      rw [← Array.getElem?_toList, hcur, List.getElem?_replicate, if_pos hk]
  have H5 := hide (And.intro hb5 hout)
  clear hown5 hg5 hb5 hout
  go_wp2
  go_loopg [12] L.length (fun g s12 wr => ∃ (d : Nat) (rv : Nat → Value), d + g = L.length ∧ s12 = .int .i64 (d : Int) ∧ Hid (Below w.heap.size w wr ∧ OutA wr w.heap.size N rv (Sp.outs (L.take d))))
  case atStart => exact ⟨0, _, by omega, rfl, H5⟩
  case round =>
    clear H5
    obtain ⟨d, rv, hdg, rfl, HI⟩ := hrel
    by_cases hd : d < L.length
    · have hdI : (d : Int) < (L.length : Int) := by omega
      obtain ⟨g', rfl⟩ : ∃ g', gk = g' + 1 := ⟨gk - 1, by omega⟩
      obtain ⟨b, o, rfl, hb, hcx⟩ := unhide HT d hd
      obtain ⟨c1, c2, c3⟩ := hcx wr (unhide HI).1
      have hxN := unhide HTb d hd
      have HTd := unhide HTk d hd
      generalize L.getD d Sp.arc0 = a at *
      obtain ⟨f, t, l⟩ := a
      simp only at c1 c2 c3 hxN HTd
      have HTe := hide HTd
      have hxI : (f : Int) < (N : Int) := by omega
      have hlr := Sp.outs_len (L.take d) f
      have hlt := List.length_take_le d L
      have hrow := (unhide HI).2.row f hxN
      have hGl := (unhide HI).2.lt
      have hrlt : ∀ g, (rv f).ownBlock = some g → w.heap.size + 1 ≤ g ∧ g < wr.heap.size := hrow.lt
      obtain ⟨cx, fx⟩ := (unhide HI).2.cell hxN
      obtain ⟨W2, hW2⟩ : ∃ W2, W2 = wr.alloc (.cells #[.int .i64 (f : Int), .int .i64 (t : Int), .int .i64 l] 65) := ⟨_, rfl⟩
      obtain ⟨u0, u1, u2⟩ := arc_new wr (.int .i64 (f : Int)) (.int .i64 (t : Int)) (.int .i64 l)
      rw [← hW2] at u0 u1 u2
      have hbW : Below wr.heap.size wr W2 := by rw [hW2]; exact (Below.refl _ wr).alloc (Nat.le_refl _) _
      have hsW : W2.heap.size = wr.heap.size + 1 := by rw [hW2]; simp
      have cx2 : W2.cell? ⟨w.heap.size, f, none⟩ = some (rv f) := (hbW.cell (p := ⟨w.heap.size, f, none⟩) (by exact hGl)).trans cx
      have fx2 : W2.frozen? ⟨w.heap.size, f, none⟩ = false := (hbW.frozen (p := ⟨w.heap.size, f, none⟩) (by exact hGl)).trans fx
      have HI2 : Hid (Below w.heap.size w W2.drew ∧ OutA W2.drew w.heap.size N rv (Sp.outs (L.take d))) := hide ⟨((unhide HI).1.trans (hbW.mono (unhide HI).1.size)).drew, (unhide HI).2.below hbW.drew⟩
      have hsD : W2.drew.heap.size = wr.heap.size + 1 := hsW
      have HS : Hid (∀ w', Below W2.drew.heap.size W2.drew w' → w'.cell? ⟨w.heap.size, f, none⟩ = some (rv f) ∧ w'.cell? ⟨wr.heap.size, 0, none⟩ = some (.int .i64 (f : Int)) ∧ w'.cell? ⟨wr.heap.size, 1, none⟩ = some (.int .i64 (t : Int)) ∧ w'.cell? ⟨wr.heap.size, 2, none⟩ = some (.int .i64 l)) := hide fun w' hb' =>
        ⟨(hb'.cell (p := ⟨w.heap.size, f, none⟩) (by show w.heap.size < _; omega)).trans cx2, (hb'.cell (p := ⟨wr.heap.size, 0, none⟩) (by show wr.heap.size < _; omega)).trans u0, (hb'.cell (p := ⟨wr.heap.size, 1, none⟩) (by show wr.heap.size < _; omega)).trans u1, (hb'.cell (p := ⟨wr.heap.size, 2, none⟩) (by show wr.heap.size < _; omega)).trans u2⟩
      have HFZ : Hid (W2.drew.frozen? ⟨w.heap.size, f, none⟩ = false) := hide fx2
      have hrowD : OwnA W2.drew (w.heap.size + 1) (rv f) (Sp.outs (L.take d) f) := (unhide HI2).2.row f hxN
      have HRw := hide (And.intro hrowD hrlt)
      generalize hDD : Sp.outs (L.take d) f = DD at *
      have HDD := hide hDD
      clear hDD hrow hrowD cx fx hcx hbW hsW hrlt HTd
      subst hW2
      generalize hV : rv f = V at *
      have HV := hide hV
      clear hV
      go_upto_region 5 with fail
      refine wp_region_G (fun w' => w'.cell? ⟨w.heap.size, f, none⟩ = some V ∧ w'.cell? ⟨wr.heap.size, 0, none⟩ = some (.int .i64 (f : Int)) ∧ w'.cell? ⟨wr.heap.size, 1, none⟩ = some (.int .i64 (t : Int)) ∧ w'.cell? ⟨wr.heap.size, 2, none⟩ = some (.int .i64 l)) (fun i => i == 12) (by kernel_rfl) (unhide HS _ (Below.refl _ _)) (fun hHeld => ?_)
      clear u0 u1 u2 cx2 fx2
      generalize (wr.alloc (.cells #[.int .i64 (f : Int), .int .i64 (t : Int), .int .i64 l] 65)).drew = W3 at *
      refine wpAnyG_take (v := ?_) 0 (by rfl) (by kernel_rfl) (by kernel_rfl) (by kernel_rfl) (by kernel_rfl) (fun _ _ _ h => h) (Or.inl ⟨by rfl, ?_⟩) (by assumption) ?_
      rotate_left
      · (intro w' hSw; (try dsimp only at hSw); (try simp only [List.getElem_toArray, List.getElem_cons_zero]); go_simp; try (with_reducible rfl))
      simp only [Act.put, List.getElem_toArray, List.getElem_cons_zero, List.setIfInBounds_toArray, List.set_cons_zero, List.set_cons_succ]
      refine wpAnyG_take (v := ?_) 1 (by rfl) (by kernel_rfl) (by kernel_rfl) (by kernel_rfl) (by kernel_rfl) (fun _ _ _ h => h) (Or.inl ⟨by rfl, ?_⟩) (by assumption) ?_
      rotate_left
      · (intro w' hSw; (try dsimp only at hSw); (try simp only [List.getElem_toArray, List.getElem_cons_succ, List.getElem_cons_zero]); go_simp; try (with_reducible rfl))
      simp only [Act.put, List.getElem_toArray, List.getElem_cons_succ, List.getElem_cons_zero, List.setIfInBounds_toArray, List.set_cons_zero, List.set_cons_succ]
      refine wpAnyG_take (v := ?_) 2 (by rfl) (by kernel_rfl) (by kernel_rfl) (by kernel_rfl) (by kernel_rfl) (fun _ _ _ h => h) (Or.inl ⟨by rfl, ?_⟩) (by assumption) ?_
      rotate_left
      · (intro w' hSw; (try dsimp only at hSw); (try simp only [List.getElem_toArray, List.getElem_cons_succ, List.getElem_cons_zero]); go_simp; try (with_reducible rfl))
      simp only [Act.put, List.getElem_toArray, List.getElem_cons_succ, List.getElem_cons_zero, List.setIfInBounds_toArray, List.set_cons_zero, List.set_cons_succ]
      refine wpAnyG_take (v := ?_) 3 (by rfl) (by kernel_rfl) (by kernel_rfl) (by kernel_rfl) (by kernel_rfl) (fun _ _ _ h => h) (Or.inl ⟨by rfl, ?_⟩) (by assumption) ?_
      rotate_left
      · (intro w' hSw; (try dsimp only at hSw); (try simp only [List.getElem_toArray, List.getElem_cons_succ, List.getElem_cons_zero]); go_simp; try (with_reducible rfl))
      simp only [Act.put, List.getElem_toArray, List.getElem_cons_succ, List.getElem_cons_zero, List.setIfInBounds_toArray, List.set_cons_zero, List.set_cons_succ]
      refine wpAnyG_take (v := ?_) 4 (by rfl) (by kernel_rfl) (by kernel_rfl) (by kernel_rfl) (by kernel_rfl) (fun _ _ _ h => h) (Or.inl ⟨by rfl, ?_⟩) (by assumption) ?_
      rotate_left
      · (intro w' hSw; (try dsimp only at hSw); (try simp only [List.getElem_toArray, List.getElem_cons_succ, List.getElem_cons_zero]); go_simp; try (with_reducible rfl))
      simp only [Act.put, List.getElem_toArray, List.getElem_cons_succ, List.getElem_cons_zero, List.setIfInBounds_toArray, List.set_cons_zero, List.set_cons_succ]
      refine wpAnyG_take (v := ?_) 5 (by rfl) (by kernel_rfl) (by kernel_rfl) (by kernel_rfl) (by kernel_rfl) (fun _ _ _ h => h) (Or.inl ⟨by rfl, ?_⟩) (by assumption) ?_
      rotate_left
      · (intro w' hSw; (try dsimp only at hSw); (try simp only [List.getElem_toArray, List.getElem_cons_succ, List.getElem_cons_zero]); go_simp; try (with_reducible rfl))
      simp only [Act.put, List.getElem_toArray, List.getElem_cons_succ, List.getElem_cons_zero, List.setIfInBounds_toArray, List.set_cons_zero, List.set_cons_succ]
      refine wpAnyG_take (v := ?_) 6 (by rfl) (by kernel_rfl) (by kernel_rfl) (by kernel_rfl) (by kernel_rfl) (fun _ _ _ h => h) (Or.inl ⟨by rfl, ?_⟩) (by assumption) ?_
      rotate_left
      · (intro w' hSw; (try dsimp only at hSw); (try simp only [List.getElem_toArray, List.getElem_cons_succ, List.getElem_cons_zero]); go_simp; try (with_reducible rfl))
      simp only [Act.put, List.getElem_toArray, List.getElem_cons_succ, List.getElem_cons_zero, List.setIfInBounds_toArray, List.set_cons_zero, List.set_cons_succ]
      refine wpAnyG_take (v := ?_) 7 (by rfl) (by kernel_rfl) (by kernel_rfl) (by kernel_rfl) (by kernel_rfl) (fun _ _ _ h => h) (Or.inl ⟨by rfl, ?_⟩) (by assumption) ?_
      rotate_left
      · (intro w' hSw; (try dsimp only at hSw); (try simp only [List.getElem_toArray, List.getElem_cons_succ, List.getElem_cons_zero]); go_simp; try (with_reducible rfl))
      simp only [Act.put, List.getElem_toArray, List.getElem_cons_succ, List.getElem_cons_zero, List.setIfInBounds_toArray, List.set_cons_zero, List.set_cons_succ]
      refine wpAnyG_take (v := ?_) 8 (by rfl) (by kernel_rfl) (by kernel_rfl) (by kernel_rfl) (by kernel_rfl) (fun _ _ _ h => h) (Or.inl ⟨by rfl, ?_⟩) (by assumption) ?_
      rotate_left
      · (intro w' hSw; (try dsimp only at hSw); (try simp only [List.getElem_toArray, List.getElem_cons_succ, List.getElem_cons_zero]); go_simp; try (with_reducible rfl))
      simp only [Act.put, List.getElem_toArray, List.getElem_cons_succ, List.getElem_cons_zero, List.setIfInBounds_toArray, List.set_cons_zero, List.set_cons_succ]
      refine wpAnyG_ready [9] (by kernel_rfl) (by simp) ?_
      refine AllReadyG.cons 9 (by rfl) (fun K hK => ?_) ?_
      · simp only [List.getElem_toArray, List.getElem_cons_succ, List.getElem_cons_zero]
        go_simp
        refine hK.out _ _ (unhide HS _ ((Below.refl _ W3).alloc (Nat.le_refl _) _)) (fun _ => ?_)
        clear hK K
        try simp only [Act.put, List.setIfInBounds_toArray, List.set_cons_zero, List.set_cons_succ]
        refine wpAnyG_ready [10] (by kernel_rfl) (by simp) ?_
        refine AllReadyG.cons 10 (by rfl) (fun K hK => ?_) ?_
        · simp only [List.getElem_toArray, List.getElem_cons_succ, List.getElem_cons_zero]
          refine if_wanted (by rfl) (wp_appA (w := W3.alloc (.cells #[.int .i64 (f : Int), .int .i64 (t : Int), .int .i64 l] 65)) _ _ (by rfl) (w.heap.size + 1) _ _ DD [⟨f, t, l⟩] (by rfl) (by rfl) ((unhide HRw).1.alloc _) (OwnA.arcs (own_litA W3 0 _ 1 [⟨f, t, l⟩] _ rfl hsD rfl (Nat.zero_le _) (by simp))) (DD.length + 1) (by simp) (by omega) (by simp; omega) ?_)
          intro a6 c6 w6 hown6 hg6 ho6
          have hs0 : (W3.alloc (.cells #[.int .i64 (f : Int), .int .i64 (t : Int), .int .i64 l] 65)).heap.size = W3.heap.size + 1 := by simp
          have hblk : ∀ k, k < W3.heap.size → V.ownBlock ≠ some k → w6.heap[k]? = W3.heap[k]? := fun k hk hne => by
            rw [hg6.block k (by omega) (fun e => hne e.symm), Below.heap_alloc _ _ _ hk]
          have hnG : V.ownBlock ≠ some w.heap.size := fun e => by have := ((unhide HRw).2 _ e).1; omega
          have hnA : V.ownBlock ≠ some wr.heap.size := fun e => by have := ((unhide HRw).2 _ e).2; omega
          have hSS := unhide HS _ (Below.refl _ _)
          have e0 := World.cell?_of_block (a := ⟨w.heap.size, f, none⟩) (hblk w.heap.size (by omega) hnG)
          have e1 := World.cell?_of_block (a := ⟨wr.heap.size, 0, none⟩) (hblk wr.heap.size (by omega) hnA)
          have e2 := World.cell?_of_block (a := ⟨wr.heap.size, 1, none⟩) (hblk wr.heap.size (by omega) hnA)
          have e3 := World.cell?_of_block (a := ⟨wr.heap.size, 2, none⟩) (hblk wr.heap.size (by omega) hnA)
          have hS6 : w6.cell? ⟨w.heap.size, f, none⟩ = some V ∧ w6.cell? ⟨wr.heap.size, 0, none⟩ = some (.int .i64 (f : Int)) ∧ w6.cell? ⟨wr.heap.size, 1, none⟩ = some (.int .i64 (t : Int)) ∧ w6.cell? ⟨wr.heap.size, 2, none⟩ = some (.int .i64 l) := ⟨e0.trans hSS.1, e1.trans hSS.2.1, e2.trans hSS.2.2.1, e3.trans hSS.2.2.2⟩
          have df : w6.frozen? ⟨w.heap.size, f, none⟩ = false := (World.frozen?_of_block (a := ⟨w.heap.size, f, none⟩) (hblk w.heap.size (by omega) hnG)).trans (unhide HFZ)
          have d0 := hS6.1
          have hput := (unhide HI2).2.put (o := .cells #[.int .i64 (f : Int), .int .i64 (t : Int), .int .i64 l] 65) (nv := .slice a6 (DD.length + 1) c6) hxN hown6 (by rw [unhide HV]; exact hg6) (by rw [unhide HV]; rcases ho6 with h | h; exact .inl h; right; rw [h, hs0])
          have hb6 : Below w.heap.size w w6 := ((unhide HI2).1.alloc (by omega) _).grown hg6 (by omega) (fun k hk => by have := ((unhide HRw).2 k hk).1; omega)
          have HF : Hid (Below w.heap.size w (w6.setCell ⟨w.heap.size, f, none⟩ (.slice a6 (DD.length + 1) c6)) ∧ OutA (w6.setCell ⟨w.heap.size, f, none⟩ (.slice a6 (DD.length + 1) c6)) w.heap.size N (fun k => if k = f then .slice a6 (DD.length + 1) c6 else rv k) (Sp.outs (L.take (d + 1)))) := hide ⟨hb6.setCell (p := ⟨w.heap.size, f, none⟩) (Nat.le_refl _) _, by
            have e : (fun k => if k = f then DD ++ [(⟨f, t, l⟩ : Sp.Arc)] else Sp.outs (L.take d) k) = Sp.outs (L.take (d + 1)) := funext fun k => by
              rw [unhide HTe, Sp.outs_snoc]
              by_cases hk : k = f
              · subst hk; rw [if_pos rfl, if_pos rfl, unhide HDD]
              · rw [if_neg hk, if_neg hk]
            rw [← e]
            exact hput⟩
          clear hblk e0 e1 e2 e3 hput hg6 ho6 hown6 hb6
          refine hK.out _ _ hS6 (fun _ => ?_)
          clear hK K
          try simp only [Act.put, List.setIfInBounds_toArray, List.set_cons_zero, List.set_cons_succ]
          refine wpAnyG_ready [11] (by kernel_rfl) (by simp) ?_
          refine AllReadyG.cons 11 (by rfl) (fun K hK => ?_) ?_
          · simp only [List.getElem_toArray, List.getElem_cons_succ, List.getElem_cons_zero]
            go_simp
            refine hK.out _ _ hS6 (fun _ => ?_)
            clear hK K
            try simp only [Act.put, List.setIfInBounds_toArray, List.set_cons_zero, List.set_cons_succ]
            refine wpAnyG_ready [12] (by kernel_rfl) (by simp) ?_
            refine AllReadyG.last 12 (by rfl) (by kernel_rfl) (fun K hK => ?_) ?_
            · simp only [List.getElem_toArray, List.getElem_cons_succ, List.getElem_cons_zero]
              go_simp
              refine hK.out _ _ ?_
              clear hK K
              try simp only [Act.put, List.setIfInBounds_toArray, List.set_cons_zero, List.set_cons_succ]
              refine wpAnyG_done (by kernel_rfl) ?_ _
              refine NoPanic.normal ?_
              go_wp2
              go_roundg g'
              case rel => exact ⟨d + 1, _, by omega, by go_num, HF⟩
              case measure => omega
            exact AllReadyG.nil
          exact AllReadyG.nil
        exact AllReadyG.nil
      exact AllReadyG.nil
    · have hdI : ¬ (d : Int) < (L.length : Int) := by omega
      obtain rfl : d = L.length := by omega
      go_wp2
      rw [unhide HP]
      have h := unhide HI
      rw [unhide HTa] at h
      exact ⟨rv, rfl, h.2, h.1⟩
end Go.Proofs.Ytoegjnolccabjab


/- Keys by rank: the row, with a free place or without, and what it holds. -/
namespace Go.Proofs.Ytoegjnolccabjab
open Go Go.RowKit

theorem Sp.ahead_no (k r k' r' : Int) : Sp.aheadB k r k' r' = false ↔ (r' < r ∨ (r = r' ∧ k' ≤ k)) := by
  simp only [Sp.aheadB, Bool.or_eq_false_iff, Bool.and_eq_false_iff, decide_eq_false_iff_not]; omega
theorem Sp.ahead_yes (k r k' r' : Int) : Sp.aheadB k r k' r' = true ↔ (r < r' ∨ (r = r' ∧ k < k')) := by
  simp only [Sp.aheadB, Bool.or_eq_true, Bool.and_eq_true, decide_eq_true_eq]

theorem Sp.stand_key (z : Nat → Int) (p k : Nat) (r : Int) (i : Nat) (hi : i < 300) : Sp.stand z p k r (i * 2) = if i = p then (k : Int) else z (i * 2) := by
  unfold Sp.stand Sp.upd
  rw [if_neg (by omega), if_neg (by omega)]
  by_cases h : i = p
  · rw [if_pos (by omega), if_pos h]
  · rw [if_neg (by omega), if_neg h]
theorem Sp.stand_rank (z : Nat → Int) (p k : Nat) (r : Int) (i : Nat) (hi : i < 300) : Sp.stand z p k r (i * 2 + 1) = if i = p then r else z (i * 2 + 1) := by
  unfold Sp.stand Sp.upd
  rw [if_neg (by omega)]
  by_cases h : i = p
  · rw [if_pos (by omega), if_pos h]
  · rw [if_neg (by omega), if_neg h, if_neg (by omega)]
theorem Sp.stand_many (z : Nat → Int) (p k : Nat) (r : Int) (hp : p < 300) : Sp.stand z p k r 600 = z 600 := by
  unfold Sp.stand Sp.upd
  rw [if_neg (by omega), if_neg (by omega), if_neg (by omega)]
theorem Sp.stand_place (z : Nat → Int) (p k : Nat) (r : Int) (j : Nat) (hp : p < 300) : Sp.stand z p k r (601 + j) = if j = k then (p : Int) + 1 else z (601 + j) := by
  unfold Sp.stand Sp.upd
  by_cases h : j = k
  · rw [if_pos (by omega), if_pos h]
  · rw [if_neg (by omega), if_neg h, if_neg (by omega), if_neg (by omega)]

/-- How many of the first keys there are. -/
def Sp.cntN (M : Nat → Option Int) : Nat → Nat
  | 0 => 0
  | N + 1 => Sp.cntN M N + if (M N).isSome then 1 else 0
def Sp.hcnt (M : Nat → Option Int) : Nat := Sp.cntN M 300
def Sp.put (M : Nat → Option Int) (k : Nat) (v : Option Int) : Nat → Option Int := fun j => if j = k then v else M j
theorem Sp.put_same (M : Nat → Option Int) (k : Nat) (v : Option Int) : Sp.put M k v k = v := by simp [Sp.put]
theorem Sp.put_other (M : Nat → Option Int) {k j : Nat} (v : Option Int) (h : j ≠ k) : Sp.put M k v j = M j := by simp [Sp.put, h]
theorem Sp.cntN_put (M : Nat → Option Int) (k : Nat) (v : Option Int) : ∀ N, Sp.cntN (Sp.put M k v) N + (if k < N ∧ (M k).isSome then 1 else 0) = Sp.cntN M N + (if k < N ∧ v.isSome then 1 else 0)
  | 0 => by simp [Sp.cntN]
  | N + 1 => by
    have ih := Sp.cntN_put M k v N
    simp only [Sp.cntN]
    rcases Nat.lt_trichotomy k N with h | h | h
    · rw [Sp.put_other _ _ (by omega)]
      have e1 : (k < N + 1 ∧ (M k).isSome = true) ↔ (k < N ∧ (M k).isSome = true) := ⟨fun x => ⟨h, x.2⟩, fun x => ⟨by omega, x.2⟩⟩
      have e2 : (k < N + 1 ∧ v.isSome = true) ↔ (k < N ∧ v.isSome = true) := ⟨fun x => ⟨h, x.2⟩, fun x => ⟨by omega, x.2⟩⟩
      simp only [e1, e2]
      omega
    · subst h
      rw [Sp.put_same]
      simp only [Nat.lt_irrefl, false_and, if_false, Nat.lt_succ_self, true_and] at ih ⊢
      omega
    · rw [Sp.put_other _ _ (by omega)]
      rw [if_neg (by omega), if_neg (by omega)] at ih
      rw [if_neg (c := k < N + 1 ∧ _) (by omega), if_neg (c := k < N + 1 ∧ _) (by omega)]
      omega
theorem Sp.cntN_le (M : Nat → Option Int) : ∀ N, Sp.cntN M N ≤ N
  | 0 => by simp [Sp.cntN]
  | N + 1 => by have := Sp.cntN_le M N; simp only [Sp.cntN]; split <;> omega
theorem Sp.hcnt_le (M : Nat → Option Int) : Sp.hcnt M ≤ 300 := Sp.cntN_le M 300
theorem Sp.hcnt_add (M : Nat → Option Int) (k : Nat) (r : Int) (hk : k < 300) (h : M k = none) : Sp.hcnt (Sp.put M k (some r)) = Sp.hcnt M + 1 := by
  have := Sp.cntN_put M k (some r) 300
  rw [h, if_neg (by simp), if_pos ⟨hk, rfl⟩] at this
  unfold Sp.hcnt; omega
theorem Sp.hcnt_anew (M : Nat → Option Int) (k : Nat) (r r' : Int) (hk : k < 300) (h : M k = some r') : Sp.hcnt (Sp.put M k (some r)) = Sp.hcnt M := by
  have := Sp.cntN_put M k (some r) 300
  rw [h, if_pos ⟨hk, rfl⟩, if_pos ⟨hk, rfl⟩] at this
  unfold Sp.hcnt; omega
theorem Sp.hcnt_drop (M : Nat → Option Int) (k : Nat) (r : Int) (hk : k < 300) (h : M k = some r) : Sp.hcnt (Sp.put M k none) + 1 = Sp.hcnt M := by
  have := Sp.cntN_put M k none 300
  rw [h, if_pos ⟨hk, rfl⟩, if_neg (by simp)] at this
  unfold Sp.hcnt; omega
theorem Sp.put_none (M : Nat → Option Int) (k : Nat) (h : M k = none) : Sp.put M k none = M := by
  funext j; unfold Sp.put; split
  · subst_vars; exact h.symm
  · rfl

/-- Item i of the row is ahead of item j. -/
def Sp.ah (z : Nat → Int) (i j : Nat) : Bool := Sp.aheadB (z (i * 2)) (z (i * 2 + 1)) (z (j * 2)) (z (j * 2 + 1))
/-- The row of n items that holds M. -/
structure Sp.HpI (z : Nat → Int) (M : Nat → Option Int) (n : Nat) : Prop where
  many : z 600 = (n : Int)
  le : n ≤ 300
  it : ∀ i, i < n → ∃ k : Nat, k < 300 ∧ z (i * 2) = (k : Int) ∧ z (601 + k) = (i : Int) + 1 ∧ M k = some (z (i * 2 + 1))
  pl : ∀ k, k < 300 → (z (601 + k) = 0 ∧ M k = none) ∨ ∃ i, i < n ∧ z (601 + k) = (i : Int) + 1 ∧ z (i * 2) = (k : Int)
  ord : ∀ i, 0 < i → i < n → Sp.ah z i ((i - 1) / 2) = false
  out : ∀ k, 300 ≤ k → M k = none
  cnt : n = Sp.hcnt M
/-- The same with place f free, for an item of key k, rank r. -/
structure Sp.HoI (z : Nat → Int) (M : Nat → Option Int) (n f k : Nat) (r : Int) : Prop where
  many : z 600 = (n : Int)
  le : n ≤ 300
  fn : f < n
  kl : k < 300
  mem : M k = some r
  it : ∀ i, i < n → i ≠ f → ∃ k' : Nat, k' < 300 ∧ k' ≠ k ∧ z (i * 2) = (k' : Int) ∧ z (601 + k') = (i : Int) + 1 ∧ M k' = some (z (i * 2 + 1))
  pl : ∀ k', k' < 300 → k' ≠ k → (z (601 + k') = 0 ∧ M k' = none) ∨ ∃ i, i < n ∧ i ≠ f ∧ z (601 + k') = (i : Int) + 1 ∧ z (i * 2) = (k' : Int)
  ord : ∀ i, 0 < i → i < n → i ≠ f → (i - 1) / 2 ≠ f → Sp.ah z i ((i - 1) / 2) = false
  gr : ∀ i, 0 < i → i < n → (i - 1) / 2 = f → 0 < f → Sp.ah z i ((f - 1) / 2) = false
  out : ∀ k, 300 ≤ k → M k = none
  cnt : n = Sp.hcnt M
/-- Behind the row nothing has turned. -/
def Sp.Up (n : Nat) (z z' : Nat → Int) : Prop := ∀ i, n ≤ i → i < 300 → z' (i * 2) = z (i * 2) ∧ z' (i * 2 + 1) = z (i * 2 + 1)
theorem Sp.Up.refl (n : Nat) (z : Nat → Int) : Sp.Up n z z := fun _ _ _ => ⟨rfl, rfl⟩
theorem Sp.Up.trans {n : Nat} {a b c : Nat → Int} (h : Sp.Up n a b) (k : Sp.Up n b c) : Sp.Up n a c := fun i h1 h2 => ⟨(k i h1 h2).1.trans (h i h1 h2).1, (k i h1 h2).2.trans (h i h1 h2).2⟩
theorem Sp.Up.stand {n : Nat} (z : Nat → Int) (p k : Nat) (r : Int) (hp : p < n) : Sp.Up n z (Sp.stand z p k r) := fun i h1 h2 => by
  rw [Sp.stand_key _ _ _ _ _ h2, Sp.stand_rank _ _ _ _ _ h2, if_neg (by omega), if_neg (by omega)]; exact ⟨rfl, rfl⟩
theorem Sp.ah_trans {z : Nat → Int} {i j k : Nat} (h : Sp.ah z i j = false) (h' : Sp.ah z j k = false) : Sp.ah z i k = false := by
  unfold Sp.ah at *
  rw [Sp.ahead_no] at *
  omega
theorem Sp.ah_stand {z : Nat → Int} {p k : Nat} {r : Int} {i j : Nat} (hi : i < 300) (hj : j < 300) (h1 : i ≠ p) (h2 : j ≠ p) : Sp.ah (Sp.stand z p k r) i j = Sp.ah z i j := by
  unfold Sp.ah
  rw [Sp.stand_key _ _ _ _ _ hi, Sp.stand_rank _ _ _ _ _ hi, Sp.stand_key _ _ _ _ _ hj, Sp.stand_rank _ _ _ _ _ hj, if_neg h1, if_neg h1, if_neg h2, if_neg h2]
theorem Sp.ah_standL {z : Nat → Int} {p c k : Nat} {j : Nat} (hp : p < 300) (hj : j < 300) (h2 : j ≠ p) (hk : z (c * 2) = (k : Int)) : Sp.ah (Sp.stand z p k (z (c * 2 + 1))) p j = Sp.ah z c j := by
  unfold Sp.ah
  rw [Sp.stand_key _ _ _ _ _ hp, Sp.stand_rank _ _ _ _ _ hp, Sp.stand_key _ _ _ _ _ hj, Sp.stand_rank _ _ _ _ _ hj, if_pos rfl, if_pos rfl, if_neg h2, if_neg h2, hk]
theorem Sp.ah_standR {z : Nat → Int} {p c k : Nat} {j : Nat} (hp : p < 300) (hj : j < 300) (h2 : j ≠ p) (hk : z (c * 2) = (k : Int)) : Sp.ah (Sp.stand z p k (z (c * 2 + 1))) j p = Sp.ah z j c := by
  unfold Sp.ah
  rw [Sp.stand_key _ _ _ _ _ hp, Sp.stand_rank _ _ _ _ _ hp, Sp.stand_key _ _ _ _ _ hj, Sp.stand_rank _ _ _ _ _ hj, if_pos rfl, if_pos rfl, if_neg h2, if_neg h2, hk]

/-- The item at c moves to the free place f: c is free. -/
theorem Sp.HoI.moved {z : Nat → Int} {M : Nat → Option Int} {n f k : Nat} {r : Int} (h : Sp.HoI z M n f k r) {c kc : Nat} (hc : c < n) (hcf : c ≠ f) (hkc : z (c * 2) = (kc : Int))
    (ord : ∀ i, 0 < i → i < n → i ≠ c → (i - 1) / 2 ≠ c → Sp.ah (Sp.stand z f kc (z (c * 2 + 1))) i ((i - 1) / 2) = false)
    (gr : ∀ i, 0 < i → i < n → (i - 1) / 2 = c → 0 < c → Sp.ah (Sp.stand z f kc (z (c * 2 + 1))) i ((c - 1) / 2) = false) :
    Sp.HoI (Sp.stand z f kc (z (c * 2 + 1))) M n c k r ∧ kc < 300 := by
  have hn := h.le
  have hf := h.fn
  obtain ⟨k1, hk1, hk1k, hz1, hp1, hm1⟩ := h.it c hc hcf
  obtain rfl : kc = k1 := by omega
  refine ⟨⟨by rw [Sp.stand_many _ _ _ _ (by omega)]; exact h.many, h.le, hc, h.kl, h.mem, fun i hi hic => ?_, fun k' hk' hkk => ?_, ord, gr, h.out, h.cnt⟩, hk1⟩
  · by_cases hif : i = f
    · subst hif
      refine ⟨kc, hk1, hk1k, ?_, ?_, ?_⟩
      · rw [Sp.stand_key _ _ _ _ _ (by omega), if_pos rfl]
      · rw [Sp.stand_place _ _ _ _ _ (by omega), if_pos rfl]
      · rw [Sp.stand_rank _ _ _ _ _ (by omega), if_pos rfl]; exact hm1
    · obtain ⟨k2, hk2, hk2k, hz2, hp2, hm2⟩ := h.it i hi hif
      have hne : k2 ≠ kc := fun e => by subst e; rw [hp1] at hp2; omega
      refine ⟨k2, hk2, hk2k, ?_, ?_, ?_⟩
      · rw [Sp.stand_key _ _ _ _ _ (by omega), if_neg hif]; exact hz2
      · rw [Sp.stand_place _ _ _ _ _ (by omega), if_neg hne]; exact hp2
      · rw [Sp.stand_rank _ _ _ _ _ (by omega), if_neg hif]; exact hm2
  · rw [Sp.stand_place _ _ _ _ _ (by omega)]
    by_cases hkk' : k' = kc
    · subst hkk'
      rw [if_pos rfl]
      exact .inr ⟨f, hf, fun e => hcf e.symm, rfl, by rw [Sp.stand_key _ _ _ _ _ (by omega), if_pos rfl]⟩
    · rw [if_neg hkk']
      rcases h.pl k' hk' hkk with h0 | ⟨i, hi, hif, hpi, hzi⟩
      · exact .inl h0
      · refine .inr ⟨i, hi, fun e => ?_, hpi, by rw [Sp.stand_key _ _ _ _ _ (by omega), if_neg hif]; exact hzi⟩
        subst e
        rw [hkc] at hzi
        omega
theorem Sp.HoI.rise {z : Nat → Int} {M : Nat → Option Int} {n f k : Nat} {r : Int} (h : Sp.HoI z M n f k r) {kc : Nat} (hf : 0 < f) (hkc : z ((f - 1) / 2 * 2) = (kc : Int)) :
    Sp.HoI (Sp.stand z f kc (z ((f - 1) / 2 * 2 + 1))) M n ((f - 1) / 2) k r ∧ kc < 300 := by
  have hn := h.le
  have hfn := h.fn
  refine h.moved (by omega) (by omega) hkc (fun i h0 hi hic hpc => ?_) (fun i h0 hi hpc hc0 => ?_)
  · by_cases hif : i = f
    · omega
    · by_cases hpf : (i - 1) / 2 = f
      · rw [hpf, Sp.ah_standR (by omega) (by omega) hif hkc]
        exact h.gr i h0 hi hpf hf
      · rw [Sp.ah_stand (by omega) (by omega) hif hpf]
        exact h.ord i h0 hi hif hpf
  · by_cases hif : i = f
    · subst hif
      rw [Sp.ah_standL (by omega) (by omega) (by omega) hkc]
      exact h.ord _ hc0 (by omega) (by omega) (by omega)
    · rw [Sp.ah_stand (by omega) (by omega) hif (by omega)]
      have h1 := h.ord i h0 hi hif (by omega)
      rw [hpc] at h1
      exact Sp.ah_trans h1 (h.ord _ hc0 (by omega) (by omega) (by omega))
theorem Sp.HoI.sink {z : Nat → Int} {M : Nat → Option Int} {n f k : Nat} {r : Int} (h : Sp.HoI z M n f k r) {c kc : Nat} (hc0 : 0 < c) (hcn : c < n) (hcf : (c - 1) / 2 = f) (hkc : z (c * 2) = (kc : Int))
    (hmin : ∀ i, 0 < i → i < n → (i - 1) / 2 = f → Sp.ah z i c = false) :
    Sp.HoI (Sp.stand z f kc (z (c * 2 + 1))) M n c k r ∧ kc < 300 := by
  have hn := h.le
  have hfn := h.fn
  refine h.moved hcn (by omega) hkc (fun i h0 hi hic hpc => ?_) (fun i h0 hi hpc _ => ?_)
  · by_cases hif : i = f
    · subst hif
      rw [Sp.ah_standL (by omega) (by omega) (by omega) hkc]
      exact h.gr c hc0 hcn hcf h0
    · by_cases hpf : (i - 1) / 2 = f
      · rw [hpf, Sp.ah_standR (by omega) (by omega) hif hkc]
        exact hmin i h0 hi hpf
      · rw [Sp.ah_stand (by omega) (by omega) hif hpf]
        exact h.ord i h0 hi hif hpf
  · rw [hcf, Sp.ah_standR (by omega) (by omega) (by omega) hkc]
    have := h.ord i h0 hi (by omega) (by omega)
    rw [hpc] at this
    exact this
/-- The item laid at the free place: the row has none any more. -/
theorem Sp.HoI.shut {z : Nat → Int} {M : Nat → Option Int} {n f k : Nat} {r : Int} (h : Sp.HoI z M n f k r)
    (hup : 0 < f → Sp.aheadB (k : Int) r (z ((f - 1) / 2 * 2)) (z ((f - 1) / 2 * 2 + 1)) = false)
    (hdn : ∀ i, 0 < i → i < n → (i - 1) / 2 = f → Sp.aheadB (z (i * 2)) (z (i * 2 + 1)) (k : Int) r = false) : Sp.HpI (Sp.stand z f k r) M n := by
  have hn := h.le
  have hf := h.fn
  refine ⟨by rw [Sp.stand_many _ _ _ _ (by omega)]; exact h.many, h.le, fun i hi => ?_, fun k' hk' => ?_, fun i h0 hi => ?_, h.out, h.cnt⟩
  · by_cases hif : i = f
    · subst hif
      refine ⟨k, h.kl, ?_, ?_, ?_⟩
      · rw [Sp.stand_key _ _ _ _ _ (by omega), if_pos rfl]
      · rw [Sp.stand_place _ _ _ _ _ (by omega), if_pos rfl]
      · rw [Sp.stand_rank _ _ _ _ _ (by omega), if_pos rfl]; exact h.mem
    · obtain ⟨k2, hk2, hk2k, hz2, hp2, hm2⟩ := h.it i hi hif
      refine ⟨k2, hk2, ?_, ?_, ?_⟩
      · rw [Sp.stand_key _ _ _ _ _ (by omega), if_neg hif]; exact hz2
      · rw [Sp.stand_place _ _ _ _ _ (by omega), if_neg hk2k]; exact hp2
      · rw [Sp.stand_rank _ _ _ _ _ (by omega), if_neg hif]; exact hm2
  · rw [Sp.stand_place _ _ _ _ _ (by omega)]
    by_cases hkk : k' = k
    · rw [if_pos hkk]
      exact .inr ⟨f, hf, rfl, by rw [Sp.stand_key _ _ _ _ _ (by omega), if_pos rfl, hkk]⟩
    · rw [if_neg hkk]
      rcases h.pl k' hk' hkk with h0 | ⟨i, hi, hif, hpi, hzi⟩
      · exact .inl h0
      · exact .inr ⟨i, hi, hpi, by rw [Sp.stand_key _ _ _ _ _ (by omega), if_neg hif]; exact hzi⟩
  · by_cases hif : i = f
    · subst hif
      unfold Sp.ah
      rw [Sp.stand_key _ _ _ _ _ (by omega), Sp.stand_rank _ _ _ _ _ (by omega), Sp.stand_key _ _ _ _ _ (by omega), Sp.stand_rank _ _ _ _ _ (by omega), if_pos rfl, if_pos rfl, if_neg (by omega), if_neg (by omega)]
      exact hup h0
    · by_cases hpf : (i - 1) / 2 = f
      · unfold Sp.ah
        rw [hpf, Sp.stand_key _ _ _ _ _ (by omega), Sp.stand_rank _ _ _ _ _ (by omega), Sp.stand_key _ _ _ _ _ (by omega), Sp.stand_rank _ _ _ _ _ (by omega), if_neg hif, if_neg hif, if_pos rfl, if_pos rfl]
        exact hdn i h0 hi hpf
      · rw [Sp.ah_stand (by omega) (by omega) hif hpf]
        exact h.ord i h0 hi hif hpf
end Go.Proofs.Ytoegjnolccabjab


/- Package heap: rise. -/
namespace Go.Proofs.Ytoegjnolccabjab
open Go Go.RowKit

theorem hcell_lt {w : World} {b j : Nat} {v : Value} (h : w.cell? ⟨b, j, none⟩ = some v) : b < w.heap.size := by
  rcases Nat.lt_or_ge b w.heap.size with h1 | h1
  · exact h1
  · simp [World.cell?, Array.getElem?_eq_none h1] at h
set_option maxRecDepth 100000 in
set_option maxHeartbeats 4000000 in
theorem rise_any (z : Nat → Int) (M : Nat → Option Int) (b n f k : Nat) (r : Int) (w : World) (h : HpAt w b z) (hi : Sp.HoI z M n f k r) :
    Calls Try.prog 93 #[.pointer (some ⟨b, 0, none⟩), .int .i64 (f : Int), .agg #[.int .i64 (k : Int), .int .i64 r]] w fun e w' => ∃ (f' : Nat) (z' : Nat → Int), e = .returned (.int .i64 (f' : Int)) ∧ But b w w' ∧ HpAt w' b z' ∧ Sp.HoI z' M n f' k r ∧ Sp.Up n z z' ∧ (0 < f' → Sp.aheadB (k : Int) r (z' ((f' - 1) / 2 * 2)) (z' ((f' - 1) / 2 * 2 + 1)) = false) := by
  have hb := h.lt
  have hfn := hi.fn
  have hnl := hi.le
  have HI0 : Hid (But b (w.alloc (.cells #[.int .i64 (k : Int), .int .i64 r] 98)) (w.alloc (.cells #[.int .i64 (k : Int), .int .i64 r] 98)) ∧ HpAt (w.alloc (.cells #[.int .i64 (k : Int), .int .i64 r] 98)) b z ∧ Sp.HoI z M n f k r ∧ Sp.Up n z z) := hide ⟨But.refl _ _, h.alloc _, hi, Sp.Up.refl _ _⟩
  have HX : Hid (∀ wr, But b (w.alloc (.cells #[.int .i64 (k : Int), .int .i64 r] 98)) wr → wr.cell? ⟨w.heap.size, 0, none⟩ = some (.int .i64 (k : Int)) ∧ wr.cell? ⟨w.heap.size, 1, none⟩ = some (.int .i64 r) ∧ But b w wr) := hide fun wr hw => by
    obtain ⟨x0, x1⟩ := item_new w (.int .i64 (k : Int)) (.int .i64 r)
    exact ⟨(hw.cell (by simp) (by show w.heap.size ≠ b; omega)).trans x0, (hw.cell (by simp) (by show w.heap.size ≠ b; omega)).trans x1, ((But.refl b w).alloc _).trans hw⟩
  obtain ⟨P, hP⟩ : ∃ P : Ending → World → Prop, P = fun e w' => ∃ (f' : Nat) (z' : Nat → Int), e = .returned (.int .i64 (f' : Int)) ∧ But b w w' ∧ HpAt w' b z' ∧ Sp.HoI z' M n f' k r ∧ Sp.Up n z z' ∧ (0 < f' → Sp.aheadB (k : Int) r (z' ((f' - 1) / 2 * 2)) (z' ((f' - 1) / 2 * 2 + 1)) = false) := ⟨_, rfl⟩
  rw [← hP]
  have HP := hide hP
  clear hP h hi
  go_enter Try.func93, Try.ntmps93
  go_wp2
  generalize w.alloc (.cells #[.int .i64 (k : Int), .int .i64 r] 98) = W1 at *
  go_loopg [1] f (fun g s1 wr => ∃ (f : Nat) (z' : Nat → Int), f ≤ g ∧ f < n ∧ s1 = .int .i64 (f : Int) ∧ Hid (But b W1 wr ∧ HpAt wr b z' ∧ Sp.HoI z' M n f k r ∧ Sp.Up n z z'))
  case atStart => exact ⟨f, z, Nat.le_refl _, hfn, rfl, HI0⟩
  case round =>
    clear HI0 hfn
    clear f
    obtain ⟨f, z', hfg, hfn, rfl, HI⟩ := hrel
    obtain ⟨x0, x1, hbw⟩ := unhide HX wr (unhide HI).1
    have HBW := hide hbw
    clear hbw
    by_cases h0 : f = 0
    · subst h0
      go_wp2
      rw [unhide HP]
      exact ⟨0, z', rfl, unhide HBW, (unhide HI).2.1, (unhide HI).2.2.1, (unhide HI).2.2.2, by omega⟩
    · obtain ⟨a, ha⟩ : ∃ a, (f - 1) / 2 = a := ⟨_, rfl⟩
      have ha' : (f : Int) - 1 = ((f - 1 : Nat) : Int) := by omega
      have hq : ((f : Int) - 1).tdiv 2 = (a : Int) := by rw [ha', ← ha]; rfl
      have h0' : 0 < (f : Int) := by omega
      have haI : (a : Int) < 300 := by omega
      obtain ⟨kc, hkl, hkk, hzk, -, -⟩ := (unhide HI).2.2.1.it a (by omega) (by omega)
      have c0 := (unhide HI).2.1.cell (j := a * 2) (by omega)
      have c1 := (unhide HI).2.1.cell (j := a * 2 + 1) (by omega)
      rw [hzk] at c0
      have HC : Hid (∀ w', Below wr.heap.size wr w' → w'.cell? ⟨w.heap.size, 0, none⟩ = some (.int .i64 (k : Int)) ∧ w'.cell? ⟨w.heap.size, 1, none⟩ = some (.int .i64 r) ∧ w'.cell? ⟨b, a * 2, none⟩ = some (.int .i64 (kc : Int)) ∧ w'.cell? ⟨b, a * 2 + 1, none⟩ = some (.int .i64 (z' (a * 2 + 1)))) := hide fun w' hb => by
        have hbl := (unhide HI).2.1.lt
        have hwl : w.heap.size < wr.heap.size := by
          have := x0
          exact hcell_lt this
        exact ⟨(hb.cell hwl).trans x0, (hb.cell hwl).trans x1, (hb.cell hbl).trans c0, (hb.cell hbl).trans c1⟩
      have HK := hide (show (z' (a * 2) = (kc : Int) ∧ kc < 300 ∧ (f - 1) / 2 = a) from ⟨hzk, hkl, ha⟩)
      generalize hrc : z' (a * 2 + 1) = rc at *
      have HRC := hide hrc
      clear hrc
      have hbr : Below wr.heap.size wr wr.drew := (Below.refl _ _).drew
      clear ha ha' hzk hkk
      by_cases hR : Sp.aheadB (k : Int) r (kc : Int) rc = true
      · obtain ⟨g', rfl⟩ : ∃ g', gk = g' + 1 := ⟨gk - 1, by omega⟩
        have HA := hide (show ∀ w', Calls Try.prog 96 #[.agg #[.int .i64 (k : Int), .int .i64 r], .agg #[.int .i64 (kc : Int), .int .i64 rc]] w' fun e w'' => e = .returned (.bool true) ∧ Below w'.heap.size w' w'' from fun w' => by have := ahead_any (k : Int) r (kc : Int) rc w'; rw [hR] at this; exact this)
        clear hR
        go_upto_region 3 with fail
        clear x0 x1 c0 c1
        go_region_held3 (fun w' => w'.cell? ⟨w.heap.size, 0, none⟩ = some (.int .i64 (k : Int)) ∧ w'.cell? ⟨w.heap.size, 1, none⟩ = some (.int .i64 r) ∧ w'.cell? ⟨b, a * 2, none⟩ = some (.int .i64 (kc : Int)) ∧ w'.cell? ⟨b, a * 2 + 1, none⟩ = some (.int .i64 rc))
          (first
            | exact unhide HC _ hb8
            | exact unhide HC _ hbr)
          (first
            | (go_at_call 96
               refine (unhide HA _).mono ?_
               rintro e w8 ⟨rfl, hl8⟩
               have hb8 : Below wr.heap.size wr w8 := hbr.trans hl8))
        all_goals
          obtain ⟨x0, x1, c0, c1⟩ := unhide HC _ hb8
          go_wp2_with fail
          refine (stand_any z' b f kc rc w8 ((unhide HI).2.1.below hb8) (by omega) hkl).mono ?_
          rintro e w9 ⟨rfl, hbut9, hat9⟩
          have HN := hide (unhide HI).2.2.1
          have hN := ((unhide HI).2.2.1).rise (kc := kc) (by omega) (by rw [(unhide HK).2.2]; exact (unhide HK).1)
          rw [(unhide HK).2.2, unhide HRC] at hN
          have HF : Hid (But b W1 w9 ∧ HpAt w9 b (Sp.stand z' f kc rc) ∧ Sp.HoI (Sp.stand z' f kc rc) M n a k r ∧ Sp.Up n z (Sp.stand z' f kc rc)) := hide ⟨((unhide HI).1.trans (But.of hb8)).trans hbut9, hat9, hN.1, (unhide HI).2.2.2.trans (Sp.Up.stand _ _ _ _ hfn)⟩
          clear hbut9 hat9 hN HN HI HC x0 x1 c0 c1
          go_wp2
          go_roundg g'
          case rel => exact ⟨a, _, by have := (unhide HK).2.2; omega, by have := (unhide HK).2.2; omega, rfl, HF⟩
          case measure => omega
      · have hR' : Sp.aheadB (k : Int) r (kc : Int) rc = false := by simpa using hR
        have HA := hide (show ∀ w', Calls Try.prog 96 #[.agg #[.int .i64 (k : Int), .int .i64 r], .agg #[.int .i64 (kc : Int), .int .i64 rc]] w' fun e w'' => e = .returned (.bool false) ∧ Below w'.heap.size w' w'' from fun w' => by have := ahead_any (k : Int) r (kc : Int) rc w'; rw [hR'] at this; exact this)
        have HR := hide hR'
        clear hR hR'
        go_upto_region 3 with fail
        clear x0 x1 c0 c1
        go_region_held3 (fun w' => w'.cell? ⟨w.heap.size, 0, none⟩ = some (.int .i64 (k : Int)) ∧ w'.cell? ⟨w.heap.size, 1, none⟩ = some (.int .i64 r) ∧ w'.cell? ⟨b, a * 2, none⟩ = some (.int .i64 (kc : Int)) ∧ w'.cell? ⟨b, a * 2 + 1, none⟩ = some (.int .i64 rc))
          (first
            | exact unhide HC _ hb8
            | exact unhide HC _ hbr)
          (first
            | (go_at_call 96
               refine (unhide HA _).mono ?_
               rintro e w8 ⟨rfl, hl8⟩
               have hb8 : Below wr.heap.size wr w8 := hbr.trans hl8))
        all_goals
          have HF : Hid (But b w w8 ∧ HpAt w8 b z' ∧ Sp.HoI z' M n f k r ∧ Sp.Up n z z') := hide ⟨(unhide HBW).trans (But.of hb8), (unhide HI).2.1.below hb8, (unhide HI).2.2.1, (unhide HI).2.2.2⟩
          clear HC HI
          go_wp2
          rw [unhide HP]
          exact ⟨f, z', rfl, (unhide HF).1, (unhide HF).2.1, (unhide HF).2.2.1, (unhide HF).2.2.2, fun _ => by rw [(unhide HK).2.2, (unhide HK).1, unhide HRC]; exact unhide HR⟩
end Go.Proofs.Ytoegjnolccabjab


