/- The walks of slices.Index and of package rot: roundOf. -/
import Derived.Test.YtnkkgeammohemabS24
namespace Go.Proofs.Ytnkkgeammohemab
open Go Go.RowKit

set_option maxRecDepth 100000 in
set_option maxHeartbeats 1000000 in
theorem index_any (l : List Int) (g o m c : Nat) (d : Int) (w : World) (hl : l.length = m) (hm : m ≤ 240) (hc : ∀ j, (hj : j < l.length) → w.cell? ⟨g, o + j, none⟩ = some (.int .i64 l[j])) :
    Calls Try.prog 44 #[.slice (some ⟨g, o, none⟩) m c, .int .i64 d] w fun e w' => ((∃ i : Nat, ∃ hi : i < l.length, e = .returned (.int .i64 (i : Int)) ∧ l[i] = d ∧ ∀ j, (hj : j < l.length) → j < i → l[j] ≠ d) ∨ (e = .returned (.int .i64 (-1)) ∧ ¬ d ∈ l)) ∧ w' = w := by
  have HC := hide hc
  have Hl := hide hl
  clear hc hl
  obtain ⟨P, hP⟩ : ∃ P : Ending → World → Prop, P = fun e w' => ((∃ i : Nat, ∃ hi : i < l.length, e = .returned (.int .i64 (i : Int)) ∧ l[i] = d ∧ ∀ j, (hj : j < l.length) → j < i → l[j] ≠ d) ∨ (e = .returned (.int .i64 (-1)) ∧ ¬ d ∈ l)) ∧ w' = w := ⟨_, rfl⟩
  rw [← hP]
  have HP := hide hP
  clear hP
  go_enter Try.func44, Try.ntmps44
  go_wp2
  go_loop [8] (fun i => ∃ k : Nat, k ≤ m ∧ i = .int .i64 (k : Int) ∧ Hid (∀ j, (hj : j < l.length) → j < k → l[j] ≠ d)) (fun i => m - (intOf i).toNat)
  case atStart => exact ⟨0, by omega, rfl, hide (fun j _ h => by omega)⟩
  case round =>
    obtain ⟨k, hk, rfl, HA⟩ := hrel
    by_cases hlt : k < m
    · have hltI : (k : Int) < (m : Int) := by omega
      have hkl : k < l.length := by rw [unhide Hl]; exact hlt
      have c1 := unhide HC k hkl
      by_cases hd : l[k] = d
      · have HD := hide hd
        rw [hd] at c1
        have hkk : (d == d) = true := beq_self_eq_true _
        clear hd
        go_wp2
        rw [unhide HP]
        exact ⟨.inl ⟨k, hkl, rfl, unhide HD, unhide HA⟩, rfl⟩
      · have HN : Hid (∀ j, (hj : j < l.length) → j < k + 1 → l[j] ≠ d) := hide fun j hj h => by
          rcases Nat.lt_or_ge j k with h' | h'
          · exact unhide HA j hj h'
          · obtain rfl : j = k := by omega
            exact hd
        have hkk : (d == l[k]) = false := beq_eq_false_iff_ne.2 (fun h => hd h.symm)
        generalize l[k] = z at *
        clear hd
        go_wp2
        go_round
        case rel => exact ⟨k + 1, by omega, by go_num, HN⟩
        case measure => simp [intOf]; omega
    · have HN : Hid (¬ d ∈ l) := hide fun hm => by
        obtain ⟨j, hj, rfl⟩ := List.mem_iff_getElem.1 hm
        exact unhide HA j hj (by have := unhide Hl; omega) rfl
      go_wp2
      rw [unhide HP]
      exact ⟨.inr ⟨rfl, unhide HN⟩, rfl⟩
/-- A slice of the call's own, wherever it lies. -/
def Mine (w : World) (B : Nat) (v : Value) (l : List Int) : Prop :=
  (v = .slice none 0 0 ∧ l = []) ∨ ∃ g o c, v = .slice (some ⟨g, o, none⟩) l.length c ∧ B ≤ g ∧ g < w.heap.size ∧ l.length ≤ c ∧ c ≤ maxLen ∧ ∀ j, (hj : j < l.length) → w.cell? ⟨g, o + j, none⟩ = some (.int .i64 l[j]) ∧ w.frozen? ⟨g, o + j, none⟩ = false
theorem Mine.ints {w : World} {B : Nat} {v : Value} {l : List Int} (h : Mine w B v l) : Ints w v l := by
  rcases h with ⟨rfl, rfl⟩ | ⟨g, o, c, rfl, hB, hg, hc, hm, hcell⟩
  · exact ⟨none, 0, rfl, by simp, by unfold maxLen; omega, fun k hk => by simp at hk⟩
  · exact ⟨_, c, rfl, hc, hm, fun k hk => ⟨g, o, rfl, hg, (hcell k hk).1⟩⟩
theorem Mine.base {w : World} {B B' : Nat} {v : Value} {l : List Int} (h : Mine w B v l) (hb : B' ≤ B) : Mine w B' v l := by
  rcases h with h | ⟨g, o, c, hv, hB, r⟩
  · exact .inl h
  · exact .inr ⟨g, o, c, hv, by omega, r⟩
theorem Mine.below {w w' : World} {B : Nat} {v : Value} {l : List Int} (h : Mine w B v l) (hb : Below w.heap.size w w') : Mine w' B v l := by
  rcases h with h | ⟨g, o, c, hv, hB, hg, hc, hm, hcell⟩
  · exact .inl h
  · exact .inr ⟨g, o, c, hv, hB, Nat.lt_of_lt_of_le hg hb.size, hc, hm, fun j hj => ⟨(hb.cell (by exact hg)).trans (hcell j hj).1, (World.frozen?_of_block (hb.block g hg)).trans (hcell j hj).2⟩⟩
theorem run_app_grow (w : World) (g o k n c : Nat) (g2 o2 : Nat) (l1 l2 : List Int) (h1 : l1.length = k) (h2 : l2.length = n) (hn : 0 < n) (hbig : k + n ≤ 1000)
    (hc1 : ∀ j, (hj : j < l1.length) → w.cell? ⟨g, o + j, none⟩ = some (.int .i64 l1[j])) (hc2 : ∀ j, (hj : j < l2.length) → w.cell? ⟨g2, o2 + j, none⟩ = some (.int .i64 l2[j])) :
    ∃ c' w', (Builtin.append_ #[23, 23] 23 #[.slice (some ⟨g, o, none⟩) k k, .slice (some ⟨g2, o2, none⟩) n c]).run Try.prog w = .ok (.slice (some ⟨w.heap.size, 0, none⟩) (k + n) c') w' ∧ OwnI w' w.heap.size (.slice (some ⟨w.heap.size, 0, none⟩) (k + n) c') (l1 ++ l2) ∧ Below w.heap.size w w' := by
  obtain ⟨i0, hi, hz0, hz1, hz2⟩ := info_parts info3
  subst h1 h2
  have cellsOf : ∀ (g o : Nat) (l : List Int), (∀ j, (hj : j < l.length) → w.cell? ⟨g, o + j, none⟩ = some (.int .i64 l[j])) → ∀ j v, (l.map (Value.int .i64))[j]? = some v → w.cell? ((⟨g, o, none⟩ : Addr).add j) = some v := by
    intro g o l hc j v hj
    obtain ⟨hj1, hj2⟩ := List.getElem?_eq_some_iff.1 hj
    rw [List.length_map] at hj1
    rw [← hj2, List.getElem_map, Addr.add_lit]
    exact hc j hj1
  have hrun := run_append_grow (P := Try.prog) (w := w) 23 23 3 i0 (.int .i64 0) Try.underlying23 hi hz0 ⟨g, o, none⟩ l1.length l1.length (l1.map (Value.int .i64)) (by simp [hz1]) (cellsOf g o l1 hc1) ⟨g2, o2, none⟩ l2.length c (l2.map (Value.int .i64)) (by simp [hz1]) (cellsOf g2 o2 l2 hc2) (by omega) (by omega) (growslice_fits (by omega) (by rw [hz2]; omega))
  have hge := grownCap_ge w (l1.length + l2.length) l1.length 3
  have hcm := grownCap_le_maxLen w (l1.length + l2.length) l1.length 3 (by unfold maxLen; omega)
  refine ⟨_, _, hrun, ⟨by simp, .inr ⟨w.heap.size, _, _, by simp, Nat.le_refl _, heap_alloc_new w.drew _, by simpa using hge, hcm, ?_, ?_⟩⟩, (Below.refl _ w).drew.alloc (Nat.le_refl _) _⟩
  · simp [size_zeroCells, Value.cells]
    omega
  · simp only [Array.toList_append, List.map_append]
    rw [List.take_left' (by simp)]
/-- A round from d on. -/
def Sp.rot2 (l : List Int) (i : Nat) : List Int := l.drop i ++ l.take i
def Sp.ofGo (row : List Int) (d : Int) : List (Nat × Nat) → List Int
  | [] => []
  | p :: r => if d ∈ Sp.piece row p then Sp.rot2 (Sp.piece row p) ((Sp.piece row p).idxOf d) else Sp.ofGo row d r
theorem idxOf_of : ∀ (l : List Int) (d : Int) (i : Nat) (hi : i < l.length), l[i] = d → (∀ j, (hj : j < l.length) → j < i → l[j] ≠ d) → l.idxOf d = i
  | [], _, _, hi, _, _ => by simp at hi
  | x :: r, d, 0, _, h, _ => by
    simp only [List.getElem_cons_zero] at h
    have h2 : (x == d) = true := by rw [h]; exact beq_self_eq_true _
    rw [List.idxOf_cons, h2]
    rfl
  | x :: r, d, i + 1, hi, h, hn => by
    have h0 := hn 0 (by simp) (by omega)
    simp only [List.getElem_cons_zero] at h0
    simp only [List.getElem_cons_succ] at h
    have h1 := idxOf_of r d i (by simpa using hi) h (fun j hj hji => by
      have := hn (j + 1) (by simpa using hj) (by omega)
      simpa using this)
    have h2 : (x == d) = false := beq_eq_false_iff_ne.2 h0
    rw [List.idxOf_cons, h2, h1]
    rfl
def Sp.roundOf (st : List Int) (d : Int) : List Int := Sp.ofGo (Sp.rndsD st).1 d (Sp.rndsD st).2
theorem run_app_none (w : World) (g o k g2 o2 c : Nat) :
    (Builtin.append_ #[23, 23] 23 #[.slice (some ⟨g, o, none⟩) k k, .slice (some ⟨g2, o2, none⟩) 0 c]).run Try.prog w = .ok (.slice (some ⟨g, o, none⟩) k k) w := by
  obtain ⟨i0, hi, hz0, hz1, hz2⟩ := info_parts info3
  simp [Builtin.append_, run_underlying Try.underlying23, sizeOf, typeInfo, hi, Builtin.lenOf, Builtin.firstCells, storeCells, loadCells, loadCellsFrom]
theorem cell_lt {w : World} {a : Addr} {v : Value} (h : w.cell? a = some v) : a.block < w.heap.size := by
  rcases Nat.lt_or_ge a.block w.heap.size with h' | h'
  · exact h'
  · unfold World.cell? at h
    rw [Array.getElem?_eq_none h'] at h
    cases h
theorem own_mine {w : World} {B B' g n c : Nat} {l : List Int} (h : OwnI w B (.slice (some ⟨g, 0, none⟩) n c) l) (hl : n = l.length) (hb : B' ≤ B) : Mine w B' (.slice (some ⟨g, 0, none⟩) n c) l := by
  have h0 := h
  have hlt := h.lt g rfl
  obtain ⟨h1, ⟨h2, -⟩ | ⟨g', cap, cur, e, hg, hh, hnc, hcm, hsz, htk⟩⟩ := h
  · cases h2
  · injection e with e1 e2 e3
    subst e3
    refine .inr ⟨g, 0, c, by rw [hl], by omega, hlt.2, hnc, hcm, fun j hj => ?_⟩
    rw [Nat.zero_add]
    exact ⟨own_cell h0 j hj, own_frozen h0 j⟩
/-- An append whose run is known, as one step of a region that draws its order. -/
theorem step_run {w : World} {ops : Array Oper} {o : Oper} {a : Act} {K : Act → World → Prop} {Q : Exit → Act → World → Prop} {E : Prop} (hgd : o.guard = none) (s x : Operand)
    (ho : o.op = .call { callee := .builtin .append, args := #[s, x], argTypes := #[23, 23] }) (sv xv v' : Value) (w' : World) (hs : a.eval s = sv) (hx : a.eval x = xv)
    (hrun : (Builtin.append_ #[23, 23] o.type #[sv, xv]).run Try.prog w = .ok v' w') (h : K (a.put o.dst v') w') :
    if Region.wanted o (yielded ops a.tmps) = true then Oper.wp Try.prog o a w K Q else E := by
  have hw : Region.wanted o (yielded ops a.tmps) = true := by simp [Region.wanted, hgd]
  rw [if_pos hw]
  unfold Oper.wp execOp
  simp only [ho, resolve, invoke, builtin, Sem.run_bind, Sem.run_pure, Result.andThen_ok, List.map_toArray, List.map_cons, List.map_nil, hs, hx, hrun]
  exact h
end Go.Proofs.Ytnkkgeammohemab


