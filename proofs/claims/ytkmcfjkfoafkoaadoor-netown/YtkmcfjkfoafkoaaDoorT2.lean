/- Lines that tell a net are read as that net. -/
import Derived.Test.YtkmcfjkfoafkoaaDoorT1
namespace Go.Proofs.YtkmcfjkfoafkoaaDoor.Sp
open Go

theorem index_none (z : UInt8) (w : List UInt8) (h : ∀ c ∈ w, c ≠ z) : Lib.index w [z] = -1 := by
  induction w with
  | nil => simp [Lib.index]
  | cons b r ih => rw [index1, if_neg (h b (by simp)), ih fun c hc => h c (by simp [hc])]; rfl
theorem index_at (z : UInt8) (w r : List UInt8) (h : ∀ c ∈ w, c ≠ z) : Lib.index (w ++ z :: r) [z] = w.length := by
  induction w with
  | nil => rw [List.nil_append, index1, if_pos rfl]; rfl
  | cons b t ih =>
    rw [List.cons_append, index1, if_neg (h b (by simp)), ih fun c hc => h c (by simp [hc]), if_neg (by omega)]
    simp
theorem cut_at (z : UInt8) (w r : List UInt8) (h : ∀ c ∈ w, c ≠ z) : Lib.cut (w ++ z :: r) [z] = (w, r, true) := by
  unfold Lib.cut
  rw [index_at z w r h, if_pos (by omega)]
  simp
theorem cut_none (z : UInt8) (w : List UInt8) (h : ∀ c ∈ w, c ≠ z) : Lib.cut w [z] = (w, [], false) := by
  unfold Lib.cut
  rw [index_none z w h, if_neg (by omega)]
theorem numbers_rowText (l : List Int) (h : ∀ x ∈ l, -1000000000000000 < x ∧ x < 1000000000000000) : numbers (rowText l) = some l := by
  have hr := row_rowText l h
  unfold row at hr
  cases hn : numbers (rowText l) with
  | none => rw [hn] at hr; cases hr
  | some m =>
    rw [hn, Option.bind_some] at hr
    split at hr
    · cases hr
    · exact hr
theorem lineP_row (w : List UInt8) (hw : ∀ c ∈ w, c ≠ 32) (l : List Int) (hne : l ≠ []) (h : ∀ x ∈ l, 0 ≤ x ∧ x < 1000000000000000) : lineP (w ++ 32 :: rowText l) = (w, l) := by
  unfold lineP
  rw [cut_at 32 w _ hw]
  simp only
  rw [numbers_rowText l fun x hx => ⟨by have := h x hx; omega, (h x hx).2⟩]
  simp only
  rw [if_neg (by rintro ⟨-, e⟩; exact hne e), if_neg]
  intro ha
  obtain ⟨x, hx, h2⟩ := List.any_eq_true.1 ha
  have := h x hx
  simp at h2
  omega
theorem lineP_word (w : List UInt8) (hw : ∀ c ∈ w, c ≠ 32) : lineP w = (w, []) := by
  unfold lineP
  rw [cut_none 32 w hw]
  simp [numbers]
theorem lineP_turn (l : List Int) (h : ∀ x ∈ l, 0 ≤ x ∧ x < 1000000000000000) : lineP (turnLine l) = (wTurn, l) := by
  unfold turnLine
  split
  · rename_i e; subst e; exact lineP_word _ (by decide)
  · rename_i e; exact lineP_row _ (by decide) l e h
theorem lineOf_at (ls : List (List UInt8)) (k : Nat) (_h1 : 1 ≤ k) (h : k ≤ ls.length) : lineOf ls k = lineP (ls.getD (k - 1) []) := by
  unfold lineOf; rw [if_neg (by omega)]
theorem getD_mem {l : List Int} {k : Nat} (h : k < l.length) : l.getD k 0 ∈ l := by
  rw [List.getD_eq_getElem?_getD, List.getElem?_eq_getElem h]; exact List.getElem_mem h

/- ---- edges ---- -/
/-- The net of which e edges are read. -/
def drawn (q : Net) (e : Nat) : Net := ⟨q.n, q.tail.take (2 * e), List.replicate (2 * e) (-1), q.cap.take (2 * e)⟩
theorem take_two (l : List Int) (e : Nat) (h : 2 * e + 1 < l.length) : l.take (2 * (e + 1)) = l.take (2 * e) ++ [l.getD (2 * e) 0, l.getD (2 * e + 1) 0] := by
  have e1 : 2 * (e + 1) = 2 * e + 1 + 1 := by omega
  rw [e1, List.take_succ_eq_append_getElem (by omega), List.take_succ_eq_append_getElem (by omega), List.append_assoc]
  congr 1
  simp [List.getD_eq_getElem?_getD, List.getElem?_eq_getElem h, List.getElem?_eq_getElem (show 2 * e < l.length by omega)]
theorem edge_drawn (q : Net) (hq : Lists q) (e : Nat) (h : e < q.tail.length / 2) : edge (drawn q e) (wEdge, edgeRow q e) = drawn q (e + 1) ∧ edgeE (drawn q e) (wEdge, edgeRow q e) = 0 := by
  have ht : 2 * e + 1 < q.tail.length := by omega
  have hc := hq.cl
  have hl := hq.tl
  refine ⟨?_, ?_⟩
  · unfold edge drawn edgeRow
    simp only [Net.mk.injEq, true_and]
    refine ⟨(take_two _ e ht).symm, ?_, (take_two _ e (by omega)).symm⟩
    have : 2 * (e + 1) = 2 * e + 2 := by omega
    rw [this, ← List.replicate_append_replicate]
    rfl
  · have a := hq.tb _ (getD_mem (l := q.tail) (k := 2 * e) (by omega))
    have b := hq.tb _ (getD_mem (l := q.tail) (k := 2 * e + 1) (by omega))
    have c := hq.cb _ (getD_mem (l := q.cap) (k := 2 * e) (by omega))
    have d := hq.cb _ (getD_mem (l := q.cap) (k := 2 * e + 1) (by omega))
    unfold edgeE
    show (if ([_, _, _, _] : List Int).length ≠ 4 then (1 : Int) else if (q.tail.take (2 * e)).length = 240 then 2 else if q.n ≤ q.tail.getD (2 * e) 0 ∨ q.n ≤ q.tail.getD (2 * e + 1) 0 then 3 else if 2147483648 < q.cap.getD (2 * e) 0 ∨ 2147483648 < q.cap.getD (2 * e + 1) 0 then 4 else 0) = 0
    rw [if_neg (by simp), if_neg (by simp; omega), if_neg (by omega), if_neg (by omega)]
theorem edgeRow_bd (q : Net) (hq : Lists q) (e : Nat) (h : e < q.tail.length / 2) : ∀ x ∈ edgeRow q e, 0 ≤ x ∧ x < 1000000000000000 := by
  have hc := hq.cl
  have hn := hq.n1
  have a := hq.tb _ (getD_mem (l := q.tail) (k := 2 * e) (by omega))
  have b := hq.tb _ (getD_mem (l := q.tail) (k := 2 * e + 1) (by omega))
  have c := hq.cb _ (getD_mem (l := q.cap) (k := 2 * e) (by omega))
  have d := hq.cb _ (getD_mem (l := q.cap) (k := 2 * e + 1) (by omega))
  intro x hx
  simp only [edgeRow, List.mem_cons, List.not_mem_nil, or_false] at hx
  rcases hx with rfl | rfl | rfl | rfl <;> omega
theorem linesOf_len (q : Net) (ts : List (List Int)) : (linesOf q ts).length = 1 + q.tail.length / 2 + ts.length := by
  simp [linesOf]; omega
theorem lineOf_edge (q : Net) (hq : Lists q) (ts : List (List Int)) (e : Nat) (h : e < q.tail.length / 2) : lineOf (linesOf q ts) (2 + e) = (wEdge, edgeRow q e) := by
  rw [lineOf_at _ _ (by omega) (by rw [linesOf_len]; omega)]
  have : (linesOf q ts).getD (2 + e - 1) [] = edgeLine q e := by
    have e1 : 2 + e - 1 = e + 1 := by omega
    rw [e1, linesOf, List.getD_cons_succ, List.getD_eq_getElem?_getD, List.getElem?_append_left (by simpa using h)]
    simp [h]
  rw [this]
  exact lineP_row _ (by decide) _ (by simp [edgeRow]) (edgeRow_bd q hq e h)
theorem lineOf_turn (q : Net) (ts : List (List Int)) (hb : ∀ l ∈ ts, ∀ x ∈ l, 0 ≤ x ∧ x < 1000000000000000) (v : Nat) (h : v < ts.length) : lineOf (linesOf q ts) (2 + q.tail.length / 2 + v) = (wTurn, ts[v]) := by
  rw [lineOf_at _ _ (by omega) (by rw [linesOf_len]; omega)]
  have : (linesOf q ts).getD (2 + q.tail.length / 2 + v - 1) [] = turnLine ts[v] := by
    have e1 : 2 + q.tail.length / 2 + v - 1 = (q.tail.length / 2 + v) + 1 := by omega
    rw [e1, linesOf, List.getD_cons_succ, List.getD_eq_getElem?_getD, List.getElem?_append_right (by simp)]
    simp [h]
  rw [this]
  exact lineP_turn _ (hb _ (List.getElem_mem h))
theorem edges_read (q : Net) (hq : Lists q) (ts : List (List Int)) (hb : ∀ l ∈ ts, ∀ x ∈ l, 0 ≤ x ∧ x < 1000000000000000) :
    ∀ (m e f : Nat), e + m = q.tail.length / 2 → m < f → edgesFrom (linesOf q ts) f (drawn q e) (2 + e) = turnsFrom (linesOf q ts) q.n.toNat (drawn q (q.tail.length / 2)) 0 (2 + q.tail.length / 2) := by
  intro m
  induction m with
  | zero =>
    intro e f he hf
    have : e = q.tail.length / 2 := by omega
    subst this
    obtain ⟨f, rfl⟩ : ∃ g, f = g + 1 := ⟨f - 1, by omega⟩
    rw [edgesFrom, if_neg]
    · rfl
    · by_cases ht : 0 < ts.length
      · have := lineOf_turn q ts hb 0 ht
        rw [Nat.add_zero] at this
        rw [this]; show wTurn ≠ wEdge; decide
      · unfold lineOf
        rw [if_pos (by rw [linesOf_len]; omega)]
        show ([] : List UInt8) ≠ wEdge; decide
  | succ m ih =>
    intro e f he hf
    obtain ⟨f, rfl⟩ : ∃ g, f = g + 1 := ⟨f - 1, by omega⟩
    have hl := lineOf_edge q hq ts e (by omega)
    obtain ⟨h1, h2⟩ := edge_drawn q hq e (by omega)
    rw [edgesFrom, hl, if_pos rfl, if_pos h2, h1, Nat.add_assoc]
    exact ih (e + 1) f (by omega) (by omega)
end Go.Proofs.YtkmcfjkfoafkoaaDoor.Sp
