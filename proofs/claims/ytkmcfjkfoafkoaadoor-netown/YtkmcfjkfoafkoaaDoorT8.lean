/- A vertex's round may be told from any of its darts. -/
import Derived.Test.YtkmcfjkfoafkoaaDoorT7
namespace Go.Proofs.YtkmcfjkfoafkoaaDoor.Sp
open Go

theorem round_nth (q : Net) (v : Nat) (l : List Int) (h : RoundOf q v l) (j : Nat) (hj : j < l.length) (i : Nat) : nth q.next (l.getD j 0) i = l.getD ((j + i) % l.length) 0 := by
  induction i with
  | zero => rw [Nat.add_zero, Nat.mod_eq_of_lt hj]; rfl
  | succ i ih =>
    have hm : (j + i) % l.length < l.length := Nat.mod_lt _ (by omega)
    have := h.next _ hm
    show q.next.getD (nth q.next (l.getD j 0) i).toNat 0 = _
    rw [ih, this]
    congr 1
    rw [Nat.mod_add_mod]
    rfl
/-- The round from its j-th dart on. -/
theorem rounds_rotate (q : Net) (v : Nat) (l : List Int) (h : RoundOf q v l) (j : Nat) (hj : j < l.length) : rounds q.next (l.getD j 0) l.length = l.drop j ++ l.take j := by
  refine List.ext_getElem (by simp [rounds]; omega) ?_
  intro i h1 h2
  have hi : i < l.length := by simpa [rounds] using h1
  have e : (rounds q.next (l.getD j 0) l.length)[i] = nth q.next (l.getD j 0) i := by simp [rounds]
  rw [e, round_nth q v l h j hj i]
  by_cases hc : i < l.length - j
  · rw [List.getElem_append_left (by simpa using hc), Nat.mod_eq_of_lt (by omega), getD_eq _ _ (by omega)]
    simp
  · rw [List.getElem_append_right (by simpa using (by omega : l.length - j ≤ i))]
    have hm : (j + i) % l.length = j + i - l.length := by
      rw [Nat.mod_eq_sub_mod (by omega), Nat.mod_eq_of_lt (by omega)]
    rw [hm, getD_eq _ _ (by omega)]
    simp only [List.length_drop, List.getElem_take]
    congr 1
    omega
theorem rotate_round (q : Net) (v : Nat) (l : List Int) (h : RoundOf q v l) (j : Nat) (hj : j < l.length) : RoundOf q v (l.drop j ++ l.take j) := by
  have hp : (l.drop j ++ l.take j).Perm l := by
    have := List.perm_append_comm (l₁ := l.drop j) (l₂ := l.take j)
    rw [List.take_append_drop] at this
    exact this
  have hl : (l.drop j ++ l.take j).length = l.length := hp.length_eq
  refine ⟨hp.symm.nodup h.nodup, fun x hx => h.dart x (hp.mem_iff.1 hx), ?_, by rw [hl]; exact h.count, fun d hd ht => hp.mem_iff.2 (h.all d hd ht)⟩
  intro i hi
  rw [hl] at hi ⊢
  have e := rounds_rotate q v l h j hj
  have g : ∀ i, i < l.length → (l.drop j ++ l.take j).getD i 0 = l.getD ((j + i) % l.length) 0 := by
    intro i hi
    rw [← e, getD_eq _ _ (by rw [rounds_len]; exact hi)]
    have : (rounds q.next (l.getD j 0) l.length)[i]'(by rw [rounds_len]; exact hi) = nth q.next (l.getD j 0) i := by simp [rounds]
    rw [this, round_nth q v l h j hj i]
  have hm : (i + 1) % l.length < l.length := Nat.mod_lt _ (by omega)
  have hm2 : (j + i) % l.length < l.length := Nat.mod_lt _ (by omega)
  rw [g i hi, g _ hm, h.next _ hm2]
  congr 1
  rw [Nat.mod_add_mod, Nat.add_mod_mod]
  rfl
/-- What Text tells of a vertex is a round of it. -/
theorem turnOf_round (q : Net) (v : Nat) (l : List Int) (h : RoundOf q v l) : RoundOf q v (turnOf q v) := by
  by_cases h0 : l = []
  · have : turnOf q v = [] := turnOf_none q v fun i hi e => by
      have := h.all i hi e
      rw [h0] at this
      cases this
    rw [this]
    rw [h0] at h
    exact h
  · have hl : 0 < l.length := List.length_pos_iff.2 h0
    unfold turnOf first
    cases hf : (List.range q.tail.length).find? fun d => decide (q.tail.getD d 0 = (v : Int)) with
    | none =>
      exfalso
      have h1 := List.find?_eq_none.1 hf
      obtain ⟨a, b, c⟩ := h.dart (l.getD 0 0) (getD_mem hl)
      have := h1 (l.getD 0 0).toNat (List.mem_range.2 (by omega))
      simp only [decide_eq_true_eq] at this
      exact this c
    | some d =>
      have hd := List.find?_some hf
      have hd2 := List.mem_range.1 (List.mem_of_find?_eq_some hf)
      simp only [decide_eq_true_eq] at hd
      obtain ⟨j, hj, hje⟩ := List.getElem_of_mem (h.all d hd2 hd)
      have hg : l.getD j 0 = (d : Int) := by rw [getD_eq _ _ hj, hje]
      have hc : (countOf q.tail v).toNat = l.length := by have := h.count; omega
      show RoundOf q v (rounds q.next d (countOf q.tail v).toNat)
      rw [hc, ← hg, rounds_rotate q v l h j hj]
      exact rotate_round q v l h j hj
/-- A net (W1). -/
structure Whole (q : Net) : Prop where
  lists : Lists q
  next : ∀ x ∈ q.next, 0 ≤ x ∧ x < q.tail.length
  round : ∀ v : Nat, (v : Int) < q.n → ∃ l, RoundOf q v l
theorem text_back (q : Net) (h : Whole q) (hs : (textOf q).length ≤ 8000) : parse (textOf q) = (some q, 0, 0) ∧ parse (textOf q).dropLast = (some q, 0, 0) := by
  unfold textOf at hs ⊢
  refine text_read q h.lists _ (by simp) (fun v hv => ?_) hs
  simp only [List.getElem_map, List.getElem_range]
  have n0 := h.lists.n0
  simp at hv
  obtain ⟨l, hl⟩ := h.round v (by omega)
  exact turnOf_round q v l hl
/-- Two nets have the same text just where they are the same. -/
theorem text_apart (p q : Net) (hp : Whole p) (hq : Whole q) (hsp : (textOf p).length ≤ 8000) (hsq : (textOf q).length ≤ 8000) : textOf p = textOf q ↔ p = q := by
  constructor
  · intro e
    have h1 := (text_back p hp hsp).1
    have h2 := (text_back q hq hsq).1
    rw [e, h2] at h1
    injection h1 with h1 _
    injection h1 with h1
    exact h1.symm
  · intro e; rw [e]
end Go.Proofs.YtkmcfjkfoafkoaaDoor.Sp
