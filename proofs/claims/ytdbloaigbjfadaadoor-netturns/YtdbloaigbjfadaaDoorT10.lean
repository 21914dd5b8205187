/- A net's text whose turns begin with any dart. -/
import Derived.Test.YtdbloaigbjfadaaDoorE4
namespace Go.Proofs.YtdbloaigbjfadaaDoor.Sp
open Go

def tlist (l : List Int) : List UInt8 := l.flatMap fun x => 32 :: Lib.itoa x
theorem tlist_row (l : List Int) (h : l ≠ []) : tlist l = 32 :: rowText l := by
  induction l with
  | nil => exact absurd rfl h
  | cons x r ih =>
    by_cases hr : r = []
    · subst hr; simp [tlist, rowText]
    · have := ih hr
      rw [rowText, if_neg hr]
      show (32 :: Lib.itoa x) ++ tlist r = _
      rw [this]; simp
theorem turnLine_eq (l : List Int) : turnLine l = wTurn ++ tlist l := by
  unfold turnLine
  split
  · rename_i h; rw [h]; simp [tlist]
  · rename_i h; rw [tlist_row l h]
theorem tlist_snoc (l : List Int) (k : Nat) (h : k < l.length) : tlist (l.take (k + 1)) = tlist (l.take k) ++ 32 :: Lib.itoa l[k] := by
  rw [List.take_succ_eq_append_getElem h]
  unfold tlist
  rw [List.flatMap_append, List.flatMap_cons, List.flatMap_nil, List.append_nil]
theorem ended_append (a b : List (List UInt8)) : ended (a ++ b) = ended a ++ ended b := by simp [ended]
theorem ended_one (a : List UInt8) : ended [a] = a ++ [10] := by simp [ended]
/-- Where a turn begins. -/
def rotK (bs : List Int) (q : Net) (v : Nat) : Nat := if v < bs.length ∧ 0 < (turnOf q v).length then (bs.getD v 0 % ((turnOf q v).length : Int)).toNat else 0
abbrev rotL (l : List Int) (k : Nat) : List Int := l.drop k ++ l.take k
def tsOf (bs : List Int) (q : Net) (v : Nat) : List Int := rotL (turnOf q v) (rotK bs q v)
theorem rotL_len (l : List Int) (k : Nat) : (rotL l k).length = l.length := by simp [rotL]; omega
theorem rotL_get (l : List Int) (k : Nat) (hk : k < l.length) (i : Nat) (hi : i < l.length) (h1 : i < (rotL l k).length) (h2 : (i + k) % l.length < l.length) : (rotL l k)[i] = l[(i + k) % l.length] := by
  by_cases hc : i < l.length - k
  · rw [List.getElem_append_left (by simpa using hc), List.getElem_drop]
    congr 1
    rw [Nat.mod_eq_of_lt (by omega)]; omega
  · rw [List.getElem_append_right (by simpa using (by omega : l.length - k ≤ i)), List.getElem_take]
    congr 1
    rw [Nat.mod_eq_sub_mod (by omega), Nat.mod_eq_of_lt (by omega), List.length_drop]; omega
theorem rotK_lt (bs : List Int) (q : Net) (v : Nat) (h : 0 < (turnOf q v).length) : rotK bs q v < (turnOf q v).length := by
  unfold rotK
  split
  · have := Int.emod_nonneg (bs.getD v 0) (show ((turnOf q v).length : Int) ≠ 0 by omega)
    have := Int.emod_lt_of_pos (bs.getD v 0) (show (0 : Int) < ((turnOf q v).length : Int) by omega)
    omega
  · exact h
theorem ts_round (bs : List Int) (q : Net) (h : Whole q) (v : Nat) (hv : (v : Int) < q.n) : RoundOf q v (tsOf bs q v) := by
  obtain ⟨l, hl⟩ := h.round v hv
  have hr := turnOf_round q v l hl
  by_cases h0 : 0 < (turnOf q v).length
  · exact rotate_round q v _ hr _ (rotK_lt bs q v h0)
  · have : turnOf q v = [] := List.length_eq_zero_iff.1 (by omega)
    unfold tsOf
    rw [this] at hr ⊢
    show RoundOf q v ([].drop _ ++ [].take _)
    simpa using hr
/-- The lines up to so many edges, up to so many turns. -/
def preE (q : Net) (e : Nat) : List UInt8 := ended (headLine q :: (List.range e).map (edgeLine q))
def preT (bs : List Int) (q : Net) (v : Nat) : List UInt8 := ended (headLine q :: ((List.range (q.tail.length / 2)).map (edgeLine q) ++ ((List.range v).map (tsOf bs q)).map turnLine))
theorem preE_succ (q : Net) (e : Nat) : preE q (e + 1) = preE q e ++ (edgeLine q e ++ [10]) := by
  unfold preE
  rw [List.range_succ, List.map_append, ← List.cons_append, ended_append]
  simp [ended]
theorem preT_zero (bs : List Int) (q : Net) : preT bs q 0 = preE q (q.tail.length / 2) := by simp [preT, preE]
theorem preT_succ (bs : List Int) (q : Net) (v : Nat) : preT bs q (v + 1) = preT bs q v ++ (turnLine (tsOf bs q v) ++ [10]) := by
  unfold preT
  rw [List.range_succ, List.map_append, List.map_append, ← List.append_assoc, ← List.cons_append, ended_append]
  simp [ended]
theorem turns_read' (bs : List Int) (q : Net) (h : Whole q) (hn : q.n ≤ 8) (ht : q.tail.length ≤ 40) : parse (preT bs q q.n.toNat) = (some q, 0, 0) := by
  have n0 := h.lists.n0
  have hr : ∀ v (hv : v < ((List.range q.n.toNat).map (tsOf bs q)).length), RoundOf q v ((List.range q.n.toNat).map (tsOf bs q))[v] := fun v hv => by
    simp only [List.getElem_map, List.getElem_range]
    simp at hv
    exact ts_round bs q h v (by omega)
  refine (text_read q h.lists _ (by simp) hr ?_).1
  have hK : ∀ p ∈ linesOf q ((List.range q.n.toNat).map (tsOf bs q)), p.length ≤ 130 := by
    intro p hp
    unfold linesOf at hp
    rcases List.mem_cons.1 hp with rfl | hp
    · have := rowText_len [q.n] (by intro x hx; simp at hx; subst hx; omega)
      simp [headLine, wNet] at this ⊢
      omega
    · rcases List.mem_append.1 hp with hp | hp
      · obtain ⟨e, he, rfl⟩ := List.mem_map.1 hp
        have := rowText_len (edgeRow q e) (by intro x hx; have := edgeRow_bd q h.lists e (List.mem_range.1 he) x hx; omega)
        have h4 : (edgeRow q e).length = 4 := rfl
        simp [edgeLine, wEdge]
        omega
      · obtain ⟨l, hl, rfl⟩ := List.mem_map.1 hp
        obtain ⟨v, hv, rfl⟩ := List.mem_map.1 hl
        have hv' := List.mem_range.1 hv
        have hro := ts_round bs q h v (by omega)
        have b3 : (tsOf bs q v).length ≤ 40 := by
          have := hro.count
          have := (countOf_bd q.tail v).2
          omega
        have := rowText_short (tsOf bs q v) (by intro x hx; have := hro.dart x hx; omega)
        unfold turnLine
        split
        · decide
        · simp [wTurn]
          omega
  have := ended_len 130 _ hK
  rw [linesOf_len] at this
  have hl : ((List.range q.n.toNat).map (tsOf bs q)).length = q.n.toNat := by simp
  rw [hl] at this
  omega
end Go.Proofs.YtdbloaigbjfadaaDoor.Sp
