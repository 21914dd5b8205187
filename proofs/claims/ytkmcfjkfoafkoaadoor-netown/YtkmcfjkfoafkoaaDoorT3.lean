/- Lines that tell a net are read as that net: the turns, and the whole. -/
import Derived.Test.YtkmcfjkfoafkoaaDoorT2
namespace Go.Proofs.YtkmcfjkfoafkoaaDoor.Sp
open Go

theorem getD_set (l : List Int) (i d : Nat) (a : Int) (h : i < l.length) : (l.set i a).getD d 0 = if i = d then a else l.getD d 0 := by
  rw [List.getD_eq_getElem?_getD, List.getElem?_set, List.getD_eq_getElem?_getD]
  by_cases e : i = d
  · rw [if_pos e, if_pos e, if_pos h]; rfl
  · rw [if_neg e, if_neg e]
theorem getD_eq (l : List Int) (i : Nat) (h : i < l.length) : l.getD i 0 = l[i] := by
  rw [List.getD_eq_getElem?_getD, List.getElem?_eq_getElem h]; rfl
theorem mem_take_succ (l : List Int) (k : Nat) (h : k < l.length) (x : Int) : x ∈ l.take (k + 1) ↔ x ∈ l.take k ∨ x = l.getD k 0 := by
  rw [List.take_succ_eq_append_getElem h, List.mem_append, getD_eq l k h]; simp
theorem not_mem_take (l : List Int) (hn : l.Nodup) (k : Nat) (h : k < l.length) : l.getD k 0 ∉ l.take k := by
  intro hm
  have hs : l.take k ++ l.drop k = l := List.take_append_drop k l
  rw [← hs, List.nodup_append] at hn
  refine hn.2.2 _ hm _ ?_ rfl
  rw [List.drop_eq_getElem_cons h, getD_eq l k h]; exact List.mem_cons_self
theorem turn_to (q : Net) (v : Nat) (l nx : List Int) (hl : nx.length = q.tail.length) (hr : RoundOf q v l) (hnx : ∀ x ∈ l, nx.getD x.toNat 0 = -1) :
    ∀ k, k ≤ l.length → ∃ nx', turnTo nx l k = some nx' ∧ nx'.length = q.tail.length ∧ ∀ d : Nat, d < q.tail.length → nx'.getD d 0 = if (d : Int) ∈ l.take k then q.next.getD d 0 else nx.getD d 0 := by
  intro k
  induction k with
  | zero => intro _; exact ⟨nx, rfl, hl, fun d _ => by simp⟩
  | succ k ih =>
    intro hk
    obtain ⟨m, hm, hml, hmd⟩ := ih (by omega)
    have hmem : l.getD k 0 ∈ l := getD_mem (by omega)
    obtain ⟨h0, h1, -⟩ := hr.dart _ hmem
    have hlt : (l.getD k 0).toNat < q.tail.length := by omega
    have hcast : ((l.getD k 0).toNat : Int) = l.getD k 0 := by omega
    have hv : m.getD (l.getD k 0).toNat 0 = -1 := by
      rw [hmd _ hlt, hcast, if_neg (not_mem_take l hr.nodup k (by omega)), hnx _ hmem]
    refine ⟨m.set (l.getD k 0).toNat (l.getD ((k + 1) % l.length) 0), ?_, by simp [hml], ?_⟩
    · rw [turnTo, hm, Option.bind_some, if_pos hv]
    · intro d hd
      rw [getD_set _ _ _ _ (by omega)]
      by_cases e : (l.getD k 0).toNat = d
      · rw [if_pos e, if_pos ((mem_take_succ l k (by omega) _).2 (Or.inr (by omega))), ← e]
        exact (hr.next k (by omega)).symm
      · rw [if_neg e, hmd d hd]
        have : ((d : Int) ∈ l.take (k + 1)) ↔ ((d : Int) ∈ l.take k) := by
          rw [mem_take_succ l k (by omega)]
          constructor
          · rintro (h | h)
            · exact h
            · exact absurd (by rw [← h]; simp) e
          · exact Or.inl
        simp only [this]
/-- The next ones of the darts of the first m vertices are there. -/
def Known (q : Net) (m : Nat) (nx : List Int) : Prop := nx.length = q.tail.length ∧ ∀ d : Nat, d < q.tail.length → nx.getD d 0 = if q.tail.getD d 0 < m then q.next.getD d 0 else -1
theorem turn_known (q : Net) (hq : Lists q) (m : Nat) (l nx : List Int) (hk : Known q m nx) (hr : RoundOf q m l) :
    turnE ⟨q.n, q.tail, nx, q.cap⟩ m (wTurn, l) = 0 ∧ ∃ nx', turn ⟨q.n, q.tail, nx, q.cap⟩ (wTurn, l) = ⟨q.n, q.tail, nx', q.cap⟩ ∧ Known q (m + 1) nx' := by
  obtain ⟨hl, hd⟩ := hk
  obtain ⟨nx', h1, h2, h3⟩ := turn_to q m l nx hl hr (fun x hx => by
    obtain ⟨a, b, c⟩ := hr.dart x hx
    rw [hd _ (by omega), c, if_neg (by omega)]) l.length (Nat.le_refl _)
  refine ⟨?_, nx', ?_, h2, ?_⟩
  · unfold turnE
    have e1 : l.all (dartOf q.tail m) = true := by
      rw [List.all_eq_true]
      intro x hx
      obtain ⟨a, b, c⟩ := hr.dart x hx
      unfold dartOf
      rw [c]; simp [b]
    show (if wTurn ≠ wTurn then (1 : Int) else if l.all (dartOf q.tail m) = false then 5 else if (turnTo nx l l.length).isNone then 6 else if (l.length : Int) ≠ countOf q.tail m then 6 else 0) = 0
    rw [if_neg (by simp), if_neg (by rw [e1]; simp), h1, if_neg (by simp), if_neg (by have := hr.count; omega)]
  · show ({ n := q.n, tail := q.tail, next := (turnTo nx l l.length).getD [], cap := q.cap } : Net) = _
    rw [h1]; rfl
  · intro d hdl
    rw [h3 d hdl, List.take_length, hd d hdl]
    have hb := (hq.tb _ (getD_mem hdl)).1
    by_cases e : q.tail.getD d 0 = (m : Int)
    · rw [if_pos (hr.all d hdl e), if_pos (by omega)]
    · have : ¬ (d : Int) ∈ l := by
        intro hm
        have := (hr.dart _ hm).2.2
        simp at this
        exact e (by simpa using this)
      rw [if_neg this]
      by_cases e2 : q.tail.getD d 0 < (m : Int)
      · rw [if_pos e2, if_pos (by omega)]
      · rw [if_neg e2, if_neg (by omega)]
theorem known_all (q : Net) (hq : Lists q) (nx : List Int) (hk : Known q q.n.toNat nx) : nx = q.next := by
  obtain ⟨hl, hd⟩ := hk
  refine List.ext_getElem (by rw [hl, hq.nl]) ?_
  intro d h1 h2
  have := hd d (by omega)
  have hb := hq.tb _ (getD_mem (show d < q.tail.length by omega))
  rw [if_pos (by omega), getD_eq _ _ h1, getD_eq _ _ h2] at this
  exact this
theorem turns_read (q : Net) (hq : Lists q) (ts : List (List Int)) (hl : ts.length = q.n.toNat) (hr : ∀ v (h : v < ts.length), RoundOf q v ts[v]) :
    ∀ (m v : Nat) (nx : List Int), v + m = q.n.toNat → Known q v nx → turnsFrom (linesOf q ts) m ⟨q.n, q.tail, nx, q.cap⟩ v (2 + q.tail.length / 2 + v) = (some q, 0, 0) := by
  have hb : ∀ l ∈ ts, ∀ x ∈ l, 0 ≤ x ∧ x < 1000000000000000 := by
    intro l hm x hx
    obtain ⟨v, hv, rfl⟩ := List.getElem_of_mem hm
    have := (hr v hv).dart x hx
    have := hq.tl
    omega
  intro m
  induction m with
  | zero =>
    intro v nx hv hk
    have e : v = q.n.toNat := by omega
    subst e
    have := known_all q hq nx hk
    subst this
    rw [turnsFrom, if_neg (by rw [linesOf_len]; omega)]
  | succ m ih =>
    intro v nx hv hk
    have hlt : v < ts.length := by omega
    obtain ⟨h1, nx', h2, h3⟩ := turn_known q hq v ts[v] nx hk (hr v hlt)
    rw [turnsFrom, lineOf_turn q ts hb v hlt, if_pos h1, h2]
    exact ih (v + 1) nx' (by omega) h3
theorem lines_read (q : Net) (hq : Lists q) (ts : List (List Int)) (hl : ts.length = q.n.toNat) (hr : ∀ v (h : v < ts.length), RoundOf q v ts[v]) : parseL (linesOf q ts) = (some q, 0, 0) := by
  have hb : ∀ l ∈ ts, ∀ x ∈ l, 0 ≤ x ∧ x < 1000000000000000 := by
    intro l hm x hx
    obtain ⟨v, hv, rfl⟩ := List.getElem_of_mem hm
    have := (hr v hv).dart x hx
    have := hq.tl
    omega
  have n0 := hq.n0
  have n1 := hq.n1
  have h1 : lineOf (linesOf q ts) 1 = (wNet, [q.n]) := by
    rw [lineOf_at _ _ (by omega) (by rw [linesOf_len]; omega)]
    show lineP (headLine q) = _
    exact lineP_row _ (by decide) _ (by simp) (by intro x hx; simp at hx; subst hx; omega)
  have h2 : headE (wNet, [q.n]) = 0 := by
    unfold headE
    show (if wNet ≠ wNet ∨ ([q.n] : List Int).length ≠ 1 then (1 : Int) else if 60 < q.n then 2 else 0) = 0
    rw [if_neg (by simp), if_neg (by omega)]
  have h3 : head zero (wNet, [q.n]) = drawn q 0 := by simp [head, zero, drawn]
  have h4 := edges_read q hq ts hb (q.tail.length / 2) 0 (linesOf q ts).length (by omega) (by rw [linesOf_len]; omega)
  unfold parseL
  rw [h1, if_pos h2, h3, h4]
  have ht := hq.ev
  have e2 : 2 * (q.tail.length / 2) = q.tail.length := by omega
  have hd : drawn q (q.tail.length / 2) = ⟨q.n, q.tail, List.replicate q.tail.length (-1), q.cap⟩ := by
    unfold drawn
    rw [e2, List.take_length, ← hq.cl, List.take_length]
  rw [hd]
  refine turns_read q hq ts hl hr q.n.toNat 0 _ (by omega) ⟨by simp, ?_⟩
  intro d hdl
  have := (hq.tb _ (getD_mem hdl)).1
  rw [if_neg (by omega), List.getD_eq_getElem?_getD, List.getElem?_replicate, if_pos hdl]
  rfl
/-- A net's text, its turns told from wherever, is read as that net; the last line's end need not stand. -/
theorem text_read (q : Net) (hq : Lists q) (ts : List (List Int)) (hl : ts.length = q.n.toNat) (hr : ∀ v (h : v < ts.length), RoundOf q v ts[v]) (hs : (ended (linesOf q ts)).length ≤ 8000) :
    parse (ended (linesOf q ts)) = (some q, 0, 0) ∧ parse (ended (linesOf q ts)).dropLast = (some q, 0, 0) := by
  have hne : linesOf q ts ≠ [] := by simp [linesOf]
  have hno := linesOf_no q ts
  refine ⟨?_, ?_⟩
  · unfold parse
    rw [if_neg (by omega), trim_ended _ hne, parts_ended _ hne hno]
    exact lines_read q hq ts hl hr
  · unfold parse
    rw [if_neg (by simp; omega), trim_cut _ hne hno (linesOf_ne q ts), parts_ended _ hne hno]
    exact lines_read q hq ts hl hr
end Go.Proofs.YtkmcfjkfoafkoaaDoor.Sp
