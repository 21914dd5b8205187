/- The walk of package rot: rounds. -/
import Derived.Deep.LoopGhost
import Derived.Test.YtnkkgeammohemabS6
namespace Go.Proofs.Ytnkkgeammohemab
open Go Go.RowKit

/-- One round, from d on: what was met, and the round's darts behind it, where it comes back to its least. -/
def Sp.walkR (st : List Int) (least : Int) : Nat → Int → List Int → Option (List Int)
  | 0, _, _ => none
  | f + 1, d, row => if d ∈ row then (if d = least then some row else none) else Sp.walkR st least f (st.getD d.toNat 0) (row ++ [d])
/-- All rounds, as the row of their darts and the ends of each. -/
def Sp.rgo (st : List Int) : Nat → Nat → List Int → List (Nat × Nat) → Option (List Int × List (Nat × Nat))
  | 0, _, row, ps => some (row, ps)
  | f + 1, k, row, ps => if (k : Int) ∈ row then Sp.rgo st f (k + 1) row ps else
      match Sp.walkR st k (st.length + 1 - row.length) k row with
      | some row' => Sp.rgo st f (k + 1) row' (ps ++ [(row.length, row'.length)])
      | none => none
def Sp.rnds (st : List Int) : Option (List Int × List (Nat × Nat)) := Sp.rgo st st.length 0 [] []
def Sp.metL (n : Nat) (row : List Int) : List Bool := (List.range n).map fun (d : Nat) => decide ((d : Int) ∈ row)
theorem Sp.metL_len (n : Nat) (row : List Int) : (Sp.metL n row).length = n := by simp [Sp.metL]
theorem Sp.metL_get (n : Nat) (row : List Int) (d : Nat) (h : d < (Sp.metL n row).length) : (Sp.metL n row)[d] = decide ((d : Int) ∈ row) := by simp [Sp.metL]
theorem Sp.metL_set (n : Nat) (row : List Int) (d : Nat) : (Sp.metL n row).set d true = Sp.metL n (row ++ [(d : Int)]) := by
  apply List.ext_getElem
  · simp [Sp.metL]
  · intro i h1 h2
    rw [List.getElem_set, Sp.metL_get n (row ++ [(d : Int)]) i h2]
    split
    · rename_i h; subst h; simp
    · rename_i h
      rw [Sp.metL_get]
      have : ¬ ((i : Int) = (d : Int)) := by omega
      simp [this]
theorem Sp.metL_nil (n : Nat) : Sp.metL n [] = List.replicate n false := by
  apply List.ext_getElem
  · simp [Sp.metL]
  · intro i h1 h2; simp [Sp.metL]
/-- A row of numbers below n, each once, is no longer than n. -/
theorem nodup_le : ∀ (n : Nat) (l : List Int), l.Nodup → (∀ x ∈ l, 0 ≤ x ∧ x < (n : Int)) → l.length ≤ n
  | 0, l, _, h => by
    cases l with
    | nil => simp
    | cons x r => have := h x (by simp); omega
  | n + 1, l, hd, h => by
    have h1 : (l.erase (n : Int)).length ≤ n := nodup_le n _ (hd.erase _) fun x hx => by
      have h2 := (List.Nodup.mem_erase_iff hd).1 hx
      have h3 := h x h2.2
      have h4 := h2.1
      omega
    have h2 := List.length_erase (a := (n : Int)) (l := l)
    split at h2 <;> omega

theorem infoL : (Try.prog.info? 23).map (fun i => (i.zero, i.size, i.bytes)) = some (some (.slice none 0 0), 1, 24) := by kernel_rfl
theorem infoB : (Try.prog.info? 4).map (fun i => (i.zero, i.size, i.bytes)) = some (some (.bool false), 1, 1) := by kernel_rfl
abbrev OwnB (w : World) (base : Nat) (v : Value) (l : List Bool) : Prop := w.ownsRow base 4 1 v l.length (l.map Value.bool)
def pieceV (g : Nat) (p : Nat × Nat) : Value := .slice (some ⟨g, p.1, none⟩) (p.2 - p.1) (p.2 - p.1)
theorem owns_base {w : World} {base base' : Nat} {e : TypeId} {size : Nat} {v : Value} {n : Nat} {xs : List Value} (h : w.ownsRow base e size v n xs) (hb : base' ≤ base) : w.ownsRow base' e size v n xs := by
  obtain ⟨h1, h2 | ⟨g, cap, cur, e, hg, r⟩⟩ := h
  · exact ⟨h1, .inl h2⟩
  · exact ⟨h1, .inr ⟨g, cap, cur, e, Nat.le_trans hb hg, r⟩⟩
/-- What rounds leaves. -/
def RoundsPost (st : List Int) (w : World) (e : Ending) (w' : World) : Prop :=
  Below w.heap.size w w' ∧ (∀ row ps, Sp.rnds st = some (row, ps) → ∃ lv, e = .returned (.tuple #[lv, .bool true]) ∧ OwnI w' w.heap.size (.slice (some ⟨w.heap.size, 0, none⟩) row.length st.length) row ∧ w'.ownsRow w.heap.size 23 1 lv ps.length (ps.map (pieceV w.heap.size)))
    ∧ (Sp.rnds st = none → e = .returned (.tuple #[.slice none 0 0, .bool false]))
/-- The three rows that rounds keeps. -/
structure RKeep (B M n : Nat) (W wr : World) (row : List Int) (ps : List (Nat × Nat)) (lq : Value) : Prop where
  rw1 : OwnI wr B (.slice (some ⟨B, 0, none⟩) row.length n) row
  met : OwnB wr B (.slice (some ⟨M, 0, none⟩) n n) (Sp.metL n row)
  ls : wr.ownsRow (M + 1) 23 1 lq ps.length (ps.map (pieceV B))
  bel : Below B W wr
  big : M < wr.heap.size
  lt : B < M
structure RFit (n : Nat) (row : List Int) : Prop where
  nd : row.Nodup
  bd : ∀ x ∈ row, 0 ≤ x ∧ x < (n : Int)
theorem RFit.le {n : Nat} {row : List Int} (h : RFit n row) : row.length ≤ n := nodup_le n row h.nd h.bd
theorem RFit.snoc {n : Nat} {row : List Int} (h : RFit n row) (d : Nat) (hd : d < n) (hn : ¬ (d : Int) ∈ row) : RFit n (row ++ [(d : Int)]) := by
  refine ⟨?_, ?_⟩
  · rw [List.nodup_append]
    refine ⟨h.nd, by simp, ?_⟩
    intro a ha b hb
    rw [List.mem_singleton] at hb
    subst hb
    intro e; subst e; exact hn ha
  · intro x hx
    rcases List.mem_append.1 hx with hx | hx
    · exact h.bd x hx
    · rw [List.mem_singleton] at hx; subst hx; omega
theorem RKeep.metCell {B M n : Nat} {W wr : World} {row : List Int} {ps : List (Nat × Nat)} {lq : Value} (h : RKeep B M n W wr row ps lq) (d : Nat) (hd : d < n) : wr.cell? ⟨M, d, none⟩ = some (.bool (decide ((d : Int) ∈ row))) := by
  have h1 := h.met
  unfold OwnB at h1
  rw [Sp.metL_len] at h1
  rw [World.ownsRow.cellAt h1 d (by omega)]
  rw [List.getElem?_eq_getElem (by simp [Sp.metL_len]; exact hd)]
  simp [Sp.metL]
theorem RKeep.metOpen {B M n : Nat} {W wr : World} {row : List Int} {ps : List (Nat × Nat)} {lq : Value} (h : RKeep B M n W wr row ps lq) (d : Nat) : wr.frozen? ⟨M, d, none⟩ = false := by
  have h1 := h.met
  unfold OwnB at h1
  rw [Sp.metL_len] at h1
  exact World.ownsRow.frozenAt h1 d
theorem made_bools' (n : Nat) : (madeCells #[Value.bool false] n).toList = (List.replicate n false).map Value.bool := by
  rw [toList_madeCells_one]
  simp
/-- A dart met: its mark is set, then it is laid behind the row. -/
theorem RKeep.push {B M n : Nat} {W wr : World} {row : List Int} {ps : List (Nat × Nat)} {lq : Value} (h : RKeep B M n W wr row ps lq) (d : Nat) (ob : Obj) (w6 : World) (hgr : ((wr.setCell ⟨M, d, none⟩ (.bool true)).alloc ob).grownBy w6 (some B))
    (hrow : w6.ownsRow B 3 1 (.slice (some ⟨B, 0, none⟩) (row.length + 1) n) (row.length + 1) (row.map (Value.int .i64) ++ [.int .i64 (d : Int)])) : RKeep B M n W w6 (row ++ [(d : Int)]) ps lq := by
  have hlt := h.lt
  have hbig := h.big
  have hm := h.met
  unfold OwnB at hm
  rw [Sp.metL_len] at hm
  obtain ⟨hm2, hg2⟩ := World.ownsRow.stored hm d (.bool true)
  have hls : (wr.setCell ⟨M, d, none⟩ (.bool true)).ownsRow (M + 1) 23 1 lq ps.length (ps.map (pieceV B)) := h.ls.kept hg2 (by
    cases hq : lq.ownBlock with
    | none => exact .inl rfl
    | some q => exact .inr (by have := (h.ls.lt q hq).1; simp; omega))
  have hsz : (wr.setCell ⟨M, d, none⟩ (.bool true)).heap.size = wr.heap.size := by simp
  refine ⟨?_, ?_, ?_, ?_, ?_, hlt⟩
  · show w6.ownsRow B 3 1 (.slice (some ⟨B, 0, none⟩) (row ++ [(d : Int)]).length n) (row ++ [(d : Int)]).length ((row ++ [(d : Int)]).map (Value.int .i64))
    simpa using hrow
  · have h3 := (hm2.alloc ob).kept hgr (.inr (by simp [Value.ownBlock]; omega))
    show w6.ownsRow B 4 1 _ (Sp.metL n (row ++ [(d : Int)])).length ((Sp.metL n (row ++ [(d : Int)])).map Value.bool)
    rw [Sp.metL_len, ← Sp.metL_set, List.map_set]
    exact h3
  · refine (hls.alloc ob).kept hgr ?_
    cases hq : lq.ownBlock with
    | none => exact .inl rfl
    | some q => exact .inr (by have := (h.ls.lt q hq).1; simp; omega)
  · exact ((h.bel.grown hg2 (by omega) (by simp; omega)).alloc (by rw [hsz]; omega) ob).grown hgr (by simp; omega) (by simp)
  · have := hgr.size
    simp at this
    omega
/-- A round laid behind the others. -/
theorem RKeep.round {B M n : Nat} {W wr : World} {row : List Int} {ps : List (Nat × Nat)} {lq lv : Value} (h : RKeep B M n W wr row ps lq) (b : Nat) (ob : Obj) (w6 : World) (hgr : (wr.alloc ob).grownBy w6 lq.ownBlock)
    (hls : w6.ownsRow (M + 1) 23 1 lv (ps.length + 1) (ps.map (pieceV B) ++ [pieceV B (b, row.length)])) : RKeep B M n W w6 row (ps ++ [(b, row.length)]) lv := by
  have hlt := h.lt
  have hbig := h.big
  have hfar : ∀ x, x ≤ M → some x ≠ lq.ownBlock := fun x hx e => by
    have := (h.ls.lt x e.symm).1
    omega
  refine ⟨?_, ?_, ?_, ?_, ?_, hlt⟩
  · exact (World.ownsRow.alloc h.rw1 ob).kept hgr (.inr (hfar B (by omega)))
  · exact (World.ownsRow.alloc h.met ob).kept hgr (.inr (hfar M (by omega)))
  · simpa using hls
  · exact (h.bel.alloc (by omega) ob).grown hgr (by simp; omega) fun k hk => by have := (h.ls.lt k hk).1; omega
  · have := hgr.size
    simp at this
    omega
end Go.Proofs.Ytnkkgeammohemab


