/- The walk of the reference's Round where nothing is wrong. -/
import Derived.Test.YtnkkgeammohemabE2
namespace Go.Proofs.Ytnkkgeammohemab
open Go Go.RowKit

/-- Cells of a row of ints, in every world behind. -/
theorem Ints.all {w : World} {v : Value} {l : List Int} (h : Ints w v l) : ∃ (a : Option Addr) (c : Nat), v = .slice a l.length c ∧ l.length ≤ c ∧ c ≤ maxLen ∧ Hid (∀ k, (hk : k < l.length) → ∃ b o, a = some ⟨b, o, none⟩ ∧ b < w.heap.size ∧ ∀ w', Below w.heap.size w w' → w'.cell? ⟨b, o + k, none⟩ = some (.int .i64 l[k])) := by
  obtain ⟨a, c, e, h1, h2, h3⟩ := h
  refine ⟨a, c, e, h1, h2, hide fun k hk => ?_⟩
  obtain ⟨b, o, ha, hb, hc⟩ := h3 k hk
  exact ⟨b, o, ha, hb, fun w' hw => (hw.cell (by exact hb)).trans hc⟩
/-- The first k of a row. -/
theorem Ints.take {w : World} {a : Option Addr} {n c : Nat} {l : List Int} (h : Ints w (.slice a n c) l) (k : Nat) (hk : k ≤ l.length) : Ints w (.slice a k c) (l.take k) := by
  obtain ⟨a', c', e, h1, h2, h3⟩ := h
  injection e with e1 e2 e3
  subst e1 e2 e3
  have hl : (l.take k).length = k := by rw [List.length_take]; omega
  refine ⟨a, c, by rw [hl], by omega, h2, fun j hj => ?_⟩
  obtain ⟨b, o, ha, hb, hc⟩ := h3 j (by omega)
  exact ⟨b, o, ha, hb, by rw [hc, List.getElem_take]⟩
theorem BoxAt.other {w wx : World} {n : Int} {tv nv cv : Value} (h : BoxAt w wx n tv nv cv) (g j : Nat) (hg : w.heap.size + 1 < g) (u : Value) : BoxAt w (wx.setCell ⟨g, j, none⟩ u) n tv nv cv :=
  ⟨by rw [heap_setCell_other _ _ _ _ (by show w.heap.size ≠ g; omega)]; exact h.b1, by rw [heap_setCell_other _ _ _ _ (by show w.heap.size + 1 ≠ g; omega)]; exact h.b2, h.bel.setCell (by show w.heap.size ≤ g; omega) u⟩
theorem BoxAt.drew {w wx : World} {n : Int} {tv nv cv : Value} (h : BoxAt w wx n tv nv cv) : BoxAt w wx.drew n tv nv cv := h.below (Below.refl _ _).drew
end Go.Proofs.Ytnkkgeammohemab


