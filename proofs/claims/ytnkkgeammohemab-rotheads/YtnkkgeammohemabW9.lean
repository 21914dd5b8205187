/- The walk of the draft's turn. -/
import Derived.BigRegion
import Derived.Test.YtnkkgeammohemabW7
namespace Go.Proofs.Ytnkkgeammohemab
open Go.RowKit

/-- All blocks but one are as they were. -/
structure ButRow (g : Nat) (w w' : World) : Prop where
  os : w'.os = w.os
  tape : w'.tape = w.tape
  output : w'.output = w.output
  size : w'.heap.size = w.heap.size
  block : ∀ k, k ≠ g → w'.heap[k]? = w.heap[k]?
theorem ButRow.refl (g : Nat) (w : World) : ButRow g w w := ⟨rfl, rfl, rfl, rfl, fun _ _ => rfl⟩
theorem ButRow.cell {g : Nat} {w w' : World} (h : ButRow g w w') {a : Addr} (ha : a.block ≠ g) : w'.cell? a = w.cell? a := World.cell?_of_block (h.block _ ha)
theorem ButRow.keep {g p base : Nat} {w w' : World} (h : ButRow g w w') (hg : base ≤ g) : Keep p base w w' := ⟨h.os, h.tape, h.output, by rw [h.size]; exact Nat.le_refl _, fun k hk _ => h.block k (by omega)⟩
theorem own_frozen {w : World} {base g n c : Nat} {l : List Int} (h : OwnI w base (.slice (some ⟨g, 0, none⟩) n c) l) (j : Nat) : w.frozen? ⟨g, j, none⟩ = false := by
  obtain ⟨_, hv | ⟨g', cap, cur, hv, hb, hg, _⟩⟩ := h
  · simp at hv
  · injection hv with hv _ _
    injection hv with hv
    injection hv with hv
    subst hv
    simp [World.frozen?, hg]
theorem own_cell {w : World} {base g n c : Nat} {l : List Int} (h : OwnI w base (.slice (some ⟨g, 0, none⟩) n c) l) (j : Nat) (hj : j < l.length) : w.cell? ⟨g, j, none⟩ = some (.int .i64 l[j]) := by
  have := h.cells (g := g) rfl j (.int .i64 l[j]) (by simp [hj])
  have e : (⟨g, 0, none⟩ : Addr).add j = ⟨g, j, none⟩ := by unfold Addr.add; split <;> simp_all
  rw [← e]; exact this
theorem own_setCell {w : World} {base g n c : Nat} {l : List Int} (h : OwnI w base (.slice (some ⟨g, 0, none⟩) n c) l) (j : Nat) (y : Int) : OwnI (w.setCell ⟨g, j, none⟩ (.int .i64 y)) base (.slice (some ⟨g, 0, none⟩) n c) (l.set j y) := by
  obtain ⟨hx, hv | ⟨g', cap, cur, hv, hb, hg, hc, hm, hs, ht⟩⟩ := h
  · simp at hv
  · have hgg : g' = g := by
      injection hv with hv _ _
      injection hv with hv
      injection hv with hv
      exact hv.symm
    subst hgg
    refine ⟨by simp, .inr ⟨g', cap, cur.setIfInBounds j (.int .i64 y), by simpa using hv, hb, heap_setCell_same w g' j _ _ _ hg, by simpa using hc, hm, by simpa using hs, ?_⟩⟩
    rw [List.length_set, Array.toList_setIfInBounds, List.take_set, ht, List.map_set]
theorem ButRow.setCell {g : Nat} {w w' : World} (h : ButRow g w w') (j : Nat) (u : Value) : ButRow g w (w'.setCell ⟨g, j, none⟩ u) :=
  ⟨h.os, h.tape, h.output, by rw [World.size_setCell]; exact h.size, fun k hk => (heap_setCell_other w' _ k _ (by exact hk)).trans (h.block k hk)⟩
theorem ButRow.drew {g : Nat} {w w' : World} (h : ButRow g w w') : ButRow g w w'.drew := ⟨h.os, h.tape, h.output, h.size, h.block⟩

end Go.Proofs.Ytnkkgeammohemab


