/- The walk of the draft's edge. -/
import Derived.Deep.QuietTactic
import Derived.Test.YtnkkgeammohemabW6
namespace Go.Proofs.Ytnkkgeammohemab
open Go.RowKit

theorem obj_cells {w : World} {p : Nat} {a b c d : Value} {t : TypeId} (h : w.heap[p]? = some (.cells #[a, b, c, d] t (0, 0))) :
    w.cell? ⟨p, 0, none⟩ = some a ∧ w.cell? ⟨p, 1, none⟩ = some b ∧ w.cell? ⟨p, 2, none⟩ = some c ∧ w.cell? ⟨p, 3, none⟩ = some d ∧
      w.frozen? ⟨p, 0, none⟩ = false ∧ w.frozen? ⟨p, 1, none⟩ = false ∧ w.frozen? ⟨p, 2, none⟩ = false ∧ w.frozen? ⟨p, 3, none⟩ = false := by
  simp [World.cell?, World.frozen?, h]
theorem Ints.at {w : World} {v : Value} {l : List Int} (h : Ints w v l) (hl : 0 < l.length) :
    ∃ b o c, v = .slice (some ⟨b, o, none⟩) l.length c ∧ l.length ≤ c ∧ c ≤ maxLen ∧ b < w.heap.size ∧ ∀ k, (hk : k < l.length) → w.cell? ⟨b, o + k, none⟩ = some (.int .i64 l[k]) := by
  obtain ⟨a, c, rfl, hc, hm, hcell⟩ := h
  obtain ⟨b, o, rfl, hb, _⟩ := hcell 0 hl
  refine ⟨b, o, c, rfl, hc, hm, hb, fun k hk => ?_⟩
  obtain ⟨b', o', e, _, h'⟩ := hcell k hk
  injection e with e
  injection e with e1 e2
  subst e1 e2
  exact h'
theorem Keep.drewN {p base : Nat} {a w : World} (h : Keep p base a w) (n : Nat) : Keep p base a (w.drewN n) := h.trans (.of (below_dn (Below.refl base w) n))
/-- The four numbers of an edge's line. -/
theorem four {N : List Int} (h : N.length = 4) : ∃ a b c d, N = [a, b, c, d] := by
  match N, h with
  | [a, b, c, d], _ => exact ⟨a, b, c, d, rfl⟩
end Go.Proofs.Ytnkkgeammohemab


