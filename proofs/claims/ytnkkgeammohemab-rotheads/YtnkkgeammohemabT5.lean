/- The walks of net.walkable and net.round at a net. -/
import Derived.Test.YtnkkgeammohemabT3
namespace Go.Proofs.Ytnkkgeammohemab
open Go Go.RowKit

/-- What a list's cell holds, in whatever world behind. -/
theorem Ints.cellAt {w w' : World} {v : Value} {l : List Int} (h : Ints w v l) (hb : Below w.heap.size w w') (k : Nat) (hk : k < l.length) :
    ∃ b o c, v = .slice (some ⟨b, o, none⟩) l.length c ∧ w'.cell? ⟨b, o + k, none⟩ = some (.int .i64 l[k]) ∧ b < w.heap.size := by
  obtain ⟨b, o, c, hv, -, -, hlt, hc⟩ := h.at (by omega)
  exact ⟨b, o, c, hv, (hb.cell (by exact hlt)).trans (hc k hk), hlt⟩
theorem Ints.form {w : World} {v : Value} {l : List Int} (h : Ints w v l) : ∃ a c, v = .slice a l.length c ∧ l.length ≤ c ∧ c ≤ maxLen := by
  obtain ⟨a, c, hv, hc, hm, -⟩ := h
  exact ⟨a, c, hv, hc, hm⟩
end Go.Proofs.Ytnkkgeammohemab


