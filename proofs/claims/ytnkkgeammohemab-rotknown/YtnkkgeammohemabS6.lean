/- The walks of the second reference's About and Face, where the way comes round. -/
import Derived.Test.YtnkkgeammohemabS5
namespace Go.Proofs.Ytnkkgeammohemab
open Go Go.RowKit

/-- What comes behind each dart about its face. -/
def Sp.behindL (nx : List Int) : List Int := (List.range nx.length).map fun d => nx.getD (Sp.oth d) 0
theorem Sp.behindL_len (nx : List Int) : (Sp.behindL nx).length = nx.length := by simp [Sp.behindL]
theorem Sp.behindL_bd (nx : List Int) (hev : nx.length % 2 = 0) (hx : ∀ x ∈ nx, 0 ≤ x ∧ x < nx.length) : ∀ x ∈ Sp.behindL nx, 0 ≤ x ∧ x < nx.length := by
  intro x hm
  obtain ⟨d, hd, rfl⟩ := List.mem_map.1 hm
  exact hx _ (Sp.getD_mem (oth_lt (List.mem_range.1 hd) hev))
end Go.Proofs.Ytnkkgeammohemab


