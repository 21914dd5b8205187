/- What is told of the texts of the law NetMany: by the kernel. -/
import Derived.Test.YtnnhlhhncpegmaaDoorM1
namespace Go.Proofs.YtnnhlhhncpegmaaDoor.Many
theorem m115 : (Sp.parse (S 115 ++ T 115 ++ [10])).2 = (0, 0) := by kernel_rfl
theorem m116 : (Sp.parse (S 116 ++ T 116 ++ [10])).2 = (0, 0) := by kernel_rfl
theorem m117 : (Sp.parse (S 117 ++ T 117 ++ [10])).2 = (0, 0) := by kernel_rfl
theorem m118 : (Sp.parse (S 118 ++ T 118 ++ [10])).2 = (0, 0) := by kernel_rfl
theorem m119 : (Sp.parse (S 119 ++ T 119 ++ [10])).2 = (0, 0) := by kernel_rfl
theorem m120 : (Sp.parse (S 120 ++ T 120 ++ [10])).2 = (0, 0) := by kernel_rfl
theorem edges (k : Nat) (h0 : 115 ≤ k) (h1 : k < 125) : (Sp.parse (S k ++ T k ++ [10])).2 = if k ≤ 120 then (0, 0) else (122, 2) := by
  have h : k = 115 ∨ k = 116 ∨ k = 117 ∨ k = 118 ∨ k = 119 ∨ k = 120 ∨ k = 121 ∨ k = 122 ∨ k = 123 ∨ k = 124 := by omega
  rcases h with rfl | rfl | rfl | rfl | rfl | rfl | rfl | rfl | rfl | rfl
  · exact m115
  · exact m116
  · exact m117
  · exact m118
  · exact m119
  · exact m120
  · exact m121
  · exact m122
  · exact m123
  · exact m124
theorem vertices (v : Nat) (h0 : 55 ≤ v) (h1 : v < 65) : Sp.parse (U v v) = if v ≤ 60 then (some ⟨v, [], [], []⟩, 0, 0) else (none, 1, 2) := by
  have h : v = 55 ∨ v = 56 ∨ v = 57 ∨ v = 58 ∨ v = 59 ∨ v = 60 ∨ v = 61 ∨ v = 62 ∨ v = 63 ∨ v = 64 := by omega
  rcases h with rfl | rfl | rfl | rfl | rfl | rfl | rfl | rfl | rfl | rfl
  · exact u55
  · exact u56
  · exact u57
  · exact u58
  · exact u59
  · exact u60
  · exact u61
  · exact u62
  · exact u63
  · exact u64
end Go.Proofs.YtnnhlhhncpegmaaDoor.Many
