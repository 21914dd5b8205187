/- The texts of the law NetMany, as lists of bytes, and what is told of them. -/
import Derived.Test.YtnnhlhhncpegmaaDoorSpec
import Derived.KernelRfl
namespace Go.Proofs.YtnnhlhhncpegmaaDoor.Many
/-- The digits of a number below a thousand. -/
def dig (n : Nat) : List UInt8 :=
  if n < 10 then [UInt8.ofNat (48 + n)] else if n < 100 then [UInt8.ofNat (48 + n / 10), UInt8.ofNat (48 + n % 10)] else [UInt8.ofNat (48 + n / 10 / 10), UInt8.ofNat (48 + n / 10 % 10), UInt8.ofNat (48 + n % 10)]
theorem dig_eq (n : Nat) (h : n < 1000) : Lib.decDigits n = dig n := by
  unfold dig
  split
  · exact Lib.decDigits_one (by assumption)
  · rename_i h1
    rw [Lib.decDigits, dif_neg h1]
    split
    · rename_i h2
      rw [Lib.decDigits_one (show n / 10 < 10 by omega)]; rfl
    · rename_i h2
      rw [Lib.decDigits, dif_neg (show ¬ n / 10 < 10 by omega), Lib.decDigits_one (show n / 10 / 10 < 10 by omega)]; rfl
def S : Nat → List UInt8
  | 0 => [110, 101, 116, 32, 49, 10]
  | k + 1 => S k ++ [101, 100, 103, 101, 32, 48, 32, 48, 32, 49, 32, 49, 10]
def T : Nat → List UInt8
  | 0 => [116, 117, 114, 110]
  | k + 1 => T k ++ [32] ++ dig (2 * k) ++ [32] ++ dig (2 * k + 1)
def U (v : Nat) : Nat → List UInt8
  | 0 => [110, 101, 116, 32] ++ dig v ++ [10]
  | k + 1 => U v k ++ [116, 117, 114, 110, 10]
theorem S_len (k : Nat) : (S k).length = 6 + 13 * k := by
  induction k with
  | zero => rfl
  | succ k ih => simp [S, ih]; omega
theorem dig_len (n : Nat) : (dig n).length ≤ 3 := by
  unfold dig; split
  · simp
  · split <;> simp
theorem T_len (k : Nat) : (T k).length ≤ 4 + 8 * k := by
  induction k with
  | zero => simp [T]
  | succ k ih =>
    have := dig_len (2 * k)
    have := dig_len (2 * k + 1)
    simp only [T, List.length_append, List.length_cons, List.length_nil]; omega
theorem U_len (v k : Nat) : (U v k).length ≤ 8 + 5 * k := by
  induction k with
  | zero => have := dig_len v; simp only [U, List.length_append, List.length_cons, List.length_nil]; omega
  | succ k ih => simp only [U, List.length_append, List.length_cons, List.length_nil]; omega
theorem m121 : (Sp.parse (S 121 ++ T 121 ++ [10])).2 = (122, 2) := by kernel_rfl
theorem m122 : (Sp.parse (S 122 ++ T 122 ++ [10])).2 = (122, 2) := by kernel_rfl
theorem m123 : (Sp.parse (S 123 ++ T 123 ++ [10])).2 = (122, 2) := by kernel_rfl
theorem m124 : (Sp.parse (S 124 ++ T 124 ++ [10])).2 = (122, 2) := by kernel_rfl
theorem u55 : Sp.parse (U 55 55) = (some ⟨55, [], [], []⟩, 0, 0) := by kernel_rfl
theorem u56 : Sp.parse (U 56 56) = (some ⟨56, [], [], []⟩, 0, 0) := by kernel_rfl
theorem u57 : Sp.parse (U 57 57) = (some ⟨57, [], [], []⟩, 0, 0) := by kernel_rfl
theorem u58 : Sp.parse (U 58 58) = (some ⟨58, [], [], []⟩, 0, 0) := by kernel_rfl
theorem u59 : Sp.parse (U 59 59) = (some ⟨59, [], [], []⟩, 0, 0) := by kernel_rfl
theorem u60 : Sp.parse (U 60 60) = (some ⟨60, [], [], []⟩, 0, 0) := by kernel_rfl
theorem u61 : Sp.parse (U 61 61) = (none, 1, 2) := by kernel_rfl
theorem u62 : Sp.parse (U 62 62) = (none, 1, 2) := by kernel_rfl
theorem u63 : Sp.parse (U 63 63) = (none, 1, 2) := by kernel_rfl
theorem u64 : Sp.parse (U 64 64) = (none, 1, 2) := by kernel_rfl
end Go.Proofs.YtnnhlhhncpegmaaDoor.Many
