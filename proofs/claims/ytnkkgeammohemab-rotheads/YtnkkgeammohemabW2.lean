/- The walk of net.numbers. -/
import Derived.Test.YtnkkgeammohemabW1
namespace Go.Proofs.Ytnkkgeammohemab
open Go.RowKit
theorem info3 : (Try.prog.info? 3).map (fun i => (i.zero, i.size, i.bytes)) = some (some (.int .i64 0), 1, 8) := by kernel_rfl
/-- A slice of integers that the call has made. -/
abbrev OwnI (w : World) (base : Nat) (v : Value) (l : List Int) : Prop := w.ownsRow base 3 1 v l.length (l.map (Value.int .i64))
theorem below_dn {B : Nat} {a w : World} (h : Below B a w) (n : Nat) : Below B a (w.drewN n) := h.trans ⟨rfl, rfl, rfl, Nat.le_refl _, fun _ _ => rfl⟩
theorem own_dn {w w1 : World} {B : Nat} {v : Value} {l : List Int} (h : OwnI w B v l) (hd : ∃ n, w1 = w.drewN n) : OwnI w1 B v l := by obtain ⟨n, rfl⟩ := hd; exact h
end Go.Proofs.Ytnkkgeammohemab


