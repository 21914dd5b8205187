/- The walks of net.countOf and of the draft's head. -/
import Derived.Deep.AppendLies
import Derived.Test.YtnkkgeammohemabW5
namespace Go.Proofs.Ytnkkgeammohemab
open Go.RowKit

/-- Below base all but block p is as it was. -/
structure Keep (p base : Nat) (w w' : World) : Prop where
  os : w'.os = w.os
  tape : w'.tape = w.tape
  output : w'.output = w.output
  size : w.heap.size ≤ w'.heap.size
  block : ∀ k, k < base → k ≠ p → w'.heap[k]? = w.heap[k]?
theorem Keep.refl (p base : Nat) (w : World) : Keep p base w w := ⟨rfl, rfl, rfl, Nat.le_refl _, fun _ _ _ => rfl⟩
theorem Keep.trans {p base : Nat} {a b c : World} (h : Keep p base a b) (k : Keep p base b c) : Keep p base a c :=
  ⟨k.os.trans h.os, k.tape.trans h.tape, k.output.trans h.output, Nat.le_trans h.size k.size, fun j hj hp => (k.block j hj hp).trans (h.block j hj hp)⟩
theorem Keep.of {p base : Nat} {a b : World} (h : Below base a b) : Keep p base a b := ⟨h.os, h.tape, h.output, h.size, fun k hk _ => h.block k hk⟩
theorem Keep.below {p base : Nat} {a b : World} (h : Keep p base a b) (hp : p ≤ base) : Below p a b := ⟨h.os, h.tape, h.output, h.size, fun k hk => h.block k (by omega) (by omega)⟩
theorem Keep.alloc {p base : Nat} {a w : World} (h : Keep p base a w) (hB : base ≤ w.heap.size) (o : Obj) : Keep p base a (w.alloc o) :=
  h.trans (.of ((Below.refl base w).alloc hB o))
theorem Keep.drew {p base : Nat} {a w : World} (h : Keep p base a w) : Keep p base a w.drew := h.trans (.of (Below.refl base w).drew)
theorem Keep.setCell {p base : Nat} {a w : World} (h : Keep p base a w) {q : Addr} (hq : q.block = p ∨ base ≤ q.block) (u : Value) : Keep p base a (w.setCell q u) :=
  h.trans ⟨rfl, rfl, rfl, by simp, fun k hk hp => Below.heap_setCell w q u k (by rcases hq with hq | hq <;> omega)⟩
theorem Keep.grown {p base : Nat} {a w w' : World} {row : Option Nat} (h : Keep p base a w) (hg : w.grownBy w' row) (hB : base ≤ w.heap.size) (hr : ∀ k, row = some k → base ≤ k) : Keep p base a w' :=
  h.trans (.of ((Below.refl base w).grown hg hB hr))

theorem own_store {w : World} {p base : Nat} {v : Value} {l : List Int} (h : OwnI w base v l) (hp : p < base) (i : Nat) (u : Value) : OwnI (w.setCell ⟨p, i, none⟩ u) base v l := ownsRow_setCell_below h (a := ⟨p, i, none⟩) hp u
end Go.Proofs.Ytnkkgeammohemab


