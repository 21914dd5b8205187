/- What the proof needs, part 1. -/
import Derived.Lib.Strings
import Derived.Lib.Index
import Derived.Lib.CutLaws
import Derived.Lib.ItoaLen
import Derived.Lib.Split
import Derived.Lib.SplitLaws
import Derived.Lib.CountLaws
import Derived.Test.YtfcknfodejnhnaaProg
import Derived.WalkKit
import Derived.WalkSpells
import Derived.WalkLawsBesides
import Derived.BigQuiet
import Derived.Deep.DeepFit
import Derived.Outline
import Derived.Deep.AppendLies
import Derived.Deep.QuietTactic
import Derived.BigRegion
import Derived.Below
import Derived.Deep.RegionHeld3
import Derived.Deep.DeepCutAuto
import Derived.WalkMore
/- What the program's functions of package net compute, as plain functions on lists of bytes and of integers. Nothing of the translation is named here. -/
namespace Go.Proofs.Ytfcknfodejnhnaa.Sp

/-- Is a byte a digit? -/
def isDig (c : UInt8) : Bool := decide (48 ≤ (c.toNat : Int)) && decide ((c.toNat : Int) ≤ 57)
/-- One digit more, held at 10^15. -/
def step (x : Int) (c : UInt8) : Int := min (10 * x + ((c.toNat : Int) - 48)) 1000000000000000
def readTo (l : List UInt8) : Int := l.foldl step 0
/-- A word that is a number (its amount held at 10^15). -/
def number (s : List UInt8) : Option Int :=
  if (Lib.trimPrefix s [45]) = [] then none
  else if (Lib.trimPrefix s [45]).head? = some 48 ∧ s ≠ [48] then none
  else if (Lib.trimPrefix s [45]).all isDig then some (if Lib.hasPrefix s [45] then - readTo (Lib.trimPrefix s [45]) else readTo (Lib.trimPrefix s [45]))
  else none

/-- A text parted by a byte. -/
def partsBy (z : UInt8) : List UInt8 → List (List UInt8)
  | [] => [[]]
  | c :: r => if c = z then [] :: partsBy z r else match partsBy z r with
    | [] => [[c]]
    | p :: q => (c :: p) :: q
def parts (l : List UInt8) : List (List UInt8) := partsBy 32 l
def nums : List (List UInt8) → Option (List Int)
  | [] => some []
  | p :: r => (number p).bind fun x => (nums r).map (x :: ·)
/-- Numbers, one blank between; of no bytes none. -/
def numbers (s : List UInt8) : Option (List Int) := if s = [] then some [] else nums (parts s)

def great (x : Int) : Bool := x == 1000000000000000 || x == -1000000000000000
/-- net.Row. -/
def row (s : List UInt8) : Option (List Int) := (numbers s).bind fun l => if l.any great then none else some l
/-- A net: how many vertices; where each dart begins; the next one about; what it holds. -/
structure Net where
  n : Int
  tail : List Int
  next : List Int
  cap : List Int
def zero : Net := ⟨0, [], [], []⟩
abbrev Line := List UInt8 × List Int
def head (q : Net) (l : Line) : Net := { q with n := l.2.getD 0 0 }
end Go.Proofs.Ytfcknfodejnhnaa.Sp


/- Small words that the walks share. -/
namespace Go.Proofs.Ytfcknfodejnhnaa
open Go.RowKit

theorem hide {p : Prop} (h : p) : Hid p := h
theorem unhide {p : Prop} (h : Hid p) : p := h
end Go.Proofs.Ytfcknfodejnhnaa


/- The walk of net.numbers. -/
namespace Go.Proofs.Ytfcknfodejnhnaa
open Go.RowKit
theorem below_dn {B : Nat} {a w : World} (h : Below B a w) (n : Nat) : Below B a (w.drewN n) := h.trans ⟨rfl, rfl, rfl, Nat.le_refl _, fun _ _ => rfl⟩
end Go.Proofs.Ytfcknfodejnhnaa


/- The walk of net.Row; slices of integers that are read. -/
namespace Go.Proofs.Ytfcknfodejnhnaa
open Go.RowKit

/-- A slice of integers, wherever it lies. -/
def Ints (w : World) (v : Value) (l : List Int) : Prop :=
  ∃ (a : Option Addr) (c : Nat), v = .slice a l.length c ∧ l.length ≤ c ∧ c ≤ maxLen ∧ ∀ k, (h : k < l.length) → ∃ b o, a = some ⟨b, o, none⟩ ∧ b < w.heap.size ∧ w.cell? ⟨b, o + k, none⟩ = some (.int .i64 l[k])
theorem Ints.below {w w' : World} {v : Value} {l : List Int} (h : Ints w v l) (hb : Below w.heap.size w w') : Ints w' v l := by
  obtain ⟨a, c, hv, hc, hm, hk⟩ := h
  refine ⟨a, c, hv, hc, hm, fun k h => ?_⟩
  obtain ⟨b, o, ha, hlt, hcell⟩ := hk k h
  exact ⟨b, o, ha, Nat.lt_of_lt_of_le hlt hb.size, (hb.cell (by exact hlt)).trans hcell⟩
end Go.Proofs.Ytfcknfodejnhnaa


/- The walk of net.lineAt. -/
namespace Go.Proofs.Ytfcknfodejnhnaa
open Go.RowKit

/-- A slice of texts, wherever it lies. -/
def Strs (w : World) (v : Value) (l : List ByteArray) : Prop :=
  ∃ (a : Option Addr) (c : Nat), v = .slice a l.length c ∧ l.length ≤ c ∧ c ≤ maxLen ∧ ∀ k, (h : k < l.length) → ∃ b o, a = some ⟨b, o, none⟩ ∧ b < w.heap.size ∧ w.cell? ⟨b, o + k, none⟩ = some (.string l[k])
theorem Strs.below {w w' : World} {v : Value} {l : List ByteArray} (h : Strs w v l) (hb : Below w.heap.size w w') : Strs w' v l := by
  obtain ⟨a, c, hv, hc, hm, hk⟩ := h
  refine ⟨a, c, hv, hc, hm, fun k h => ?_⟩
  obtain ⟨b, o, ha, hlt, hcell⟩ := hk k h
  exact ⟨b, o, ha, Nat.lt_of_lt_of_le hlt hb.size, (hb.cell (by exact hlt)).trans hcell⟩
end Go.Proofs.Ytfcknfodejnhnaa


/- The walks of net.countOf and of the draft's head. -/
namespace Go.Proofs.Ytfcknfodejnhnaa
open Go.RowKit

/-- Below base all but block p is as it was. -/
structure Keep (p base : Nat) (w w' : World) : Prop where
  os : w'.os = w.os
  tape : w'.tape = w.tape
  output : w'.output = w.output
  size : w.heap.size ≤ w'.heap.size
  block : ∀ k, k < base → k ≠ p → w'.heap[k]? = w.heap[k]?
theorem Keep.refl (p base : Nat) (w : World) : Keep p base w w := ⟨rfl, rfl, rfl, Nat.le_refl _, fun _ _ _ => rfl⟩
theorem Keep.trans {p base : Nat} {a b c : World} (h : Keep p base a b) (k : Keep p base b c) : Keep p base a c :=
  ⟨k.os.trans h.os, k.tape.trans h.tape, k.output.trans h.output, Nat.le_trans h.size k.size, fun j hj hp => (k.block j hj hp).trans (h.block j hj hp)⟩
theorem Keep.of {p base : Nat} {a b : World} (h : Below base a b) : Keep p base a b := ⟨h.os, h.tape, h.output, h.size, fun k hk _ => h.block k hk⟩
theorem Keep.below {p base : Nat} {a b : World} (h : Keep p base a b) (hp : p ≤ base) : Below p a b := ⟨h.os, h.tape, h.output, h.size, fun k hk => h.block k (by omega) (by omega)⟩
theorem Keep.alloc {p base : Nat} {a w : World} (h : Keep p base a w) (hB : base ≤ w.heap.size) (o : Obj) : Keep p base a (w.alloc o) :=
  h.trans (.of ((Below.refl base w).alloc hB o))
theorem Keep.drew {p base : Nat} {a w : World} (h : Keep p base a w) : Keep p base a w.drew := h.trans (.of (Below.refl base w).drew)
theorem Keep.setCell {p base : Nat} {a w : World} (h : Keep p base a w) {q : Addr} (hq : q.block = p ∨ base ≤ q.block) (u : Value) : Keep p base a (w.setCell q u) :=
  h.trans ⟨rfl, rfl, rfl, by simp, fun k hk hp => Below.heap_setCell w q u k (by rcases hq with hq | hq <;> omega)⟩
end Go.Proofs.Ytfcknfodejnhnaa


/- The walk of the draft's edge. -/
namespace Go.Proofs.Ytfcknfodejnhnaa
open Go.RowKit

theorem Ints.at {w : World} {v : Value} {l : List Int} (h : Ints w v l) (hl : 0 < l.length) :
    ∃ b o c, v = .slice (some ⟨b, o, none⟩) l.length c ∧ l.length ≤ c ∧ c ≤ maxLen ∧ b < w.heap.size ∧ ∀ k, (hk : k < l.length) → w.cell? ⟨b, o + k, none⟩ = some (.int .i64 l[k]) := by
  obtain ⟨a, c, rfl, hc, hm, hcell⟩ := h
  obtain ⟨b, o, rfl, hb, _⟩ := hcell 0 hl
  refine ⟨b, o, c, rfl, hc, hm, hb, fun k hk => ?_⟩
  obtain ⟨b', o', e, _, h'⟩ := hcell k hk
  injection e with e
  injection e with e1 e2
  subst e1 e2
  exact h'
theorem Keep.drewN {p base : Nat} {a w : World} (h : Keep p base a w) (n : Nat) : Keep p base a (w.drewN n) := h.trans (.of (below_dn (Below.refl base w) n))
end Go.Proofs.Ytfcknfodejnhnaa


/- The walk of the draft's turn. -/
namespace Go.Proofs.Ytfcknfodejnhnaa
open Go.RowKit

/-- All blocks but one are as they were. -/
structure ButRow (g : Nat) (w w' : World) : Prop where
  os : w'.os = w.os
  tape : w'.tape = w.tape
  output : w'.output = w.output
  size : w'.heap.size = w.heap.size
  block : ∀ k, k ≠ g → w'.heap[k]? = w.heap[k]?
theorem ButRow.refl (g : Nat) (w : World) : ButRow g w w := ⟨rfl, rfl, rfl, rfl, fun _ _ => rfl⟩
theorem ButRow.cell {g : Nat} {w w' : World} (h : ButRow g w w') {a : Addr} (ha : a.block ≠ g) : w'.cell? a = w.cell? a := World.cell?_of_block (h.block _ ha)
theorem ButRow.keep {g p base : Nat} {w w' : World} (h : ButRow g w w') (hg : base ≤ g) : Keep p base w w' := ⟨h.os, h.tape, h.output, by rw [h.size]; exact Nat.le_refl _, fun k hk _ => h.block k (by omega)⟩
theorem ButRow.setCell {g : Nat} {w w' : World} (h : ButRow g w w') (j : Nat) (u : Value) : ButRow g w (w'.setCell ⟨g, j, none⟩ u) :=
  ⟨h.os, h.tape, h.output, by rw [World.size_setCell]; exact h.size, fun k hk => (heap_setCell_other w' _ k _ (by exact hk)).trans (h.block k hk)⟩
theorem ButRow.drew {g : Nat} {w w' : World} (h : ButRow g w w') : ButRow g w w'.drew := ⟨h.os, h.tape, h.output, h.size, h.block⟩

end Go.Proofs.Ytfcknfodejnhnaa


/- The walks of the reference's has, Same and of the law's Cap. -/
namespace Go.Proofs.Ytfcknfodejnhnaa
open Go Go.RowKit

/-- A net's value, its lists wherever they lie. -/
structure NetI (w : World) (v : Value) (q : Sp.Net) (tv nv cv : Value) : Prop where
  val : v = .agg #[.int .i64 q.n, tv, nv, cv]
  tail : Ints w tv q.tail
  next : Ints w nv q.next
  cap : Ints w cv q.cap
theorem NetI.below {w w' : World} {v : Value} {q : Sp.Net} {tv nv cv : Value} (h : NetI w v q tv nv cv) (hb : Below w.heap.size w w') : NetI w' v q tv nv cv :=
  ⟨h.val, h.tail.below hb, h.next.below hb, h.cap.below hb⟩
end Go.Proofs.Ytfcknfodejnhnaa


/- The walks of net.walkable and net.round at a net. -/
namespace Go.Proofs.Ytfcknfodejnhnaa
open Go Go.RowKit

/-- What a list's cell holds, in whatever world behind. -/
theorem Ints.cellAt {w w' : World} {v : Value} {l : List Int} (h : Ints w v l) (hb : Below w.heap.size w w') (k : Nat) (hk : k < l.length) :
    ∃ b o c, v = .slice (some ⟨b, o, none⟩) l.length c ∧ w'.cell? ⟨b, o + k, none⟩ = some (.int .i64 l[k]) ∧ b < w.heap.size := by
  obtain ⟨b, o, c, hv, -, -, hlt, hc⟩ := h.at (by omega)
  exact ⟨b, o, c, hv, (hb.cell (by exact hlt)).trans (hc k hk), hlt⟩
theorem Ints.form {w : World} {v : Value} {l : List Int} (h : Ints w v l) : ∃ a c, v = .slice a l.length c ∧ l.length ≤ c ∧ c ≤ maxLen := by
  obtain ⟨a, c, hv, hc, hm, -⟩ := h
  exact ⟨a, c, hv, hc, hm⟩
end Go.Proofs.Ytfcknfodejnhnaa


/- A heap's block: 901 numbers; what a store into it leaves. -/
namespace Go.Proofs.Ytfcknfodejnhnaa
open Go Go.RowKit

/-- One number of a row turned. -/
def Sp.upd (z : Nat → Int) (j : Nat) (v : Int) : Nat → Int := fun k => if k = j then v else z k
theorem Sp.upd_same (z : Nat → Int) (j : Nat) (v : Int) : Sp.upd z j v j = v := by simp [Sp.upd]
theorem Sp.upd_other (z : Nat → Int) {j k : Nat} (v : Int) (h : k ≠ j) : Sp.upd z j v k = z k := by simp [Sp.upd, h]

/-- Block b holds a heap's numbers. -/
def HpAt (w : World) (b : Nat) (z : Nat → Int) : Prop := ∃ c, w.heap[b]? = some (.cells c 49) ∧ c.size = 901 ∧ ∀ j, j < 901 → c[j]? = some (.int .i64 (z j))
theorem HpAt.lt {w : World} {b : Nat} {z : Nat → Int} (h : HpAt w b z) : b < w.heap.size := by
  obtain ⟨c, hc, -⟩ := h
  exact (Array.getElem?_eq_some_iff.1 hc).1
theorem HpAt.cell {w : World} {b : Nat} {z : Nat → Int} (h : HpAt w b z) {j : Nat} (hj : j < 901) : w.cell? ⟨b, j, none⟩ = some (.int .i64 (z j)) := by
  obtain ⟨c, hc, -, hz⟩ := h
  simp only [World.cell?, hc]
  exact hz j hj
theorem HpAt.frozen {w : World} {b : Nat} {z : Nat → Int} (h : HpAt w b z) (j : Nat) (s : Option Nat) : w.frozen? ⟨b, j, s⟩ = false := by
  obtain ⟨c, hc, -⟩ := h
  simp only [World.frozen?, hc]
  simp
theorem HpAt.of_block {w w' : World} {b : Nat} {z : Nat → Int} (h : HpAt w b z) (e : w'.heap[b]? = w.heap[b]?) : HpAt w' b z := by
  obtain ⟨c, hc, h1⟩ := h
  exact ⟨c, by rw [e]; exact hc, h1⟩
theorem HpAt.set {w : World} {b : Nat} {z : Nat → Int} (h : HpAt w b z) (j : Nat) (v : Int) : HpAt (w.setCell ⟨b, j, none⟩ (.int .i64 v)) b (Sp.upd z j v) := by
  obtain ⟨c, hc, hs, hz⟩ := h
  refine ⟨c.setIfInBounds j (.int .i64 v), ?_, by simpa using hs, fun k hk => ?_⟩
  · simp only [World.setCell, Array.getElem?_modify, if_pos, hc]
    rfl
  · rw [Array.getElem?_setIfInBounds]
    by_cases hjk : j = k
    · rw [if_pos hjk, if_pos (by omega), ← hjk, Sp.upd_same]
    · rw [if_neg hjk, hz k hk, Sp.upd_other _ _ (by omega)]
/-- All but block b is as it was. -/
structure But (b : Nat) (w w' : World) : Prop where
  os : w'.os = w.os
  tape : w'.tape = w.tape
  output : w'.output = w.output
  size : w.heap.size ≤ w'.heap.size
  block : ∀ k, k < w.heap.size → k ≠ b → w'.heap[k]? = w.heap[k]?
theorem But.refl (b : Nat) (w : World) : But b w w := ⟨rfl, rfl, rfl, Nat.le_refl _, fun _ _ _ => rfl⟩
theorem But.trans {b : Nat} {u v w : World} (h : But b u v) (k : But b v w) : But b u w :=
  ⟨k.os.trans h.os, k.tape.trans h.tape, k.output.trans h.output, Nat.le_trans h.size k.size, fun i hi hb => (k.block i (Nat.lt_of_lt_of_le hi h.size) hb).trans (h.block i hi hb)⟩
theorem But.of {b : Nat} {w w' : World} (h : Below w.heap.size w w') : But b w w' := ⟨h.os, h.tape, h.output, h.size, fun k hk _ => h.block k hk⟩
theorem But.below {b B : Nat} {w w' : World} (h : But b w w') (hB : B ≤ b) (hw : B ≤ w.heap.size) : Below B w w' := ⟨h.os, h.tape, h.output, h.size, fun k hk => h.block k (by omega) (by omega)⟩
theorem But.drew {b : Nat} {u w : World} (h : But b u w) : But b u w.drew := h.trans ⟨rfl, rfl, rfl, Nat.le_refl _, fun _ _ _ => rfl⟩
theorem But.alloc {b : Nat} {u w : World} (h : But b u w) (o : Obj) : But b u (w.alloc o) := h.trans (But.of ((Below.refl _ w).alloc (Nat.le_refl _) o))
theorem But.set {b : Nat} {u w : World} (h : But b u w) (j : Nat) (s : Option Nat) (v : Value) : But b u (w.setCell ⟨b, j, s⟩ v) :=
  h.trans ⟨rfl, rfl, rfl, by simp [World.setCell], fun k _ hb => Below.heap_setCell _ _ _ _ hb⟩
theorem But.cell {b : Nat} {w w' : World} (h : But b w w') {p : Addr} (hp : p.block < w.heap.size) (hb : p.block ≠ b) : w'.cell? p = w.cell? p := World.cell?_of_block (w := w) (h.block p.block hp hb)
theorem HpAt.below {w w' : World} {b : Nat} {z : Nat → Int} (h : HpAt w b z) (hb : Below w.heap.size w w') : HpAt w' b z := h.of_block (hb.block b h.lt)
theorem HpAt.alloc {w : World} {b : Nat} {z : Nat → Int} (h : HpAt w b z) (o : Obj) : HpAt (w.alloc o) b z := h.below ((Below.refl _ w).alloc (Nat.le_refl _) o)
theorem HpAt.drew {w : World} {b : Nat} {z : Nat → Int} (h : HpAt w b z) : HpAt w.drew b z := h.of_block rfl
/-- An item in a block of its own. -/
theorem item_new (w : World) (k r : Value) : (w.alloc (.cells #[k, r] 32)).cell? ⟨w.heap.size, 0, none⟩ = some k ∧ (w.alloc (.cells #[k, r] 32)).cell? ⟨w.heap.size, 1, none⟩ = some r := by
  have e : (w.alloc (.cells #[k, r] 32)).heap[w.heap.size]? = some (.cells #[k, r] 32) := by
    show (w.heap.push _)[w.heap.size]? = _
    simp
  constructor <;> simp only [World.cell?, e] <;> rfl

set_option maxRecDepth 100000 in
set_option maxHeartbeats 1000000 in
theorem isKey_any (k : Int) (w : World) : Calls Try.prog 26 #[.int .i64 k] w fun e w' => e = .returned (.bool (decide (0 ≤ k ∧ k < 300))) ∧ w' = w := by
  by_cases h0 : 0 ≤ k
  · by_cases h1 : k < 300
    · have HR := hide (decide_eq_true (And.intro h0 h1))
      generalize decide (0 ≤ k ∧ k < 300) = R at *
      go_enter Try.func26, Try.ntmps26
      go_wp2
      go_ret
      exact ⟨by rw [unhide HR]; rfl, rfl⟩
    · have HR := hide (show decide (0 ≤ k ∧ k < 300) = false from decide_eq_false (by omega))
      generalize decide (0 ≤ k ∧ k < 300) = R at *
      go_enter Try.func26, Try.ntmps26
      go_wp2
      go_ret
      exact ⟨by rw [unhide HR]; rfl, rfl⟩
  · have HR := hide (show decide (0 ≤ k ∧ k < 300) = false from decide_eq_false (by omega))
    generalize decide (0 ≤ k ∧ k < 300) = R at *
    go_enter Try.func26, Try.ntmps26
    go_wp2
    go_ret
    exact ⟨by rw [unhide HR]; rfl, rfl⟩

/-- Whether one item is to be taken before another one: keys, ranks. -/
def Sp.aheadB (k r k' r' : Int) : Bool := decide (r < r') || (decide (r = r') && decide (k < k'))
set_option maxRecDepth 100000 in
set_option maxHeartbeats 1000000 in
theorem ahead_any (k r k' r' : Int) (w : World) : Calls Try.prog 34 #[.agg #[.int .i64 k, .int .i64 r], .agg #[.int .i64 k', .int .i64 r']] w fun e w' => e = .returned (.bool (Sp.aheadB k r k' r')) ∧ Below w.heap.size w w' := by
  have HB : Hid (∀ o o', Below w.heap.size w ((w.alloc o).alloc o')) := hide fun o o' => ((Below.refl _ w).alloc (Nat.le_refl _) o).alloc (by simp) o'
  by_cases h0 : r < r'
  · have HR : Hid (Sp.aheadB k r k' r' = true) := hide (by simp [Sp.aheadB, h0])
    generalize Sp.aheadB k r k' r' = R at *
    go_enter Try.func34, Try.ntmps34
    go_wp2
    go_ret
    exact ⟨by rw [unhide HR]; rfl, unhide HB _ _⟩
  · by_cases h1 : r = r'
    · subst h1
      by_cases h2 : k < k'
      · have HR : Hid (Sp.aheadB k r k' r = true) := hide (by simp [Sp.aheadB, h2])
        generalize Sp.aheadB k r k' r = R at *
        go_enter Try.func34, Try.ntmps34
        go_wp2
        go_ret
        exact ⟨by rw [unhide HR]; rfl, unhide HB _ _⟩
      · have HR : Hid (Sp.aheadB k r k' r = false) := hide (by simp [Sp.aheadB, h2])
        generalize Sp.aheadB k r k' r = R at *
        go_enter Try.func34, Try.ntmps34
        go_wp2
        go_ret
        exact ⟨by rw [unhide HR]; rfl, unhide HB _ _⟩
    · have HR : Hid (Sp.aheadB k r k' r' = false) := hide (by simp [Sp.aheadB, h0, h1])
      generalize Sp.aheadB k r k' r' = R at *
      go_enter Try.func34, Try.ntmps34
      go_wp2
      go_ret
      exact ⟨by rw [unhide HR]; rfl, unhide HB _ _⟩
end Go.Proofs.Ytfcknfodejnhnaa


/- Package heap: find, stand. -/
namespace Go.Proofs.Ytfcknfodejnhnaa
open Go Go.RowKit

theorem cell_set_ne {w : World} {b j b' j' : Nat} {v : Value} (h : b ≠ b' ∨ j ≠ j') : (w.setCell ⟨b, j, none⟩ v).cell? ⟨b', j', none⟩ = w.cell? ⟨b', j', none⟩ := by
  apply World.cell?_setCell_other
  intro e
  injection e with e1 e2
  omega
/-- An item laid at a place. -/
def Sp.stand (z : Nat → Int) (p k : Nat) (r : Int) : Nat → Int := Sp.upd (Sp.upd (Sp.upd z (p * 2) (k : Int)) (p * 2 + 1) r) (601 + k) ((p : Int) + 1)

set_option maxRecDepth 100000 in
set_option maxHeartbeats 1000000 in
theorem stand_any (z : Nat → Int) (b p k : Nat) (r : Int) (w : World) (h : HpAt w b z) (hp : p < 300) (hk : k < 300) :
    Calls Try.prog 33 #[.pointer (some ⟨b, 0, none⟩), .int .i64 (p : Int), .agg #[.int .i64 (k : Int), .int .i64 r]] w fun e w' => e = .returned (.tuple #[]) ∧ But b w w' ∧ HpAt w' b (Sp.stand z p k r) := by
  have hpI : (p : Int) < 300 := by omega
  have hkI : (k : Int) < 300 := by omega
  have hb := h.lt
  obtain ⟨x0, x1⟩ := item_new w (.int .i64 (k : Int)) (.int .i64 r)
  have h1 := h.alloc (.cells #[.int .i64 (k : Int), .int .i64 r] 32)
  have c0 := h1.cell (j := p * 2) (by omega)
  have c1 := h1.cell (j := p * 2 + 1) (by omega)
  have f := fun j => h1.frozen j none
  have c1' := fun v : Value => show ((w.alloc (.cells #[.int .i64 (k : Int), .int .i64 r] 32)).setCell ⟨b, p * 2, none⟩ v).cell? ⟨b, p * 2 + 1, none⟩ = some (.int .i64 (z (p * 2 + 1))) by rw [cell_set_ne (by omega)]; exact c1
  have H := hide h1
  clear h h1
  go_enter Try.func33, Try.ntmps33
  go_wp2_with fail
  generalize hW : w.alloc (.cells #[.int .i64 (k : Int), .int .i64 r] 32) = W1 at *
  have HW := hide hW
  clear hW
  go_region
  go_wp2_with fail
  obtain ⟨W2, hW2⟩ : ∃ W2, W2 = ((W1.setCell ⟨b, p * 2, none⟩ (.int .i64 (k : Int))).setCell ⟨b, p * 2 + 1, none⟩ (.int .i64 r)).drew := ⟨_, rfl⟩
  have h2 : HpAt W2 b (Sp.upd (Sp.upd z (p * 2) (k : Int)) (p * 2 + 1) r) := by rw [hW2]; exact (((unhide H).set _ _).set _ _).drew
  have HB2 : Hid (But b w W2) := hide (by rw [hW2, ← unhide HW]; exact ((((But.refl b w).alloc _).set _ _ _).set _ _ _).drew)
  have y0 : W2.cell? ⟨w.heap.size, 0, none⟩ = some (.int .i64 (k : Int)) := by
    rw [hW2]; show World.cell? (World.setCell _ _ _) _ = _; rw [cell_set_ne (by omega), cell_set_ne (by omega)]; exact x0
  rw [← hW2]
  clear x0 x1 c0 c1 f c1' H HW hW2
  have c2 := h2.cell (j := 601 + k) (by omega)
  have f2 := fun j => h2.frozen j none
  have H2 := hide h2
  clear h2
  go_region
  go_wp2
  go_end0
  exact ⟨rfl, ((unhide HB2).set _ _ _).drew, ((unhide H2).set _ _).drew⟩
end Go.Proofs.Ytfcknfodejnhnaa


/- Keys by rank: the row, with a free place or without, and what it holds. -/
namespace Go.Proofs.Ytfcknfodejnhnaa
open Go Go.RowKit

theorem Sp.ahead_no (k r k' r' : Int) : Sp.aheadB k r k' r' = false ↔ (r' < r ∨ (r = r' ∧ k' ≤ k)) := by
  simp only [Sp.aheadB, Bool.or_eq_false_iff, Bool.and_eq_false_iff, decide_eq_false_iff_not]; omega
theorem Sp.ahead_yes (k r k' r' : Int) : Sp.aheadB k r k' r' = true ↔ (r < r' ∨ (r = r' ∧ k < k')) := by
  simp only [Sp.aheadB, Bool.or_eq_true, Bool.and_eq_true, decide_eq_true_eq]

theorem Sp.stand_key (z : Nat → Int) (p k : Nat) (r : Int) (i : Nat) (hi : i < 300) : Sp.stand z p k r (i * 2) = if i = p then (k : Int) else z (i * 2) := by
  unfold Sp.stand Sp.upd
  rw [if_neg (by omega), if_neg (by omega)]
  by_cases h : i = p
  · rw [if_pos (by omega), if_pos h]
  · rw [if_neg (by omega), if_neg h]
theorem Sp.stand_rank (z : Nat → Int) (p k : Nat) (r : Int) (i : Nat) (hi : i < 300) : Sp.stand z p k r (i * 2 + 1) = if i = p then r else z (i * 2 + 1) := by
  unfold Sp.stand Sp.upd
  rw [if_neg (by omega)]
  by_cases h : i = p
  · rw [if_pos (by omega), if_pos h]
  · rw [if_neg (by omega), if_neg h, if_neg (by omega)]
theorem Sp.stand_many (z : Nat → Int) (p k : Nat) (r : Int) (hp : p < 300) : Sp.stand z p k r 600 = z 600 := by
  unfold Sp.stand Sp.upd
  rw [if_neg (by omega), if_neg (by omega), if_neg (by omega)]
theorem Sp.stand_place (z : Nat → Int) (p k : Nat) (r : Int) (j : Nat) (hp : p < 300) : Sp.stand z p k r (601 + j) = if j = k then (p : Int) + 1 else z (601 + j) := by
  unfold Sp.stand Sp.upd
  by_cases h : j = k
  · rw [if_pos (by omega), if_pos h]
  · rw [if_neg (by omega), if_neg h, if_neg (by omega), if_neg (by omega)]

/-- How many of the first keys there are. -/
def Sp.cntN (M : Nat → Option Int) : Nat → Nat
  | 0 => 0
  | N + 1 => Sp.cntN M N + if (M N).isSome then 1 else 0
def Sp.cnt (M : Nat → Option Int) : Nat := Sp.cntN M 300
def Sp.put (M : Nat → Option Int) (k : Nat) (v : Option Int) : Nat → Option Int := fun j => if j = k then v else M j
theorem Sp.put_same (M : Nat → Option Int) (k : Nat) (v : Option Int) : Sp.put M k v k = v := by simp [Sp.put]
theorem Sp.put_other (M : Nat → Option Int) {k j : Nat} (v : Option Int) (h : j ≠ k) : Sp.put M k v j = M j := by simp [Sp.put, h]
theorem Sp.cntN_put (M : Nat → Option Int) (k : Nat) (v : Option Int) : ∀ N, Sp.cntN (Sp.put M k v) N + (if k < N ∧ (M k).isSome then 1 else 0) = Sp.cntN M N + (if k < N ∧ v.isSome then 1 else 0)
  | 0 => by simp [Sp.cntN]
  | N + 1 => by
    have ih := Sp.cntN_put M k v N
    simp only [Sp.cntN]
    rcases Nat.lt_trichotomy k N with h | h | h
    · rw [Sp.put_other _ _ (by omega)]
      have e1 : (k < N + 1 ∧ (M k).isSome = true) ↔ (k < N ∧ (M k).isSome = true) := ⟨fun x => ⟨h, x.2⟩, fun x => ⟨by omega, x.2⟩⟩
      have e2 : (k < N + 1 ∧ v.isSome = true) ↔ (k < N ∧ v.isSome = true) := ⟨fun x => ⟨h, x.2⟩, fun x => ⟨by omega, x.2⟩⟩
      simp only [e1, e2]
      omega
    · subst h
      rw [Sp.put_same]
      simp only [Nat.lt_irrefl, false_and, if_false, Nat.lt_succ_self, true_and] at ih ⊢
      omega
    · rw [Sp.put_other _ _ (by omega)]
      rw [if_neg (by omega), if_neg (by omega)] at ih
      rw [if_neg (c := k < N + 1 ∧ _) (by omega), if_neg (c := k < N + 1 ∧ _) (by omega)]
      omega
theorem Sp.cntN_le (M : Nat → Option Int) : ∀ N, Sp.cntN M N ≤ N
  | 0 => by simp [Sp.cntN]
  | N + 1 => by have := Sp.cntN_le M N; simp only [Sp.cntN]; split <;> omega
theorem Sp.cnt_le (M : Nat → Option Int) : Sp.cnt M ≤ 300 := Sp.cntN_le M 300
theorem Sp.cnt_add (M : Nat → Option Int) (k : Nat) (r : Int) (hk : k < 300) (h : M k = none) : Sp.cnt (Sp.put M k (some r)) = Sp.cnt M + 1 := by
  have := Sp.cntN_put M k (some r) 300
  rw [h, if_neg (by simp), if_pos ⟨hk, rfl⟩] at this
  unfold Sp.cnt; omega
theorem Sp.cnt_anew (M : Nat → Option Int) (k : Nat) (r r' : Int) (hk : k < 300) (h : M k = some r') : Sp.cnt (Sp.put M k (some r)) = Sp.cnt M := by
  have := Sp.cntN_put M k (some r) 300
  rw [h, if_pos ⟨hk, rfl⟩, if_pos ⟨hk, rfl⟩] at this
  unfold Sp.cnt; omega
theorem Sp.cnt_drop (M : Nat → Option Int) (k : Nat) (r : Int) (hk : k < 300) (h : M k = some r) : Sp.cnt (Sp.put M k none) + 1 = Sp.cnt M := by
  have := Sp.cntN_put M k none 300
  rw [h, if_pos ⟨hk, rfl⟩, if_neg (by simp)] at this
  unfold Sp.cnt; omega
theorem Sp.put_none (M : Nat → Option Int) (k : Nat) (h : M k = none) : Sp.put M k none = M := by
  funext j; unfold Sp.put; split
  · subst_vars; exact h.symm
  · rfl

/-- Item i of the row is ahead of item j. -/
def Sp.ah (z : Nat → Int) (i j : Nat) : Bool := Sp.aheadB (z (i * 2)) (z (i * 2 + 1)) (z (j * 2)) (z (j * 2 + 1))
/-- The row of n items that holds M. -/
structure Sp.HpI (z : Nat → Int) (M : Nat → Option Int) (n : Nat) : Prop where
  many : z 600 = (n : Int)
  le : n ≤ 300
  it : ∀ i, i < n → ∃ k : Nat, k < 300 ∧ z (i * 2) = (k : Int) ∧ z (601 + k) = (i : Int) + 1 ∧ M k = some (z (i * 2 + 1))
  pl : ∀ k, k < 300 → (z (601 + k) = 0 ∧ M k = none) ∨ ∃ i, i < n ∧ z (601 + k) = (i : Int) + 1 ∧ z (i * 2) = (k : Int)
  ord : ∀ i, 0 < i → i < n → Sp.ah z i ((i - 1) / 2) = false
  out : ∀ k, 300 ≤ k → M k = none
  cnt : n = Sp.cnt M
/-- The same with place f free, for an item of key k, rank r. -/
structure Sp.HoI (z : Nat → Int) (M : Nat → Option Int) (n f k : Nat) (r : Int) : Prop where
  many : z 600 = (n : Int)
  le : n ≤ 300
  fn : f < n
  kl : k < 300
  mem : M k = some r
  it : ∀ i, i < n → i ≠ f → ∃ k' : Nat, k' < 300 ∧ k' ≠ k ∧ z (i * 2) = (k' : Int) ∧ z (601 + k') = (i : Int) + 1 ∧ M k' = some (z (i * 2 + 1))
  pl : ∀ k', k' < 300 → k' ≠ k → (z (601 + k') = 0 ∧ M k' = none) ∨ ∃ i, i < n ∧ i ≠ f ∧ z (601 + k') = (i : Int) + 1 ∧ z (i * 2) = (k' : Int)
  ord : ∀ i, 0 < i → i < n → i ≠ f → (i - 1) / 2 ≠ f → Sp.ah z i ((i - 1) / 2) = false
  gr : ∀ i, 0 < i → i < n → (i - 1) / 2 = f → 0 < f → Sp.ah z i ((f - 1) / 2) = false
  out : ∀ k, 300 ≤ k → M k = none
  cnt : n = Sp.cnt M
/-- Behind the row nothing has turned. -/
def Sp.Up (n : Nat) (z z' : Nat → Int) : Prop := ∀ i, n ≤ i → i < 300 → z' (i * 2) = z (i * 2) ∧ z' (i * 2 + 1) = z (i * 2 + 1)
theorem Sp.Up.refl (n : Nat) (z : Nat → Int) : Sp.Up n z z := fun _ _ _ => ⟨rfl, rfl⟩
theorem Sp.Up.trans {n : Nat} {a b c : Nat → Int} (h : Sp.Up n a b) (k : Sp.Up n b c) : Sp.Up n a c := fun i h1 h2 => ⟨(k i h1 h2).1.trans (h i h1 h2).1, (k i h1 h2).2.trans (h i h1 h2).2⟩
theorem Sp.Up.stand {n : Nat} (z : Nat → Int) (p k : Nat) (r : Int) (hp : p < n) : Sp.Up n z (Sp.stand z p k r) := fun i h1 h2 => by
  rw [Sp.stand_key _ _ _ _ _ h2, Sp.stand_rank _ _ _ _ _ h2, if_neg (by omega), if_neg (by omega)]; exact ⟨rfl, rfl⟩
theorem Sp.ah_trans {z : Nat → Int} {i j k : Nat} (h : Sp.ah z i j = false) (h' : Sp.ah z j k = false) : Sp.ah z i k = false := by
  unfold Sp.ah at *
  rw [Sp.ahead_no] at *
  omega
theorem Sp.ah_stand {z : Nat → Int} {p k : Nat} {r : Int} {i j : Nat} (hi : i < 300) (hj : j < 300) (h1 : i ≠ p) (h2 : j ≠ p) : Sp.ah (Sp.stand z p k r) i j = Sp.ah z i j := by
  unfold Sp.ah
  rw [Sp.stand_key _ _ _ _ _ hi, Sp.stand_rank _ _ _ _ _ hi, Sp.stand_key _ _ _ _ _ hj, Sp.stand_rank _ _ _ _ _ hj, if_neg h1, if_neg h1, if_neg h2, if_neg h2]
theorem Sp.ah_standL {z : Nat → Int} {p c k : Nat} {j : Nat} (hp : p < 300) (hj : j < 300) (h2 : j ≠ p) (hk : z (c * 2) = (k : Int)) : Sp.ah (Sp.stand z p k (z (c * 2 + 1))) p j = Sp.ah z c j := by
  unfold Sp.ah
  rw [Sp.stand_key _ _ _ _ _ hp, Sp.stand_rank _ _ _ _ _ hp, Sp.stand_key _ _ _ _ _ hj, Sp.stand_rank _ _ _ _ _ hj, if_pos rfl, if_pos rfl, if_neg h2, if_neg h2, hk]
theorem Sp.ah_standR {z : Nat → Int} {p c k : Nat} {j : Nat} (hp : p < 300) (hj : j < 300) (h2 : j ≠ p) (hk : z (c * 2) = (k : Int)) : Sp.ah (Sp.stand z p k (z (c * 2 + 1))) j p = Sp.ah z j c := by
  unfold Sp.ah
  rw [Sp.stand_key _ _ _ _ _ hp, Sp.stand_rank _ _ _ _ _ hp, Sp.stand_key _ _ _ _ _ hj, Sp.stand_rank _ _ _ _ _ hj, if_pos rfl, if_pos rfl, if_neg h2, if_neg h2, hk]

/-- The item at c moves to the free place f: c is free. -/
theorem Sp.HoI.moved {z : Nat → Int} {M : Nat → Option Int} {n f k : Nat} {r : Int} (h : Sp.HoI z M n f k r) {c kc : Nat} (hc : c < n) (hcf : c ≠ f) (hkc : z (c * 2) = (kc : Int))
    (ord : ∀ i, 0 < i → i < n → i ≠ c → (i - 1) / 2 ≠ c → Sp.ah (Sp.stand z f kc (z (c * 2 + 1))) i ((i - 1) / 2) = false)
    (gr : ∀ i, 0 < i → i < n → (i - 1) / 2 = c → 0 < c → Sp.ah (Sp.stand z f kc (z (c * 2 + 1))) i ((c - 1) / 2) = false) :
    Sp.HoI (Sp.stand z f kc (z (c * 2 + 1))) M n c k r ∧ kc < 300 := by
  have hn := h.le
  have hf := h.fn
  obtain ⟨k1, hk1, hk1k, hz1, hp1, hm1⟩ := h.it c hc hcf
  obtain rfl : kc = k1 := by omega
  refine ⟨⟨by rw [Sp.stand_many _ _ _ _ (by omega)]; exact h.many, h.le, hc, h.kl, h.mem, fun i hi hic => ?_, fun k' hk' hkk => ?_, ord, gr, h.out, h.cnt⟩, hk1⟩
  · by_cases hif : i = f
    · subst hif
      refine ⟨kc, hk1, hk1k, ?_, ?_, ?_⟩
      · rw [Sp.stand_key _ _ _ _ _ (by omega), if_pos rfl]
      · rw [Sp.stand_place _ _ _ _ _ (by omega), if_pos rfl]
      · rw [Sp.stand_rank _ _ _ _ _ (by omega), if_pos rfl]; exact hm1
    · obtain ⟨k2, hk2, hk2k, hz2, hp2, hm2⟩ := h.it i hi hif
      have hne : k2 ≠ kc := fun e => by subst e; rw [hp1] at hp2; omega
      refine ⟨k2, hk2, hk2k, ?_, ?_, ?_⟩
      · rw [Sp.stand_key _ _ _ _ _ (by omega), if_neg hif]; exact hz2
      · rw [Sp.stand_place _ _ _ _ _ (by omega), if_neg hne]; exact hp2
      · rw [Sp.stand_rank _ _ _ _ _ (by omega), if_neg hif]; exact hm2
  · rw [Sp.stand_place _ _ _ _ _ (by omega)]
    by_cases hkk' : k' = kc
    · subst hkk'
      rw [if_pos rfl]
      exact .inr ⟨f, hf, fun e => hcf e.symm, rfl, by rw [Sp.stand_key _ _ _ _ _ (by omega), if_pos rfl]⟩
    · rw [if_neg hkk']
      rcases h.pl k' hk' hkk with h0 | ⟨i, hi, hif, hpi, hzi⟩
      · exact .inl h0
      · refine .inr ⟨i, hi, fun e => ?_, hpi, by rw [Sp.stand_key _ _ _ _ _ (by omega), if_neg hif]; exact hzi⟩
        subst e
        rw [hkc] at hzi
        omega
theorem Sp.HoI.rise {z : Nat → Int} {M : Nat → Option Int} {n f k : Nat} {r : Int} (h : Sp.HoI z M n f k r) {kc : Nat} (hf : 0 < f) (hkc : z ((f - 1) / 2 * 2) = (kc : Int)) :
    Sp.HoI (Sp.stand z f kc (z ((f - 1) / 2 * 2 + 1))) M n ((f - 1) / 2) k r ∧ kc < 300 := by
  have hn := h.le
  have hfn := h.fn
  refine h.moved (by omega) (by omega) hkc (fun i h0 hi hic hpc => ?_) (fun i h0 hi hpc hc0 => ?_)
  · by_cases hif : i = f
    · omega
    · by_cases hpf : (i - 1) / 2 = f
      · rw [hpf, Sp.ah_standR (by omega) (by omega) hif hkc]
        exact h.gr i h0 hi hpf hf
      · rw [Sp.ah_stand (by omega) (by omega) hif hpf]
        exact h.ord i h0 hi hif hpf
  · by_cases hif : i = f
    · subst hif
      rw [Sp.ah_standL (by omega) (by omega) (by omega) hkc]
      exact h.ord _ hc0 (by omega) (by omega) (by omega)
    · rw [Sp.ah_stand (by omega) (by omega) hif (by omega)]
      have h1 := h.ord i h0 hi hif (by omega)
      rw [hpc] at h1
      exact Sp.ah_trans h1 (h.ord _ hc0 (by omega) (by omega) (by omega))
theorem Sp.HoI.sink {z : Nat → Int} {M : Nat → Option Int} {n f k : Nat} {r : Int} (h : Sp.HoI z M n f k r) {c kc : Nat} (hc0 : 0 < c) (hcn : c < n) (hcf : (c - 1) / 2 = f) (hkc : z (c * 2) = (kc : Int))
    (hmin : ∀ i, 0 < i → i < n → (i - 1) / 2 = f → Sp.ah z i c = false) :
    Sp.HoI (Sp.stand z f kc (z (c * 2 + 1))) M n c k r ∧ kc < 300 := by
  have hn := h.le
  have hfn := h.fn
  refine h.moved hcn (by omega) hkc (fun i h0 hi hic hpc => ?_) (fun i h0 hi hpc _ => ?_)
  · by_cases hif : i = f
    · subst hif
      rw [Sp.ah_standL (by omega) (by omega) (by omega) hkc]
      exact h.gr c hc0 hcn hcf h0
    · by_cases hpf : (i - 1) / 2 = f
      · rw [hpf, Sp.ah_standR (by omega) (by omega) hif hkc]
        exact hmin i h0 hi hpf
      · rw [Sp.ah_stand (by omega) (by omega) hif hpf]
        exact h.ord i h0 hi hif hpf
  · rw [hcf, Sp.ah_standR (by omega) (by omega) (by omega) hkc]
    have := h.ord i h0 hi (by omega) (by omega)
    rw [hpc] at this
    exact this
/-- The item laid at the free place: the row has none any more. -/
theorem Sp.HoI.shut {z : Nat → Int} {M : Nat → Option Int} {n f k : Nat} {r : Int} (h : Sp.HoI z M n f k r)
    (hup : 0 < f → Sp.aheadB (k : Int) r (z ((f - 1) / 2 * 2)) (z ((f - 1) / 2 * 2 + 1)) = false)
    (hdn : ∀ i, 0 < i → i < n → (i - 1) / 2 = f → Sp.aheadB (z (i * 2)) (z (i * 2 + 1)) (k : Int) r = false) : Sp.HpI (Sp.stand z f k r) M n := by
  have hn := h.le
  have hf := h.fn
  refine ⟨by rw [Sp.stand_many _ _ _ _ (by omega)]; exact h.many, h.le, fun i hi => ?_, fun k' hk' => ?_, fun i h0 hi => ?_, h.out, h.cnt⟩
  · by_cases hif : i = f
    · subst hif
      refine ⟨k, h.kl, ?_, ?_, ?_⟩
      · rw [Sp.stand_key _ _ _ _ _ (by omega), if_pos rfl]
      · rw [Sp.stand_place _ _ _ _ _ (by omega), if_pos rfl]
      · rw [Sp.stand_rank _ _ _ _ _ (by omega), if_pos rfl]; exact h.mem
    · obtain ⟨k2, hk2, hk2k, hz2, hp2, hm2⟩ := h.it i hi hif
      refine ⟨k2, hk2, ?_, ?_, ?_⟩
      · rw [Sp.stand_key _ _ _ _ _ (by omega), if_neg hif]; exact hz2
      · rw [Sp.stand_place _ _ _ _ _ (by omega), if_neg hk2k]; exact hp2
      · rw [Sp.stand_rank _ _ _ _ _ (by omega), if_neg hif]; exact hm2
  · rw [Sp.stand_place _ _ _ _ _ (by omega)]
    by_cases hkk : k' = k
    · rw [if_pos hkk]
      exact .inr ⟨f, hf, rfl, by rw [Sp.stand_key _ _ _ _ _ (by omega), if_pos rfl, hkk]⟩
    · rw [if_neg hkk]
      rcases h.pl k' hk' hkk with h0 | ⟨i, hi, hif, hpi, hzi⟩
      · exact .inl h0
      · exact .inr ⟨i, hi, hpi, by rw [Sp.stand_key _ _ _ _ _ (by omega), if_neg hif]; exact hzi⟩
  · by_cases hif : i = f
    · subst hif
      unfold Sp.ah
      rw [Sp.stand_key _ _ _ _ _ (by omega), Sp.stand_rank _ _ _ _ _ (by omega), Sp.stand_key _ _ _ _ _ (by omega), Sp.stand_rank _ _ _ _ _ (by omega), if_pos rfl, if_pos rfl, if_neg (by omega), if_neg (by omega)]
      exact hup h0
    · by_cases hpf : (i - 1) / 2 = f
      · unfold Sp.ah
        rw [hpf, Sp.stand_key _ _ _ _ _ (by omega), Sp.stand_rank _ _ _ _ _ (by omega), Sp.stand_key _ _ _ _ _ (by omega), Sp.stand_rank _ _ _ _ _ (by omega), if_neg hif, if_neg hif, if_pos rfl, if_pos rfl]
        exact hdn i h0 hi hpf
      · rw [Sp.ah_stand (by omega) (by omega) hif hpf]
        exact h.ord i h0 hi hif hpf
end Go.Proofs.Ytfcknfodejnhnaa


/- Package heap: rise. -/
namespace Go.Proofs.Ytfcknfodejnhnaa
open Go Go.RowKit

theorem cell_lt {w : World} {b j : Nat} {v : Value} (h : w.cell? ⟨b, j, none⟩ = some v) : b < w.heap.size := by
  rcases Nat.lt_or_ge b w.heap.size with h1 | h1
  · exact h1
  · simp [World.cell?, Array.getElem?_eq_none h1] at h
set_option maxRecDepth 100000 in
set_option maxHeartbeats 4000000 in
theorem rise_any (z : Nat → Int) (M : Nat → Option Int) (b n f k : Nat) (r : Int) (w : World) (h : HpAt w b z) (hi : Sp.HoI z M n f k r) :
    Calls Try.prog 31 #[.pointer (some ⟨b, 0, none⟩), .int .i64 (f : Int), .agg #[.int .i64 (k : Int), .int .i64 r]] w fun e w' => ∃ (f' : Nat) (z' : Nat → Int), e = .returned (.int .i64 (f' : Int)) ∧ But b w w' ∧ HpAt w' b z' ∧ Sp.HoI z' M n f' k r ∧ Sp.Up n z z' ∧ (0 < f' → Sp.aheadB (k : Int) r (z' ((f' - 1) / 2 * 2)) (z' ((f' - 1) / 2 * 2 + 1)) = false) := by
  have hb := h.lt
  have hfn := hi.fn
  have hnl := hi.le
  have HI0 : Hid (But b (w.alloc (.cells #[.int .i64 (k : Int), .int .i64 r] 32)) (w.alloc (.cells #[.int .i64 (k : Int), .int .i64 r] 32)) ∧ HpAt (w.alloc (.cells #[.int .i64 (k : Int), .int .i64 r] 32)) b z ∧ Sp.HoI z M n f k r ∧ Sp.Up n z z) := hide ⟨But.refl _ _, h.alloc _, hi, Sp.Up.refl _ _⟩
  have HX : Hid (∀ wr, But b (w.alloc (.cells #[.int .i64 (k : Int), .int .i64 r] 32)) wr → wr.cell? ⟨w.heap.size, 0, none⟩ = some (.int .i64 (k : Int)) ∧ wr.cell? ⟨w.heap.size, 1, none⟩ = some (.int .i64 r) ∧ But b w wr) := hide fun wr hw => by
    obtain ⟨x0, x1⟩ := item_new w (.int .i64 (k : Int)) (.int .i64 r)
    exact ⟨(hw.cell (by simp) (by show w.heap.size ≠ b; omega)).trans x0, (hw.cell (by simp) (by show w.heap.size ≠ b; omega)).trans x1, ((But.refl b w).alloc _).trans hw⟩
  obtain ⟨P, hP⟩ : ∃ P : Ending → World → Prop, P = fun e w' => ∃ (f' : Nat) (z' : Nat → Int), e = .returned (.int .i64 (f' : Int)) ∧ But b w w' ∧ HpAt w' b z' ∧ Sp.HoI z' M n f' k r ∧ Sp.Up n z z' ∧ (0 < f' → Sp.aheadB (k : Int) r (z' ((f' - 1) / 2 * 2)) (z' ((f' - 1) / 2 * 2 + 1)) = false) := ⟨_, rfl⟩
  rw [← hP]
  have HP := hide hP
  clear hP h hi
  go_enter Try.func31, Try.ntmps31
  go_wp2
  generalize w.alloc (.cells #[.int .i64 (k : Int), .int .i64 r] 32) = W1 at *
  go_loopg [1] f (fun g s1 wr => ∃ (f : Nat) (z' : Nat → Int), f ≤ g ∧ f < n ∧ s1 = .int .i64 (f : Int) ∧ Hid (But b W1 wr ∧ HpAt wr b z' ∧ Sp.HoI z' M n f k r ∧ Sp.Up n z z'))
  case atStart => exact ⟨f, z, Nat.le_refl _, hfn, rfl, HI0⟩
  case round =>
    clear HI0 hfn
    clear f
    obtain ⟨f, z', hfg, hfn, rfl, HI⟩ := hrel
    obtain ⟨x0, x1, hbw⟩ := unhide HX wr (unhide HI).1
    have HBW := hide hbw
    clear hbw
    by_cases h0 : f = 0
    · subst h0
      go_wp2
      rw [unhide HP]
      exact ⟨0, z', rfl, unhide HBW, (unhide HI).2.1, (unhide HI).2.2.1, (unhide HI).2.2.2, by omega⟩
    · obtain ⟨a, ha⟩ : ∃ a, (f - 1) / 2 = a := ⟨_, rfl⟩
      have ha' : (f : Int) - 1 = ((f - 1 : Nat) : Int) := by omega
      have hq : ((f : Int) - 1).tdiv 2 = (a : Int) := by rw [ha', ← ha]; rfl
      have h0' : 0 < (f : Int) := by omega
      have haI : (a : Int) < 300 := by omega
      obtain ⟨kc, hkl, hkk, hzk, -, -⟩ := (unhide HI).2.2.1.it a (by omega) (by omega)
      have c0 := (unhide HI).2.1.cell (j := a * 2) (by omega)
      have c1 := (unhide HI).2.1.cell (j := a * 2 + 1) (by omega)
      rw [hzk] at c0
      have HC : Hid (∀ w', Below wr.heap.size wr w' → w'.cell? ⟨w.heap.size, 0, none⟩ = some (.int .i64 (k : Int)) ∧ w'.cell? ⟨w.heap.size, 1, none⟩ = some (.int .i64 r) ∧ w'.cell? ⟨b, a * 2, none⟩ = some (.int .i64 (kc : Int)) ∧ w'.cell? ⟨b, a * 2 + 1, none⟩ = some (.int .i64 (z' (a * 2 + 1)))) := hide fun w' hb => by
        have hbl := (unhide HI).2.1.lt
        have hwl : w.heap.size < wr.heap.size := by
          have := x0
          exact cell_lt this
        exact ⟨(hb.cell hwl).trans x0, (hb.cell hwl).trans x1, (hb.cell hbl).trans c0, (hb.cell hbl).trans c1⟩
      have HK := hide (show (z' (a * 2) = (kc : Int) ∧ kc < 300 ∧ (f - 1) / 2 = a) from ⟨hzk, hkl, ha⟩)
      generalize hrc : z' (a * 2 + 1) = rc at *
      have HRC := hide hrc
      clear hrc
      have hbr : Below wr.heap.size wr wr.drew := (Below.refl _ _).drew
      clear ha ha' hzk hkk
      by_cases hR : Sp.aheadB (k : Int) r (kc : Int) rc = true
      · obtain ⟨g', rfl⟩ : ∃ g', gk = g' + 1 := ⟨gk - 1, by omega⟩
        have HA := hide (show ∀ w', Calls Try.prog 34 #[.agg #[.int .i64 (k : Int), .int .i64 r], .agg #[.int .i64 (kc : Int), .int .i64 rc]] w' fun e w'' => e = .returned (.bool true) ∧ Below w'.heap.size w' w'' from fun w' => by have := ahead_any (k : Int) r (kc : Int) rc w'; rw [hR] at this; exact this)
        clear hR
        go_upto_region 3 with fail
        clear x0 x1 c0 c1
        go_region_held3 (fun w' => w'.cell? ⟨w.heap.size, 0, none⟩ = some (.int .i64 (k : Int)) ∧ w'.cell? ⟨w.heap.size, 1, none⟩ = some (.int .i64 r) ∧ w'.cell? ⟨b, a * 2, none⟩ = some (.int .i64 (kc : Int)) ∧ w'.cell? ⟨b, a * 2 + 1, none⟩ = some (.int .i64 rc))
          (first
            | exact unhide HC _ hb8
            | exact unhide HC _ hbr)
          (first
            | (go_at_call 34
               refine (unhide HA _).mono ?_
               rintro e w8 ⟨rfl, hl8⟩
               have hb8 : Below wr.heap.size wr w8 := hbr.trans hl8))
        all_goals
          obtain ⟨x0, x1, c0, c1⟩ := unhide HC _ hb8
          go_wp2_with fail
          refine (stand_any z' b f kc rc w8 ((unhide HI).2.1.below hb8) (by omega) hkl).mono ?_
          rintro e w9 ⟨rfl, hbut9, hat9⟩
          have HN := hide (unhide HI).2.2.1
          have hN := ((unhide HI).2.2.1).rise (kc := kc) (by omega) (by rw [(unhide HK).2.2]; exact (unhide HK).1)
          rw [(unhide HK).2.2, unhide HRC] at hN
          have HF : Hid (But b W1 w9 ∧ HpAt w9 b (Sp.stand z' f kc rc) ∧ Sp.HoI (Sp.stand z' f kc rc) M n a k r ∧ Sp.Up n z (Sp.stand z' f kc rc)) := hide ⟨((unhide HI).1.trans (But.of hb8)).trans hbut9, hat9, hN.1, (unhide HI).2.2.2.trans (Sp.Up.stand _ _ _ _ hfn)⟩
          clear hbut9 hat9 hN HN HI HC x0 x1 c0 c1
          go_wp2
          go_roundg g'
          case rel => exact ⟨a, _, by have := (unhide HK).2.2; omega, by have := (unhide HK).2.2; omega, rfl, HF⟩
          case measure => omega
      · have hR' : Sp.aheadB (k : Int) r (kc : Int) rc = false := by simpa using hR
        have HA := hide (show ∀ w', Calls Try.prog 34 #[.agg #[.int .i64 (k : Int), .int .i64 r], .agg #[.int .i64 (kc : Int), .int .i64 rc]] w' fun e w'' => e = .returned (.bool false) ∧ Below w'.heap.size w' w'' from fun w' => by have := ahead_any (k : Int) r (kc : Int) rc w'; rw [hR'] at this; exact this)
        have HR := hide hR'
        clear hR hR'
        go_upto_region 3 with fail
        clear x0 x1 c0 c1
        go_region_held3 (fun w' => w'.cell? ⟨w.heap.size, 0, none⟩ = some (.int .i64 (k : Int)) ∧ w'.cell? ⟨w.heap.size, 1, none⟩ = some (.int .i64 r) ∧ w'.cell? ⟨b, a * 2, none⟩ = some (.int .i64 (kc : Int)) ∧ w'.cell? ⟨b, a * 2 + 1, none⟩ = some (.int .i64 rc))
          (first
            | exact unhide HC _ hb8
            | exact unhide HC _ hbr)
          (first
            | (go_at_call 34
               refine (unhide HA _).mono ?_
               rintro e w8 ⟨rfl, hl8⟩
               have hb8 : Below wr.heap.size wr w8 := hbr.trans hl8))
        all_goals
          have HF : Hid (But b w w8 ∧ HpAt w8 b z' ∧ Sp.HoI z' M n f k r ∧ Sp.Up n z z') := hide ⟨(unhide HBW).trans (But.of hb8), (unhide HI).2.1.below hb8, (unhide HI).2.2.1, (unhide HI).2.2.2⟩
          clear HC HI
          go_wp2
          rw [unhide HP]
          exact ⟨f, z', rfl, (unhide HF).1, (unhide HF).2.1, (unhide HF).2.2.1, (unhide HF).2.2.2, fun _ => by rw [(unhide HK).2.2, (unhide HK).1, unhide HRC]; exact unhide HR⟩
end Go.Proofs.Ytfcknfodejnhnaa


/- Package heap: sink. -/
namespace Go.Proofs.Ytfcknfodejnhnaa
open Go Go.RowKit

set_option maxRecDepth 100000 in
set_option maxHeartbeats 8000000 in
theorem sink_any (z : Nat → Int) (M : Nat → Option Int) (b n f k : Nat) (r : Int) (w : World) (h : HpAt w b z) (hi : Sp.HoI z M n f k r) (hu : 0 < f → Sp.aheadB (k : Int) r (z ((f - 1) / 2 * 2)) (z ((f - 1) / 2 * 2 + 1)) = false) :
    Calls Try.prog 32 #[.pointer (some ⟨b, 0, none⟩), .int .i64 (f : Int), .agg #[.int .i64 (k : Int), .int .i64 r]] w fun e w' => ∃ (f' : Nat) (z' : Nat → Int), e = .returned (.int .i64 (f' : Int)) ∧ But b w w' ∧ HpAt w' b z' ∧ Sp.HoI z' M n f' k r ∧ Sp.Up n z z' ∧ (0 < f' → Sp.aheadB (k : Int) r (z' ((f' - 1) / 2 * 2)) (z' ((f' - 1) / 2 * 2 + 1)) = false) ∧ (∀ i, 0 < i → i < n → (i - 1) / 2 = f' → Sp.aheadB (z' (i * 2)) (z' (i * 2 + 1)) (k : Int) r = false) := by
  have hb := h.lt
  have hfn := hi.fn
  have hnl := hi.le
  have HI0 : Hid (But b (w.alloc (.cells #[.int .i64 (k : Int), .int .i64 r] 32)) (w.alloc (.cells #[.int .i64 (k : Int), .int .i64 r] 32)) ∧ HpAt (w.alloc (.cells #[.int .i64 (k : Int), .int .i64 r] 32)) b z ∧ Sp.HoI z M n f k r ∧ Sp.Up n z z ∧ (0 < f → Sp.aheadB (k : Int) r (z ((f - 1) / 2 * 2)) (z ((f - 1) / 2 * 2 + 1)) = false)) := hide ⟨But.refl _ _, h.alloc _, hi, Sp.Up.refl _ _, hu⟩
  have HX : Hid (∀ wr, But b (w.alloc (.cells #[.int .i64 (k : Int), .int .i64 r] 32)) wr → wr.cell? ⟨w.heap.size, 0, none⟩ = some (.int .i64 (k : Int)) ∧ wr.cell? ⟨w.heap.size, 1, none⟩ = some (.int .i64 r) ∧ But b w wr) := hide fun wr hw => by
    obtain ⟨x0, x1⟩ := item_new w (.int .i64 (k : Int)) (.int .i64 r)
    exact ⟨(hw.cell (by simp) (by show w.heap.size ≠ b; omega)).trans x0, (hw.cell (by simp) (by show w.heap.size ≠ b; omega)).trans x1, ((But.refl b w).alloc _).trans hw⟩
  obtain ⟨P, hP⟩ : ∃ P : Ending → World → Prop, P = fun e w' => ∃ (f' : Nat) (z' : Nat → Int), e = .returned (.int .i64 (f' : Int)) ∧ But b w w' ∧ HpAt w' b z' ∧ Sp.HoI z' M n f' k r ∧ Sp.Up n z z' ∧ (0 < f' → Sp.aheadB (k : Int) r (z' ((f' - 1) / 2 * 2)) (z' ((f' - 1) / 2 * 2 + 1)) = false) ∧ (∀ i, 0 < i → i < n → (i - 1) / 2 = f' → Sp.aheadB (z' (i * 2)) (z' (i * 2 + 1)) (k : Int) r = false) := ⟨_, rfl⟩
  rw [← hP]
  have HP := hide hP
  clear hP h hi hu
  go_enter Try.func32, Try.ntmps32
  go_wp2
  generalize w.alloc (.cells #[.int .i64 (k : Int), .int .i64 r] 32) = W1 at *
  go_step3
  go_wp2
  go_step3
  go_wp2
  go_loopg [1] (n - f) (fun g s1 wr => ∃ (f : Nat) (z' : Nat → Int), n ≤ f + g ∧ f < n ∧ s1 = .int .i64 (f : Int) ∧ Hid (But b W1 wr ∧ HpAt wr b z' ∧ Sp.HoI z' M n f k r ∧ Sp.Up n z z' ∧ (0 < f → Sp.aheadB (k : Int) r (z' ((f - 1) / 2 * 2)) (z' ((f - 1) / 2 * 2 + 1)) = false)))
  case atStart => exact ⟨f, z, by omega, hfn, rfl, HI0⟩
  case round =>
    clear HI0 hfn
    clear f
    obtain ⟨f, z', hfg, hfn, rfl, HI⟩ := hrel
    obtain ⟨x0, x1, hbw⟩ := unhide HX wr (unhide HI).1
    have HBW := hide hbw
    clear hbw
    obtain ⟨c, hc⟩ : ∃ c, 2 * f + 1 = c := ⟨_, rfl⟩
    have hq1 : 2 * (f : Int) + 1 = (c : Int) := by omega
    have m0 := (unhide HI).2.1.cell (j := 600) (by omega)
    rw [(unhide HI).2.2.1.many] at m0
    have HC0 := hide hc
    by_cases hcn : n ≤ c
    · have hcnI : (n : Int) ≤ (c : Int) := by omega
      have HF : Hid (But b w wr ∧ HpAt wr b z' ∧ Sp.HoI z' M n f k r ∧ Sp.Up n z z' ∧ (0 < f → Sp.aheadB (k : Int) r (z' ((f - 1) / 2 * 2)) (z' ((f - 1) / 2 * 2 + 1)) = false)) := hide ⟨unhide HBW, (unhide HI).2⟩
      clear hc HI
      go_wp2
      rw [unhide HP]
      exact ⟨f, z', rfl, (unhide HF).1, (unhide HF).2.1, (unhide HF).2.2.1, (unhide HF).2.2.2.1, (unhide HF).2.2.2.2, fun i h0 hi hp => by have := unhide HC0; omega⟩
    · obtain ⟨d, hd⟩ : ∃ d, c + 1 = d := ⟨_, rfl⟩
      have hq2 : (c : Int) + 1 = (d : Int) := by omega
      have hwd : IntKind.i64.wrap (d : Int) = (d : Int) := by rw [IntKind.wrap_i64]; omega
      have HD0 := hide hd
      have hcnI : (c : Int) < (n : Int) := by omega
      obtain ⟨kc, hkc, hkk, hzc, -, -⟩ := (unhide HI).2.2.1.it c (by omega) (by omega)
      have c0 := (unhide HI).2.1.cell (j := c * 2) (by omega)
      have c1 := (unhide HI).2.1.cell (j := c * 2 + 1) (by omega)
      rw [hzc] at c0
      have hbl := (unhide HI).2.1.lt
      have hwl : w.heap.size < wr.heap.size := cell_lt x0
      have hbr : Below wr.heap.size wr wr.drew := (Below.refl _ _).drew
      by_cases hdn : n ≤ d
      · have hdnI : decide ((d : Int) < (n : Int)) = false := decide_eq_false (by omega)
        have hdnN : decide (d < n) = false := decide_eq_false (by omega)
        have hmin : ∀ i, 0 < i → i < n → (i - 1) / 2 = f → Sp.ah z' i c = false := fun i h0 hi hp => by
          obtain rfl : i = c := by omega
          unfold Sp.ah; rw [Sp.ahead_no]; omega
        have HC : Hid (∀ w', Below wr.heap.size wr w' → w'.cell? ⟨w.heap.size, 0, none⟩ = some (.int .i64 (k : Int)) ∧ w'.cell? ⟨w.heap.size, 1, none⟩ = some (.int .i64 r) ∧ w'.cell? ⟨b, c * 2, none⟩ = some (.int .i64 (kc : Int)) ∧ w'.cell? ⟨b, c * 2 + 1, none⟩ = some (.int .i64 (z' (c * 2 + 1)))) := hide fun w' hb => ⟨(hb.cell hwl).trans x0, (hb.cell hwl).trans x1, (hb.cell hbl).trans c0, (hb.cell hbl).trans c1⟩
        have HE := hide (And.intro hmin (And.intro hzc hkc))
        have HN : Hid ((c - 1) / 2 = f ∧ 0 < c) := hide (by omega)
        obtain ⟨rc, hrc⟩ : ∃ rc, z' (c * 2 + 1) = rc := ⟨_, rfl⟩
        rw [hrc] at HC
        have HRC := hide hrc
        clear hmin hrc hzc hc hd c0 c1 x0 x1 hdn hcn hkk
        have hcI : (c : Int) < 300 := by omega
        go_upto_region 3 with fail
        go_quiet (fail)
        clear m0
        have hbq : Below wr.heap.size wr (wr.drewN nq) := ⟨rfl, rfl, rfl, Nat.le_refl _, fun _ _ => rfl⟩
        generalize wr.drewN nq = wq at *
        have HG : Hid (∀ w', Below wr.heap.size wr w' → w'.cell? ⟨w.heap.size, 0, none⟩ = some (.int .i64 (k : Int)) ∧ w'.cell? ⟨w.heap.size, 1, none⟩ = some (.int .i64 r) ∧ w'.cell? ⟨b, c * 2, none⟩ = some (.int .i64 (kc : Int)) ∧ w'.cell? ⟨b, c * 2 + 1, none⟩ = some (.int .i64 rc)) := hide fun w' hb => unhide HC _ hb
        have hbW : Below wr.heap.size wr wq.drew := hbq.drew
        clear HC
        by_cases hR : Sp.aheadB (kc : Int) rc (k : Int) r = true
        · obtain ⟨g', rfl⟩ : ∃ g', gk = g' + 1 := ⟨gk - 1, by omega⟩
          have HA := hide (show ∀ w', Calls Try.prog 34 #[.agg #[.int .i64 (kc : Int), .int .i64 rc], .agg #[.int .i64 (k : Int), .int .i64 r]] w' fun e w'' => e = .returned (.bool true) ∧ Below w'.heap.size w' w'' from fun w' => by have := ahead_any (kc : Int) rc (k : Int) r w'; rw [hR] at this; exact this)
          have HR := hide hR
          clear hR
          go_upto_region 5 with fail
          go_region_held3 (fun w' => w'.cell? ⟨w.heap.size, 0, none⟩ = some (.int .i64 (k : Int)) ∧ w'.cell? ⟨w.heap.size, 1, none⟩ = some (.int .i64 r) ∧ w'.cell? ⟨b, c * 2, none⟩ = some (.int .i64 (kc : Int)) ∧ w'.cell? ⟨b, c * 2 + 1, none⟩ = some (.int .i64 rc))
            (first
              | exact unhide HG _ hb9
              | exact unhide HG _ hbW)
            (first
              | (go_at_call 34
                 refine (unhide HA _).mono ?_
                 rintro e w9 ⟨rfl, hl9⟩
                 have hb9 : Below wr.heap.size wr w9 := hbW.trans (hl9.mono hbW.size)))
          all_goals
            obtain ⟨x0, x1, e0, e1⟩ := unhide HG _ hb9
            go_wp2_with fail
            refine (stand_any z' b f kc rc w9 ((unhide HI).2.1.below hb9) (by omega) (unhide HE).2.2).mono ?_
            rintro e w10 ⟨rfl, hbut9, hat9⟩
            have hN := ((unhide HI).2.2.1).sink (c := c) (kc := kc) (unhide HN).2 (by omega) (unhide HN).1 (unhide HE).2.1 (unhide HE).1
            rw [unhide HRC] at hN
            have HF : Hid (But b W1 w10 ∧ HpAt w10 b (Sp.stand z' f kc rc) ∧ Sp.HoI (Sp.stand z' f kc rc) M n c k r ∧ Sp.Up n z (Sp.stand z' f kc rc) ∧ (0 < c → Sp.aheadB (k : Int) r (Sp.stand z' f kc rc ((c - 1) / 2 * 2)) (Sp.stand z' f kc rc ((c - 1) / 2 * 2 + 1)) = false)) := hide ⟨((unhide HI).1.trans (But.of hb9)).trans hbut9, hat9, hN.1, (unhide HI).2.2.2.1.trans (Sp.Up.stand _ _ _ _ hfn), fun _ => by
              have hR := unhide HR
              rw [(unhide HN).1, Sp.stand_key _ _ _ _ _ (by omega), Sp.stand_rank _ _ _ _ _ (by omega), if_pos rfl, if_pos rfl, Sp.ahead_no]
              rw [Sp.ahead_yes] at hR
              omega⟩
            clear hbut9 hat9 hN HI HG x0 x1 e0 e1
            go_wp2
            go_roundg g'
            case rel => exact ⟨c, _, by have := unhide HN; omega, by omega, rfl, HF⟩
            case measure => omega
        · have hR' : Sp.aheadB (kc : Int) rc (k : Int) r = false := by simpa using hR
          have HA := hide (show ∀ w', Calls Try.prog 34 #[.agg #[.int .i64 (kc : Int), .int .i64 rc], .agg #[.int .i64 (k : Int), .int .i64 r]] w' fun e w'' => e = .returned (.bool false) ∧ Below w'.heap.size w' w'' from fun w' => by have := ahead_any (kc : Int) rc (k : Int) r w'; rw [hR'] at this; exact this)
          have HR := hide hR'
          clear hR hR'
          go_upto_region 5 with fail
          go_region_held3 (fun w' => w'.cell? ⟨w.heap.size, 0, none⟩ = some (.int .i64 (k : Int)) ∧ w'.cell? ⟨w.heap.size, 1, none⟩ = some (.int .i64 r) ∧ w'.cell? ⟨b, c * 2, none⟩ = some (.int .i64 (kc : Int)) ∧ w'.cell? ⟨b, c * 2 + 1, none⟩ = some (.int .i64 rc))
            (first
              | exact unhide HG _ hb9
              | exact unhide HG _ hbW)
            (first
              | (go_at_call 34
                 refine (unhide HA _).mono ?_
                 rintro e w9 ⟨rfl, hl9⟩
                 have hb9 : Below wr.heap.size wr w9 := hbW.trans (hl9.mono hbW.size)))
          all_goals
            have HF : Hid (But b w w9 ∧ HpAt w9 b z' ∧ Sp.HoI z' M n f k r ∧ Sp.Up n z z' ∧ (0 < f → Sp.aheadB (k : Int) r (z' ((f - 1) / 2 * 2)) (z' ((f - 1) / 2 * 2 + 1)) = false)) := hide ⟨(unhide HBW).trans (But.of hb9), (unhide HI).2.1.below hb9, (unhide HI).2.2⟩
            clear HG HI
            go_wp2
            rw [unhide HP]
            exact ⟨f, z', rfl, (unhide HF).1, (unhide HF).2.1, (unhide HF).2.2.1, (unhide HF).2.2.2.1, (unhide HF).2.2.2.2, fun i h0 hi hp => by
              have h1 := (unhide HE).1 i h0 hi hp
              have h2 := unhide HR
              unfold Sp.ah at h1
              rw [(unhide HE).2.1, unhide HRC] at h1
              rw [Sp.ahead_no] at *
              omega⟩
      · have hdnI : (d : Int) < (n : Int) := by omega
        obtain ⟨kd, hkd, hkk', hzd, -, -⟩ := (unhide HI).2.2.1.it d (by omega) (by omega)
        have d0 := (unhide HI).2.1.cell (j := d * 2) (by omega)
        have d1 := (unhide HI).2.1.cell (j := d * 2 + 1) (by omega)
        rw [hzd] at d0
        have HC : Hid (∀ w', Below wr.heap.size wr w' → w'.cell? ⟨b, 600, none⟩ = some (.int .i64 (n : Int)) ∧ w'.cell? ⟨w.heap.size, 0, none⟩ = some (.int .i64 (k : Int)) ∧ w'.cell? ⟨w.heap.size, 1, none⟩ = some (.int .i64 r) ∧ w'.cell? ⟨b, c * 2, none⟩ = some (.int .i64 (kc : Int)) ∧ w'.cell? ⟨b, c * 2 + 1, none⟩ = some (.int .i64 (z' (c * 2 + 1))) ∧ w'.cell? ⟨b, d * 2, none⟩ = some (.int .i64 (kd : Int)) ∧ w'.cell? ⟨b, d * 2 + 1, none⟩ = some (.int .i64 (z' (d * 2 + 1)))) := hide fun w' hb => ⟨(hb.cell hbl).trans m0, (hb.cell hwl).trans x0, (hb.cell hwl).trans x1, (hb.cell hbl).trans c0, (hb.cell hbl).trans c1, (hb.cell hbl).trans d0, (hb.cell hbl).trans d1⟩
        by_cases hT : Sp.aheadB (kd : Int) (z' (d * 2 + 1)) (kc : Int) (z' (c * 2 + 1)) = true
        · have hmin : ∀ i, 0 < i → i < n → (i - 1) / 2 = f → Sp.ah z' i d = false := fun i h0 hi hp => by
            have hi2 : i = c ∨ i = d := by omega
            rw [Sp.ahead_yes] at hT
            unfold Sp.ah; rw [Sp.ahead_no]
            rcases hi2 with rfl | rfl
            · rw [hzc, hzd]; omega
            · omega
          have HE := hide (And.intro hmin (And.intro hzd hkd))
          have HN : Hid ((d - 1) / 2 = f ∧ 0 < d) := hide (by omega)
          have HA1 := hide (show ∀ w', Calls Try.prog 34 #[.agg #[.int .i64 (kd : Int), .int .i64 (z' (d * 2 + 1))], .agg #[.int .i64 (kc : Int), .int .i64 (z' (c * 2 + 1))]] w' fun e w'' => e = .returned (.bool true) ∧ Below w'.heap.size w' w'' from fun w' => by have := ahead_any (kd : Int) (z' (d * 2 + 1)) (kc : Int) (z' (c * 2 + 1)) w'; rw [hT] at this; exact this)
          clear hT  hmin hzc hzd hc hd c0 c1 d0 d1 x0 x1 hdn hcn hkk hkk'
          obtain ⟨rc, hrc⟩ : ∃ rc, z' (c * 2 + 1) = rc := ⟨_, rfl⟩
          obtain ⟨rd, hrd⟩ : ∃ rd, z' (d * 2 + 1) = rd := ⟨_, rfl⟩
          rw [hrc, hrd] at HC HA1
          have HRC := hide hrc
          have HRD := hide hrd
          clear hrc hrd
          have hcI : (c : Int) < 300 := by omega
          have hdI : (d : Int) < 300 := by omega
          go_upto_region 3 with fail
          clear m0
          go_region_held3 (fun w' => w'.cell? ⟨b, 600, none⟩ = some (.int .i64 (n : Int)) ∧ w'.cell? ⟨b, c * 2, none⟩ = some (.int .i64 (kc : Int)) ∧ w'.cell? ⟨b, c * 2 + 1, none⟩ = some (.int .i64 rc) ∧ w'.cell? ⟨b, d * 2, none⟩ = some (.int .i64 (kd : Int)) ∧ w'.cell? ⟨b, d * 2 + 1, none⟩ = some (.int .i64 rd))
            (first
              | exact ⟨(unhide HC _ hb8).1, (unhide HC _ hb8).2.2.2⟩
              | exact ⟨(unhide HC _ hbr).1, (unhide HC _ hbr).2.2.2⟩)
            (first
              | (go_at_call 34
                 refine (unhide HA1 _).mono ?_
                 rintro e w8 ⟨rfl, hl8⟩
                 have hb8 : Below wr.heap.size wr w8 := hbr.trans hl8))
          all_goals
            have HG : Hid (∀ w', Below wr.heap.size wr w' → w'.cell? ⟨w.heap.size, 0, none⟩ = some (.int .i64 (k : Int)) ∧ w'.cell? ⟨w.heap.size, 1, none⟩ = some (.int .i64 r) ∧ w'.cell? ⟨b, d * 2, none⟩ = some (.int .i64 (kd : Int)) ∧ w'.cell? ⟨b, d * 2 + 1, none⟩ = some (.int .i64 rd)) := hide fun w' hb => ⟨(unhide HC _ hb).2.1, (unhide HC _ hb).2.2.1, (unhide HC _ hb).2.2.2.2.2⟩
            have hbW : Below wr.heap.size wr w8.drew := hb8.drew
            clear HC
            by_cases hR : Sp.aheadB (kd : Int) rd (k : Int) r = true
            · obtain ⟨g', rfl⟩ : ∃ g', gk = g' + 1 := ⟨gk - 1, by omega⟩
              have HA := hide (show ∀ w', Calls Try.prog 34 #[.agg #[.int .i64 (kd : Int), .int .i64 rd], .agg #[.int .i64 (k : Int), .int .i64 r]] w' fun e w'' => e = .returned (.bool true) ∧ Below w'.heap.size w' w'' from fun w' => by have := ahead_any (kd : Int) rd (k : Int) r w'; rw [hR] at this; exact this)
              have HR := hide hR
              clear hR
              go_upto_region 5 with fail
              go_region_held3 (fun w' => w'.cell? ⟨w.heap.size, 0, none⟩ = some (.int .i64 (k : Int)) ∧ w'.cell? ⟨w.heap.size, 1, none⟩ = some (.int .i64 r) ∧ w'.cell? ⟨b, d * 2, none⟩ = some (.int .i64 (kd : Int)) ∧ w'.cell? ⟨b, d * 2 + 1, none⟩ = some (.int .i64 rd))
                (first
                  | exact unhide HG _ hb9
                  | exact unhide HG _ hbW)
                (first
                  | (go_at_call 34
                     refine (unhide HA _).mono ?_
                     rintro e w9 ⟨rfl, hl9⟩
                     have hb9 : Below wr.heap.size wr w9 := hbW.trans (hl9.mono hbW.size)))
              all_goals
                obtain ⟨x0, x1, e0, e1⟩ := unhide HG _ hb9
                go_wp2_with fail
                refine (stand_any z' b f kd rd w9 ((unhide HI).2.1.below hb9) (by omega) (unhide HE).2.2).mono ?_
                rintro e w10 ⟨rfl, hbut9, hat9⟩
                have hN := ((unhide HI).2.2.1).sink (c := d) (kc := kd) (unhide HN).2 (by omega) (unhide HN).1 (unhide HE).2.1 (unhide HE).1
                rw [unhide HRD] at hN
                have HF : Hid (But b W1 w10 ∧ HpAt w10 b (Sp.stand z' f kd rd) ∧ Sp.HoI (Sp.stand z' f kd rd) M n d k r ∧ Sp.Up n z (Sp.stand z' f kd rd) ∧ (0 < d → Sp.aheadB (k : Int) r (Sp.stand z' f kd rd ((d - 1) / 2 * 2)) (Sp.stand z' f kd rd ((d - 1) / 2 * 2 + 1)) = false)) := hide ⟨((unhide HI).1.trans (But.of hb9)).trans hbut9, hat9, hN.1, (unhide HI).2.2.2.1.trans (Sp.Up.stand _ _ _ _ hfn), fun _ => by
                  have hR := unhide HR
                  rw [(unhide HN).1, Sp.stand_key _ _ _ _ _ (by omega), Sp.stand_rank _ _ _ _ _ (by omega), if_pos rfl, if_pos rfl, Sp.ahead_no]
                  rw [Sp.ahead_yes] at hR
                  omega⟩
                clear hbut9 hat9 hN HI HG x0 x1 e0 e1
                go_wp2
                go_roundg g'
                case rel => exact ⟨d, _, by have := unhide HN; omega, by omega, rfl, HF⟩
                case measure => omega
            · have hR' : Sp.aheadB (kd : Int) rd (k : Int) r = false := by simpa using hR
              have HA := hide (show ∀ w', Calls Try.prog 34 #[.agg #[.int .i64 (kd : Int), .int .i64 rd], .agg #[.int .i64 (k : Int), .int .i64 r]] w' fun e w'' => e = .returned (.bool false) ∧ Below w'.heap.size w' w'' from fun w' => by have := ahead_any (kd : Int) rd (k : Int) r w'; rw [hR'] at this; exact this)
              have HR := hide hR'
              clear hR hR'
              go_upto_region 5 with fail
              go_region_held3 (fun w' => w'.cell? ⟨w.heap.size, 0, none⟩ = some (.int .i64 (k : Int)) ∧ w'.cell? ⟨w.heap.size, 1, none⟩ = some (.int .i64 r) ∧ w'.cell? ⟨b, d * 2, none⟩ = some (.int .i64 (kd : Int)) ∧ w'.cell? ⟨b, d * 2 + 1, none⟩ = some (.int .i64 rd))
                (first
                  | exact unhide HG _ hb9
                  | exact unhide HG _ hbW)
                (first
                  | (go_at_call 34
                     refine (unhide HA _).mono ?_
                     rintro e w9 ⟨rfl, hl9⟩
                     have hb9 : Below wr.heap.size wr w9 := hbW.trans (hl9.mono hbW.size)))
              all_goals
                have HF : Hid (But b w w9 ∧ HpAt w9 b z' ∧ Sp.HoI z' M n f k r ∧ Sp.Up n z z' ∧ (0 < f → Sp.aheadB (k : Int) r (z' ((f - 1) / 2 * 2)) (z' ((f - 1) / 2 * 2 + 1)) = false)) := hide ⟨(unhide HBW).trans (But.of hb9), (unhide HI).2.1.below hb9, (unhide HI).2.2⟩
                clear HG HI
                go_wp2
                rw [unhide HP]
                exact ⟨f, z', rfl, (unhide HF).1, (unhide HF).2.1, (unhide HF).2.2.1, (unhide HF).2.2.2.1, (unhide HF).2.2.2.2, fun i h0 hi hp => by
                  have h1 := (unhide HE).1 i h0 hi hp
                  have h2 := unhide HR
                  unfold Sp.ah at h1
                  rw [(unhide HE).2.1, unhide HRD] at h1
                  rw [Sp.ahead_no] at *
                  omega⟩
        · have hT' : Sp.aheadB (kd : Int) (z' (d * 2 + 1)) (kc : Int) (z' (c * 2 + 1)) = false := by simpa using hT
          have hmin : ∀ i, 0 < i → i < n → (i - 1) / 2 = f → Sp.ah z' i c = false := fun i h0 hi hp => by
            have hi2 : i = c ∨ i = d := by omega
            unfold Sp.ah
            rcases hi2 with rfl | rfl
            · rw [Sp.ahead_no]; omega
            · rw [hzc, hzd]; exact hT'
          have HE := hide (And.intro hmin (And.intro hzc hkc))
          have HN : Hid ((c - 1) / 2 = f ∧ 0 < c) := hide (by omega)
          have HA1 := hide (show ∀ w', Calls Try.prog 34 #[.agg #[.int .i64 (kd : Int), .int .i64 (z' (d * 2 + 1))], .agg #[.int .i64 (kc : Int), .int .i64 (z' (c * 2 + 1))]] w' fun e w'' => e = .returned (.bool false) ∧ Below w'.heap.size w' w'' from fun w' => by have := ahead_any (kd : Int) (z' (d * 2 + 1)) (kc : Int) (z' (c * 2 + 1)) w'; rw [hT'] at this; exact this)
          clear hT hT' hmin hzc hzd hc hd c0 c1 d0 d1 x0 x1 hdn hcn hkk hkk'
          obtain ⟨rc, hrc⟩ : ∃ rc, z' (c * 2 + 1) = rc := ⟨_, rfl⟩
          obtain ⟨rd, hrd⟩ : ∃ rd, z' (d * 2 + 1) = rd := ⟨_, rfl⟩
          rw [hrc, hrd] at HC HA1
          have HRC := hide hrc
          have HRD := hide hrd
          clear hrc hrd
          have hcI : (c : Int) < 300 := by omega
          have hdI : (d : Int) < 300 := by omega
          go_upto_region 3 with fail
          clear m0
          go_region_held3 (fun w' => w'.cell? ⟨b, 600, none⟩ = some (.int .i64 (n : Int)) ∧ w'.cell? ⟨b, c * 2, none⟩ = some (.int .i64 (kc : Int)) ∧ w'.cell? ⟨b, c * 2 + 1, none⟩ = some (.int .i64 rc) ∧ w'.cell? ⟨b, d * 2, none⟩ = some (.int .i64 (kd : Int)) ∧ w'.cell? ⟨b, d * 2 + 1, none⟩ = some (.int .i64 rd))
            (first
              | exact ⟨(unhide HC _ hb8).1, (unhide HC _ hb8).2.2.2⟩
              | exact ⟨(unhide HC _ hbr).1, (unhide HC _ hbr).2.2.2⟩)
            (first
              | (go_at_call 34
                 refine (unhide HA1 _).mono ?_
                 rintro e w8 ⟨rfl, hl8⟩
                 have hb8 : Below wr.heap.size wr w8 := hbr.trans hl8))
          all_goals
            have HG : Hid (∀ w', Below wr.heap.size wr w' → w'.cell? ⟨w.heap.size, 0, none⟩ = some (.int .i64 (k : Int)) ∧ w'.cell? ⟨w.heap.size, 1, none⟩ = some (.int .i64 r) ∧ w'.cell? ⟨b, c * 2, none⟩ = some (.int .i64 (kc : Int)) ∧ w'.cell? ⟨b, c * 2 + 1, none⟩ = some (.int .i64 rc)) := hide fun w' hb => ⟨(unhide HC _ hb).2.1, (unhide HC _ hb).2.2.1, (unhide HC _ hb).2.2.2.1, (unhide HC _ hb).2.2.2.2.1⟩
            have hbW : Below wr.heap.size wr w8.drew := hb8.drew
            clear HC
            by_cases hR : Sp.aheadB (kc : Int) rc (k : Int) r = true
            · obtain ⟨g', rfl⟩ : ∃ g', gk = g' + 1 := ⟨gk - 1, by omega⟩
              have HA := hide (show ∀ w', Calls Try.prog 34 #[.agg #[.int .i64 (kc : Int), .int .i64 rc], .agg #[.int .i64 (k : Int), .int .i64 r]] w' fun e w'' => e = .returned (.bool true) ∧ Below w'.heap.size w' w'' from fun w' => by have := ahead_any (kc : Int) rc (k : Int) r w'; rw [hR] at this; exact this)
              have HR := hide hR
              clear hR
              go_upto_region 5 with fail
              go_region_held3 (fun w' => w'.cell? ⟨w.heap.size, 0, none⟩ = some (.int .i64 (k : Int)) ∧ w'.cell? ⟨w.heap.size, 1, none⟩ = some (.int .i64 r) ∧ w'.cell? ⟨b, c * 2, none⟩ = some (.int .i64 (kc : Int)) ∧ w'.cell? ⟨b, c * 2 + 1, none⟩ = some (.int .i64 rc))
                (first
                  | exact unhide HG _ hb9
                  | exact unhide HG _ hbW)
                (first
                  | (go_at_call 34
                     refine (unhide HA _).mono ?_
                     rintro e w9 ⟨rfl, hl9⟩
                     have hb9 : Below wr.heap.size wr w9 := hbW.trans (hl9.mono hbW.size)))
              all_goals
                obtain ⟨x0, x1, e0, e1⟩ := unhide HG _ hb9
                go_wp2_with fail
                refine (stand_any z' b f kc rc w9 ((unhide HI).2.1.below hb9) (by omega) (unhide HE).2.2).mono ?_
                rintro e w10 ⟨rfl, hbut9, hat9⟩
                have hN := ((unhide HI).2.2.1).sink (c := c) (kc := kc) (unhide HN).2 (by omega) (unhide HN).1 (unhide HE).2.1 (unhide HE).1
                rw [unhide HRC] at hN
                have HF : Hid (But b W1 w10 ∧ HpAt w10 b (Sp.stand z' f kc rc) ∧ Sp.HoI (Sp.stand z' f kc rc) M n c k r ∧ Sp.Up n z (Sp.stand z' f kc rc) ∧ (0 < c → Sp.aheadB (k : Int) r (Sp.stand z' f kc rc ((c - 1) / 2 * 2)) (Sp.stand z' f kc rc ((c - 1) / 2 * 2 + 1)) = false)) := hide ⟨((unhide HI).1.trans (But.of hb9)).trans hbut9, hat9, hN.1, (unhide HI).2.2.2.1.trans (Sp.Up.stand _ _ _ _ hfn), fun _ => by
                  have hR := unhide HR
                  rw [(unhide HN).1, Sp.stand_key _ _ _ _ _ (by omega), Sp.stand_rank _ _ _ _ _ (by omega), if_pos rfl, if_pos rfl, Sp.ahead_no]
                  rw [Sp.ahead_yes] at hR
                  omega⟩
                clear hbut9 hat9 hN HI HG x0 x1 e0 e1
                go_wp2
                go_roundg g'
                case rel => exact ⟨c, _, by have := unhide HN; omega, by omega, rfl, HF⟩
                case measure => omega
            · have hR' : Sp.aheadB (kc : Int) rc (k : Int) r = false := by simpa using hR
              have HA := hide (show ∀ w', Calls Try.prog 34 #[.agg #[.int .i64 (kc : Int), .int .i64 rc], .agg #[.int .i64 (k : Int), .int .i64 r]] w' fun e w'' => e = .returned (.bool false) ∧ Below w'.heap.size w' w'' from fun w' => by have := ahead_any (kc : Int) rc (k : Int) r w'; rw [hR'] at this; exact this)
              have HR := hide hR'
              clear hR hR'
              go_upto_region 5 with fail
              go_region_held3 (fun w' => w'.cell? ⟨w.heap.size, 0, none⟩ = some (.int .i64 (k : Int)) ∧ w'.cell? ⟨w.heap.size, 1, none⟩ = some (.int .i64 r) ∧ w'.cell? ⟨b, c * 2, none⟩ = some (.int .i64 (kc : Int)) ∧ w'.cell? ⟨b, c * 2 + 1, none⟩ = some (.int .i64 rc))
                (first
                  | exact unhide HG _ hb9
                  | exact unhide HG _ hbW)
                (first
                  | (go_at_call 34
                     refine (unhide HA _).mono ?_
                     rintro e w9 ⟨rfl, hl9⟩
                     have hb9 : Below wr.heap.size wr w9 := hbW.trans (hl9.mono hbW.size)))
              all_goals
                have HF : Hid (But b w w9 ∧ HpAt w9 b z' ∧ Sp.HoI z' M n f k r ∧ Sp.Up n z z' ∧ (0 < f → Sp.aheadB (k : Int) r (z' ((f - 1) / 2 * 2)) (z' ((f - 1) / 2 * 2 + 1)) = false)) := hide ⟨(unhide HBW).trans (But.of hb9), (unhide HI).2.1.below hb9, (unhide HI).2.2⟩
                clear HG HI
                go_wp2
                rw [unhide HP]
                exact ⟨f, z', rfl, (unhide HF).1, (unhide HF).2.1, (unhide HF).2.2.1, (unhide HF).2.2.2.1, (unhide HF).2.2.2.2, fun i h0 hi hp => by
                  have h1 := (unhide HE).1 i h0 hi hp
                  have h2 := unhide HR
                  unfold Sp.ah at h1
                  rw [(unhide HE).2.1, unhide HRC] at h1
                  rw [Sp.ahead_no] at *
                  omega⟩
end Go.Proofs.Ytfcknfodejnhnaa


