/- What the proof needs, part 1. -/
import Derived.Lib.Strings
import Derived.Lib.Index
import Derived.Lib.CutLaws
import Derived.Lib.ItoaLen
import Derived.Lib.Split
import Derived.Lib.SplitLaws
import Derived.Lib.CountLaws
import Derived.Test.YtoegjnolccabjabProg
import Derived.WalkKit
import Derived.WalkSpells
import Derived.WalkLawsBesides
import Derived.BigQuiet
import Derived.Deep.DeepFit
import Derived.Outline
import Derived.Deep.AppendLies
import Derived.Deep.QuietTactic
import Derived.BigRegion
import Derived.Maps.AppendAt
import Derived.Laws.OwnMore
import Derived.Deep.RegionHeld3
import Derived.Deep.DeepCutAuto
import Derived.Lib.Join
/- What the program's functions of package net compute, as plain functions on lists of bytes and of integers. Nothing of the translation is named here. -/
namespace Go.Proofs.Ytoegjnolccabjab.Sp

/-- Is a byte a digit? -/
def isDig (c : UInt8) : Bool := decide (48 ≤ (c.toNat : Int)) && decide ((c.toNat : Int) ≤ 57)
/-- One digit more, held at 10^15. -/
def step (x : Int) (c : UInt8) : Int := min (10 * x + ((c.toNat : Int) - 48)) 1000000000000000
def readTo (l : List UInt8) : Int := l.foldl step 0
/-- A word that is a number (its amount held at 10^15). -/
def number (s : List UInt8) : Option Int :=
  if (Lib.trimPrefix s [45]) = [] then none
  else if (Lib.trimPrefix s [45]).head? = some 48 ∧ s ≠ [48] then none
  else if (Lib.trimPrefix s [45]).all isDig then some (if Lib.hasPrefix s [45] then - readTo (Lib.trimPrefix s [45]) else readTo (Lib.trimPrefix s [45]))
  else none

/-- A text parted by a byte. -/
def partsBy (z : UInt8) : List UInt8 → List (List UInt8)
  | [] => [[]]
  | c :: r => if c = z then [] :: partsBy z r else match partsBy z r with
    | [] => [[c]]
    | p :: q => (c :: p) :: q
def parts (l : List UInt8) : List (List UInt8) := partsBy 32 l
def nums : List (List UInt8) → Option (List Int)
  | [] => some []
  | p :: r => (number p).bind fun x => (nums r).map (x :: ·)
/-- Numbers, one blank between; of no bytes none. -/
def numbers (s : List UInt8) : Option (List Int) := if s = [] then some [] else nums (parts s)

def great (x : Int) : Bool := x == 1000000000000000 || x == -1000000000000000
/-- net.Row. -/
def row (s : List UInt8) : Option (List Int) := (numbers s).bind fun l => if l.any great then none else some l
/-- A net: how many vertices; where each dart begins; the next one about; what it holds. -/
structure Net where
  n : Int
  tail : List Int
  next : List Int
  cap : List Int
def zero : Net := ⟨0, [], [], []⟩
abbrev Line := List UInt8 × List Int
def head (q : Net) (l : Line) : Net := { q with n := l.2.getD 0 0 }
def edge (q : Net) (l : Line) : Net := ⟨q.n, q.tail ++ [l.2.getD 0 0, l.2.getD 1 0], q.next ++ [-1, -1], q.cap ++ [l.2.getD 2 0, l.2.getD 3 0]⟩
/-- The next darts behind k of the turn's numbers; none: a dart had one. -/
def turnTo (next nums : List Int) : Nat → Option (List Int)
  | 0 => some next
  | k + 1 => (turnTo next nums k).bind fun nx => if nx.getD (nums.getD k 0).toNat 0 = -1 then some (nx.set (nums.getD k 0).toNat (nums.getD ((k + 1) % nums.length) 0)) else none
def countOf (l : List Int) (x : Int) : Int := (l.filter fun y => decide (y = x)).length
def turn (q : Net) (l : Line) : Net := { q with next := (turnTo q.next l.2 l.2.length).getD [] }
end Go.Proofs.Ytoegjnolccabjab.Sp


/- Small words that the walks share. -/
namespace Go.Proofs.Ytoegjnolccabjab
open Go.RowKit

theorem hide {p : Prop} (h : p) : Hid p := h
theorem unhide {p : Prop} (h : Hid p) : p := h
end Go.Proofs.Ytoegjnolccabjab


/- Shortest ways: what a row of distances is; two such rows are one; passes over the arcs come to it (P601). -/
namespace Go.Proofs.Ytoegjnolccabjab
open Go Go.RowKit

/-- How many of the first n places are so. -/
def Sp.ct (p : Nat → Bool) (n : Nat) : Nat := ((List.range n).filter p).length
theorem Sp.ct_succ (p : Nat → Bool) (n : Nat) : Sp.ct p (n + 1) = Sp.ct p n + if p n then 1 else 0 := by
  unfold Sp.ct
  rw [List.range_succ, List.filter_append, List.length_append]
  by_cases h : p n = true
  · rw [if_pos h]; simp [h]
  · rw [if_neg h]; simp [h]
theorem Sp.ct_le (p : Nat → Bool) (n : Nat) : Sp.ct p n ≤ n := by
  have := List.length_filter_le p (List.range n)
  rw [List.length_range] at this
  exact this
structure Sp.Arc where
  f : Nat
  t : Nat
  l : Int
/-- In m arcs from s to v, x long. -/
def Sp.Wk (L : List Sp.Arc) (s : Nat) : Nat → Nat → Int → Prop
  | 0, v, x => v = s ∧ x = 0
  | m + 1, v, x => ∃ a ∈ L, a.t = v ∧ Sp.Wk L s m a.f (x - a.l)
/-- How long the shortest ways are (far: there is none). -/
structure Sp.Short (far : Int) (L : List Sp.Arc) (s n : Nat) (D : Nat → Int) : Prop where
  src : D s = 0
  arc : ∀ a ∈ L, D a.f ≠ far → D a.t ≠ far ∧ D a.t ≤ D a.f + a.l
  att : ∀ v, v < n → D v ≠ far → ∃ m, Sp.Wk L s m v (D v)
theorem Sp.Short.low {far : Int} {L : List Sp.Arc} {s n : Nat} {D : Nat → Int} (h : Sp.Short far L s n D) (hf : far ≠ 0) : ∀ m v x, Sp.Wk L s m v x → D v ≠ far ∧ D v ≤ x
  | 0, v, x, hw => by
    obtain ⟨rfl, rfl⟩ := hw
    rw [h.src]
    exact ⟨fun e => hf e.symm, Int.le_refl _⟩
  | m + 1, v, x, hw => by
    obtain ⟨a, ha, rfl, hw⟩ := hw
    obtain ⟨h1, h2⟩ := Sp.Short.low h hf m a.f _ hw
    obtain ⟨h3, h4⟩ := h.arc a ha h1
    exact ⟨h3, by omega⟩
theorem Sp.Short.uniq {far : Int} {L : List Sp.Arc} {s n : Nat} {D D' : Nat → Int} (h : Sp.Short far L s n D) (h' : Sp.Short far L s n D') (hf : far ≠ 0) {v : Nat} (hv : v < n) : D v = D' v := by
  by_cases h1 : D v = far
  · by_cases h2 : D' v = far
    · rw [h1, h2]
    · obtain ⟨m, hm⟩ := h'.att v hv h2
      exact absurd h1 (h.low hf m v _ hm).1
  · obtain ⟨m, hm⟩ := h.att v hv h1
    obtain ⟨h2, h3⟩ := h'.low hf m v _ hm
    obtain ⟨m', hm'⟩ := h'.att v hv h2
    have := (h.low hf m' v _ hm').2
    omega
/-- An arc is tried. -/
def Sp.rx (far : Int) (d : Nat → Int) (a : Sp.Arc) : Nat → Int := fun v => if v = a.t ∧ d a.f ≠ far ∧ d a.f + a.l < d a.t then d a.f + a.l else d v
def Sp.rxs (far : Int) : List Sp.Arc → (Nat → Int) → Nat → Int
  | [], d => d
  | a :: L, d => Sp.rxs far L (Sp.rx far d a)
/-- What stays along passes: each length is some way's; the root's is 0 at most. -/
structure Sp.Att (far : Int) (L : List Sp.Arc) (s n : Nat) (d : Nat → Int) : Prop where
  src : d s ≠ far ∧ d s ≤ 0
  att : ∀ v, v < n → d v ≠ far → ∃ m, Sp.Wk L s m v (d v)
theorem Sp.Att.rx {far : Int} {L : List Sp.Arc} {s n : Nat} {d : Nat → Int} (h : Sp.Att far L s n d) (hf : 0 < far) {a : Sp.Arc} (ha : a ∈ L) (hb : a.f < n) : Sp.Att far L s n (Sp.rx far d a) := by
  refine ⟨?_, fun v hv hne => ?_⟩
  · unfold Sp.rx
    split
    · rename_i hc
      obtain ⟨h1, h2, h3⟩ := hc
      have := h.src
      rw [← h1] at h3
      exact ⟨by omega, by omega⟩
    · exact h.src
  · unfold Sp.rx at hne ⊢
    split
    · rename_i hc
      obtain ⟨m, hm⟩ := h.att a.f hb hc.2.1
      exact ⟨m + 1, a, ha, hc.1.symm, by rw [Int.add_sub_cancel]; exact hm⟩
    · rename_i hc
      rw [if_neg hc] at hne
      exact h.att v hv hne
end Go.Proofs.Ytoegjnolccabjab


/- The walks of net.number and its kin. -/
namespace Go.Proofs.Ytoegjnolccabjab
open Go.RowKit

theorem tmod_cases (a n : Int) (hn : 0 < n) : (a.tmod n < 0 ∧ a.tmod n + n = a % n) ∨ (0 ≤ a.tmod n ∧ a.tmod n = a % n) := by
  have h0 : 0 ≤ a % n := Int.emod_nonneg a (by omega)
  have h1 : a % n < n := Int.emod_lt_of_pos a hn
  have e := Int.tmod_eq_emod (a := a) (b := n)
  split at e
  · right; omega
  · left
    have : ((n.natAbs : Nat) : Int) = n := by omega
    omega
theorem ret_int {k : IntKind} {a b : Int} (h : a = b) : Ending.returned (.int k a) = .returned (.int k b) := by rw [h]
end Go.Proofs.Ytoegjnolccabjab


/- The walk of net.numbers. -/
namespace Go.Proofs.Ytoegjnolccabjab
open Go.RowKit
theorem info3 : (Try.prog.info? 3).map (fun i => (i.zero, i.size, i.bytes)) = some (some (.int .i64 0), 1, 8) := by kernel_rfl
/-- A slice of integers that the call has made. -/
abbrev OwnI (w : World) (base : Nat) (v : Value) (l : List Int) : Prop := w.ownsRow base 3 1 v l.length (l.map (Value.int .i64))
theorem below_dn {B : Nat} {a w : World} (h : Below B a w) (n : Nat) : Below B a (w.drewN n) := h.trans ⟨rfl, rfl, rfl, Nat.le_refl _, fun _ _ => rfl⟩
theorem own_dn {w w1 : World} {B : Nat} {v : Value} {l : List Int} (h : OwnI w B v l) (hd : ∃ n, w1 = w.drewN n) : OwnI w1 B v l := by obtain ⟨n, rfl⟩ := hd; exact h
end Go.Proofs.Ytoegjnolccabjab


/- The walk of net.Row; slices of integers that are read. -/
namespace Go.Proofs.Ytoegjnolccabjab
open Go.RowKit

/-- A slice of integers, wherever it lies. -/
def Ints (w : World) (v : Value) (l : List Int) : Prop :=
  ∃ (a : Option Addr) (c : Nat), v = .slice a l.length c ∧ l.length ≤ c ∧ c ≤ maxLen ∧ ∀ k, (h : k < l.length) → ∃ b o, a = some ⟨b, o, none⟩ ∧ b < w.heap.size ∧ w.cell? ⟨b, o + k, none⟩ = some (.int .i64 l[k])
theorem Ints.below {w w' : World} {v : Value} {l : List Int} (h : Ints w v l) (hb : Below w.heap.size w w') : Ints w' v l := by
  obtain ⟨a, c, hv, hc, hm, hk⟩ := h
  refine ⟨a, c, hv, hc, hm, fun k h => ?_⟩
  obtain ⟨b, o, ha, hlt, hcell⟩ := hk k h
  exact ⟨b, o, ha, Nat.lt_of_lt_of_le hlt hb.size, (hb.cell (by exact hlt)).trans hcell⟩
theorem OwnI.ints {w : World} {B : Nat} {v : Value} {l : List Int} (h : OwnI w B v l) : Ints w v l := by
  have h' := h
  obtain ⟨_, hv | ⟨g, cap, cur, hv, hb, hg, hc, hm, hs, ht⟩⟩ := h
  · refine ⟨none, 0, by rw [hv.1, hv.2], by omega, by simp [maxLen], fun k hk => by omega⟩
  · refine ⟨some ⟨g, 0, none⟩, cap, hv, hc, hm, fun k hk => ⟨g, 0, rfl, (h'.lt g (by rw [hv]; rfl)).2, ?_⟩⟩
    have := h'.cells (g := g) (by rw [hv]; rfl) k (.int .i64 l[k]) (by simp [hk])
    have e : (⟨g, 0, none⟩ : Addr).add k = ⟨g, 0 + k, none⟩ := by unfold Addr.add; split <;> simp_all
    rw [← e]; exact this

end Go.Proofs.Ytoegjnolccabjab


/- The walk of net.RowText. -/
namespace Go.Proofs.Ytoegjnolccabjab
open Go.RowKit

theorem own_below {w w' : World} {base e size n : Nat} {v : Value} {xs : List Value} (h : w.ownsRow base e size v n xs) (hb : Below w.heap.size w w') : w'.ownsRow base e size v n xs := by
  have hlt := h.lt
  obtain ⟨hx, hv | ⟨g, cap, cur, hv, hg, hh, r⟩⟩ := h
  · exact ⟨hx, .inl hv⟩
  · exact ⟨hx, .inr ⟨g, cap, cur, hv, hg, (hb.block g (hlt g (by rw [hv]; rfl)).2).trans hh, r⟩⟩
theorem heap_lt {w : World} {b : Nat} {o : Obj} (h : w.heap[b]? = some o) : b < w.heap.size := by
  rcases Nat.lt_or_ge b w.heap.size with h' | h'
  · exact h'
  · rw [Array.getElem?_eq_none h'] at h; cases h
end Go.Proofs.Ytoegjnolccabjab


/- The walk of net.lineAt. -/
namespace Go.Proofs.Ytoegjnolccabjab
open Go.RowKit

/-- A slice of texts, wherever it lies. -/
def Strs (w : World) (v : Value) (l : List ByteArray) : Prop :=
  ∃ (a : Option Addr) (c : Nat), v = .slice a l.length c ∧ l.length ≤ c ∧ c ≤ maxLen ∧ ∀ k, (h : k < l.length) → ∃ b o, a = some ⟨b, o, none⟩ ∧ b < w.heap.size ∧ w.cell? ⟨b, o + k, none⟩ = some (.string l[k])
theorem Strs.below {w w' : World} {v : Value} {l : List ByteArray} (h : Strs w v l) (hb : Below w.heap.size w w') : Strs w' v l := by
  obtain ⟨a, c, hv, hc, hm, hk⟩ := h
  refine ⟨a, c, hv, hc, hm, fun k h => ?_⟩
  obtain ⟨b, o, ha, hlt, hcell⟩ := hk k h
  exact ⟨b, o, ha, Nat.lt_of_lt_of_le hlt hb.size, (hb.cell (by exact hlt)).trans hcell⟩
end Go.Proofs.Ytoegjnolccabjab


/- The walks of net.countOf and of the draft's head. -/
namespace Go.Proofs.Ytoegjnolccabjab
open Go.RowKit

/-- Below base all but block p is as it was. -/
structure Keep (p base : Nat) (w w' : World) : Prop where
  os : w'.os = w.os
  tape : w'.tape = w.tape
  output : w'.output = w.output
  size : w.heap.size ≤ w'.heap.size
  block : ∀ k, k < base → k ≠ p → w'.heap[k]? = w.heap[k]?
theorem Keep.refl (p base : Nat) (w : World) : Keep p base w w := ⟨rfl, rfl, rfl, Nat.le_refl _, fun _ _ _ => rfl⟩
theorem Keep.trans {p base : Nat} {a b c : World} (h : Keep p base a b) (k : Keep p base b c) : Keep p base a c :=
  ⟨k.os.trans h.os, k.tape.trans h.tape, k.output.trans h.output, Nat.le_trans h.size k.size, fun j hj hp => (k.block j hj hp).trans (h.block j hj hp)⟩
theorem Keep.of {p base : Nat} {a b : World} (h : Below base a b) : Keep p base a b := ⟨h.os, h.tape, h.output, h.size, fun k hk _ => h.block k hk⟩
theorem Keep.below {p base : Nat} {a b : World} (h : Keep p base a b) (hp : p ≤ base) : Below p a b := ⟨h.os, h.tape, h.output, h.size, fun k hk => h.block k (by omega) (by omega)⟩
theorem Keep.alloc {p base : Nat} {a w : World} (h : Keep p base a w) (hB : base ≤ w.heap.size) (o : Obj) : Keep p base a (w.alloc o) :=
  h.trans (.of ((Below.refl base w).alloc hB o))
theorem Keep.drew {p base : Nat} {a w : World} (h : Keep p base a w) : Keep p base a w.drew := h.trans (.of (Below.refl base w).drew)
theorem Keep.setCell {p base : Nat} {a w : World} (h : Keep p base a w) {q : Addr} (hq : q.block = p ∨ base ≤ q.block) (u : Value) : Keep p base a (w.setCell q u) :=
  h.trans ⟨rfl, rfl, rfl, by simp, fun k hk hp => Below.heap_setCell w q u k (by rcases hq with hq | hq <;> omega)⟩
theorem Keep.grown {p base : Nat} {a w w' : World} {row : Option Nat} (h : Keep p base a w) (hg : w.grownBy w' row) (hB : base ≤ w.heap.size) (hr : ∀ k, row = some k → base ≤ k) : Keep p base a w' :=
  h.trans (.of ((Below.refl base w).grown hg hB hr))

theorem own_store {w : World} {p base : Nat} {v : Value} {l : List Int} (h : OwnI w base v l) (hp : p < base) (i : Nat) (u : Value) : OwnI (w.setCell ⟨p, i, none⟩ u) base v l := ownsRow_setCell_below h (a := ⟨p, i, none⟩) hp u
end Go.Proofs.Ytoegjnolccabjab


/- The walk of the draft's edge. -/
namespace Go.Proofs.Ytoegjnolccabjab
open Go.RowKit

theorem obj_cells {w : World} {p : Nat} {a b c d : Value} {t : TypeId} (h : w.heap[p]? = some (.cells #[a, b, c, d] t (0, 0))) :
    w.cell? ⟨p, 0, none⟩ = some a ∧ w.cell? ⟨p, 1, none⟩ = some b ∧ w.cell? ⟨p, 2, none⟩ = some c ∧ w.cell? ⟨p, 3, none⟩ = some d ∧
      w.frozen? ⟨p, 0, none⟩ = false ∧ w.frozen? ⟨p, 1, none⟩ = false ∧ w.frozen? ⟨p, 2, none⟩ = false ∧ w.frozen? ⟨p, 3, none⟩ = false := by
  simp [World.cell?, World.frozen?, h]
theorem Ints.at {w : World} {v : Value} {l : List Int} (h : Ints w v l) (hl : 0 < l.length) :
    ∃ b o c, v = .slice (some ⟨b, o, none⟩) l.length c ∧ l.length ≤ c ∧ c ≤ maxLen ∧ b < w.heap.size ∧ ∀ k, (hk : k < l.length) → w.cell? ⟨b, o + k, none⟩ = some (.int .i64 l[k]) := by
  obtain ⟨a, c, rfl, hc, hm, hcell⟩ := h
  obtain ⟨b, o, rfl, hb, _⟩ := hcell 0 hl
  refine ⟨b, o, c, rfl, hc, hm, hb, fun k hk => ?_⟩
  obtain ⟨b', o', e, _, h'⟩ := hcell k hk
  injection e with e
  injection e with e1 e2
  subst e1 e2
  exact h'
theorem Keep.drewN {p base : Nat} {a w : World} (h : Keep p base a w) (n : Nat) : Keep p base a (w.drewN n) := h.trans (.of (below_dn (Below.refl base w) n))
/-- The four numbers of an edge's line. -/
theorem four {N : List Int} (h : N.length = 4) : ∃ a b c d, N = [a, b, c, d] := by
  match N, h with
  | [a, b, c, d], _ => exact ⟨a, b, c, d, rfl⟩
end Go.Proofs.Ytoegjnolccabjab


/- The walk of the draft's turn. -/
namespace Go.Proofs.Ytoegjnolccabjab
open Go.RowKit

/-- All blocks but one are as they were. -/
structure ButRow (g : Nat) (w w' : World) : Prop where
  os : w'.os = w.os
  tape : w'.tape = w.tape
  output : w'.output = w.output
  size : w'.heap.size = w.heap.size
  block : ∀ k, k ≠ g → w'.heap[k]? = w.heap[k]?
theorem ButRow.refl (g : Nat) (w : World) : ButRow g w w := ⟨rfl, rfl, rfl, rfl, fun _ _ => rfl⟩
theorem ButRow.cell {g : Nat} {w w' : World} (h : ButRow g w w') {a : Addr} (ha : a.block ≠ g) : w'.cell? a = w.cell? a := World.cell?_of_block (h.block _ ha)
theorem ButRow.keep {g p base : Nat} {w w' : World} (h : ButRow g w w') (hg : base ≤ g) : Keep p base w w' := ⟨h.os, h.tape, h.output, by rw [h.size]; exact Nat.le_refl _, fun k hk _ => h.block k (by omega)⟩
theorem own_frozen {w : World} {base g n c : Nat} {l : List Int} (h : OwnI w base (.slice (some ⟨g, 0, none⟩) n c) l) (j : Nat) : w.frozen? ⟨g, j, none⟩ = false := by
  obtain ⟨_, hv | ⟨g', cap, cur, hv, hb, hg, _⟩⟩ := h
  · simp at hv
  · injection hv with hv _ _
    injection hv with hv
    injection hv with hv
    subst hv
    simp [World.frozen?, hg]
theorem own_cell {w : World} {base g n c : Nat} {l : List Int} (h : OwnI w base (.slice (some ⟨g, 0, none⟩) n c) l) (j : Nat) (hj : j < l.length) : w.cell? ⟨g, j, none⟩ = some (.int .i64 l[j]) := by
  have := h.cells (g := g) rfl j (.int .i64 l[j]) (by simp [hj])
  have e : (⟨g, 0, none⟩ : Addr).add j = ⟨g, j, none⟩ := by unfold Addr.add; split <;> simp_all
  rw [← e]; exact this
theorem own_setCell {w : World} {base g n c : Nat} {l : List Int} (h : OwnI w base (.slice (some ⟨g, 0, none⟩) n c) l) (j : Nat) (y : Int) : OwnI (w.setCell ⟨g, j, none⟩ (.int .i64 y)) base (.slice (some ⟨g, 0, none⟩) n c) (l.set j y) := by
  obtain ⟨hx, hv | ⟨g', cap, cur, hv, hb, hg, hc, hm, hs, ht⟩⟩ := h
  · simp at hv
  · have hgg : g' = g := by
      injection hv with hv _ _
      injection hv with hv
      injection hv with hv
      exact hv.symm
    subst hgg
    refine ⟨by simp, .inr ⟨g', cap, cur.setIfInBounds j (.int .i64 y), by simpa using hv, hb, heap_setCell_same w g' j _ _ _ hg, by simpa using hc, hm, by simpa using hs, ?_⟩⟩
    rw [List.length_set, Array.toList_setIfInBounds, List.take_set, ht, List.map_set]
theorem ButRow.setCell {g : Nat} {w w' : World} (h : ButRow g w w') (j : Nat) (u : Value) : ButRow g w (w'.setCell ⟨g, j, none⟩ u) :=
  ⟨h.os, h.tape, h.output, by rw [World.size_setCell]; exact h.size, fun k hk => (heap_setCell_other w' _ k _ (by exact hk)).trans (h.block k hk)⟩
theorem ButRow.drew {g : Nat} {w w' : World} (h : ButRow g w w') : ButRow g w w'.drew := ⟨h.os, h.tape, h.output, h.size, h.block⟩

end Go.Proofs.Ytoegjnolccabjab


/- The walk of net.Parse. -/
namespace Go.Proofs.Ytoegjnolccabjab
open Go Go.RowKit

/-- A net's value: its lists in slices of the call's own, apart from one another. -/
structure NetV (w : World) (B : Nat) (v : Value) (q : Sp.Net) (tv nv cv : Value) : Prop where
  val : v = .agg #[.int .i64 q.n, tv, nv, cv]
  tail : OwnI w B tv q.tail
  next : OwnI w B nv q.next
  cap : OwnI w B cv q.cap
  tn : tv.ownBlock = none ∨ tv.ownBlock ≠ nv.ownBlock
  tc : tv.ownBlock = none ∨ tv.ownBlock ≠ cv.ownBlock
  nc : nv.ownBlock = none ∨ nv.ownBlock ≠ cv.ownBlock
def lenOf : Value → Nat | .slice _ n _ => n | _ => 0
end Go.Proofs.Ytoegjnolccabjab


/- The walks of the reference's has, Same and of the law's Cap. -/
namespace Go.Proofs.Ytoegjnolccabjab
open Go Go.RowKit

/-- What a dart holds, of a number. -/
def Sp.capOf (n : Int) : Int :=
  if n % 1099511627776 % 7 = 0 then 0 else if n % 1099511627776 % 7 = 1 then 2147483648 - n % 1099511627776 / 7 % 3
  else if n % 1099511627776 % 7 = 2 then n % 1099511627776 / 7 % 1000000 else n % 1099511627776 / 7 % 9
theorem Sp.capOf_bd (n : Int) : 0 ≤ Sp.capOf n ∧ Sp.capOf n ≤ 2147483648 := by
  unfold Sp.capOf
  split
  · omega
  · split
    · omega
    · split <;> omega
/-- A net's value, its lists wherever they lie. -/
structure NetI (w : World) (v : Value) (q : Sp.Net) (tv nv cv : Value) : Prop where
  val : v = .agg #[.int .i64 q.n, tv, nv, cv]
  tail : Ints w tv q.tail
  next : Ints w nv q.next
  cap : Ints w cv q.cap
theorem NetI.below {w w' : World} {v : Value} {q : Sp.Net} {tv nv cv : Value} (h : NetI w v q tv nv cv) (hb : Below w.heap.size w w') : NetI w' v q tv nv cv :=
  ⟨h.val, h.tail.below hb, h.next.below hb, h.cap.below hb⟩
/-- A net's block: its four cells. -/
theorem net_new (w : World) (a b c d : Value) (t : TypeId) :
    (w.alloc (.cells #[a, b, c, d] t (0, 0))).cell? ⟨w.heap.size, 0, none⟩ = some a ∧ (w.alloc (.cells #[a, b, c, d] t (0, 0))).cell? ⟨w.heap.size, 1, none⟩ = some b ∧ (w.alloc (.cells #[a, b, c, d] t (0, 0))).cell? ⟨w.heap.size, 2, none⟩ = some c ∧ (w.alloc (.cells #[a, b, c, d] t (0, 0))).cell? ⟨w.heap.size, 3, none⟩ = some d := by
  have h := heap_alloc_new w (.cells #[a, b, c, d] t (0, 0))
  refine ⟨?_, ?_, ?_, ?_⟩ <;> rw [cell_of_row _ _ _ _ _ _ h] <;> rfl
end Go.Proofs.Ytoegjnolccabjab


/- Lines that tell a net are read as that net: the text of headLine, edge lines, turn lines. -/
namespace Go.Proofs.Ytoegjnolccabjab.Sp
open Go

/-- A vertex's darts in turn. -/
structure RoundOf (q : Net) (v : Nat) (l : List Int) : Prop where
  nodup : l.Nodup
  dart : ∀ x ∈ l, 0 ≤ x ∧ x < q.tail.length ∧ q.tail.getD x.toNat 0 = (v : Int)
  next : ∀ i, i < l.length → q.next.getD (l.getD i 0).toNat 0 = l.getD ((i + 1) % l.length) 0
  count : (l.length : Int) = countOf q.tail v
  all : ∀ d : Nat, d < q.tail.length → q.tail.getD d 0 = (v : Int) → (d : Int) ∈ l
/-- What W1 asks of a net's lists, turns aside. -/
structure Lists (q : Net) : Prop where
  n0 : 0 ≤ q.n
  n1 : q.n ≤ 60
  ev : q.tail.length % 2 = 0
  tl : q.tail.length ≤ 240
  nl : q.next.length = q.tail.length
  cl : q.cap.length = q.tail.length
  tb : ∀ x ∈ q.tail, 0 ≤ x ∧ x < q.n
  cb : ∀ x ∈ q.cap, 0 ≤ x ∧ x ≤ 2147483648

/- ---- bytes ---- -/
/- ---- lines of a text ---- -/
end Go.Proofs.Ytoegjnolccabjab.Sp


/- Lines that tell a net are read as that net. -/
namespace Go.Proofs.Ytoegjnolccabjab.Sp
open Go

theorem getD_mem {l : List Int} {k : Nat} (h : k < l.length) : l.getD k 0 ∈ l := by
  rw [List.getD_eq_getElem?_getD, List.getElem?_eq_getElem h]; exact List.getElem_mem h

/- ---- edges ---- -/
end Go.Proofs.Ytoegjnolccabjab.Sp


/- Lines that tell a net are read as that net: the turns, and the whole. -/
namespace Go.Proofs.Ytoegjnolccabjab.Sp
open Go

theorem getD_eq (l : List Int) (i : Nat) (h : i < l.length) : l.getD i 0 = l[i] := by
  rw [List.getD_eq_getElem?_getD, List.getElem?_eq_getElem h]; rfl
end Go.Proofs.Ytoegjnolccabjab.Sp


/- The walks of net.walkable and net.round at a net. -/
namespace Go.Proofs.Ytoegjnolccabjab
open Go Go.RowKit

/-- What a list's cell holds, in whatever world behind. -/
theorem Ints.cellAt {w w' : World} {v : Value} {l : List Int} (h : Ints w v l) (hb : Below w.heap.size w w') (k : Nat) (hk : k < l.length) :
    ∃ b o c, v = .slice (some ⟨b, o, none⟩) l.length c ∧ w'.cell? ⟨b, o + k, none⟩ = some (.int .i64 l[k]) ∧ b < w.heap.size := by
  obtain ⟨b, o, c, hv, -, -, hlt, hc⟩ := h.at (by omega)
  exact ⟨b, o, c, hv, (hb.cell (by exact hlt)).trans (hc k hk), hlt⟩
theorem Ints.form {w : World} {v : Value} {l : List Int} (h : Ints w v l) : ∃ a c, v = .slice a l.length c ∧ l.length ≤ c ∧ c ≤ maxLen := by
  obtain ⟨a, c, hv, hc, hm, -⟩ := h
  exact ⟨a, c, hv, hc, hm⟩
end Go.Proofs.Ytoegjnolccabjab


/- append of a row of ints, whatever it is (nil, empty, anywhere), onto a row of the call's own. -/
namespace Go.Proofs.Ytoegjnolccabjab
open Go Go.RowKit

set_option maxRecDepth 100000 in
theorem run_app {w : World} {B : Nat} {v x : Value} {l1 l2 : List Int} (ty : TypeId) (hown : OwnI w B v l1) (hx : Ints w x l2) (n : Nat) (hn : l1.length + l2.length = n) (hlen : n ≤ 1000000) (hB : B ≤ w.heap.size) :
    ∃ a' c' w', (Builtin.append_ #[22, 22] ty #[v, x]).run Try.prog w = .ok (.slice a' n c') w' ∧ OwnI w' B (.slice a' n c') (l1 ++ l2) ∧ Below B w w' ∧ w.grownBy w' v.ownBlock := by
  subst hn
  obtain ⟨i0, hi, hz0, hz1, hz2⟩ := info_parts info3
  have fin : ∀ v' w', OwnI w' B v' (l1 ++ l2) → ∃ a' c', v' = .slice a' (l1.length + l2.length) c' := fun v' w' h => by
    obtain ⟨a, c, e, _⟩ := h.ints
    exact ⟨a, c, by rw [e]; simp⟩
  obtain ⟨a, c, rfl, hc, hm, hcell⟩ := hx
  cases a with
  | none =>
    have hl2 : l2 = [] := by
      cases l2 with
      | nil => rfl
      | cons y r => obtain ⟨b, o, h, _⟩ := hcell 0 (by simp); cases h
    subst hl2
    have hr : (Builtin.append_ #[22, 22] ty #[v, .slice none 0 c]).run Try.prog w = .ok v w := by
      rcases hown.2 with ⟨rfl, h⟩ | ⟨g, cap, cur, rfl, _, _, hnc, _⟩
      · simp [Builtin.append_, run_underlying Try.underlying22, sizeOf, typeInfo, hi, Builtin.lenOf, Builtin.firstCells]
      · simp [Builtin.append_, run_underlying Try.underlying22, sizeOf, typeInfo, hi, Builtin.lenOf, Builtin.firstCells, hnc, storeCells]
    have h2 : OwnI w B v (l1 ++ []) := by simpa using hown
    obtain ⟨a', c', rfl⟩ := fin v w h2
    exact ⟨a', c', w, hr, h2, Below.refl _ _, ⟨rfl, rfl, rfl, Nat.le_refl _, fun _ _ _ => rfl⟩⟩
  | some ad =>
    obtain ⟨v', w', h1, h2, h3, h4, h5⟩ := run_append_own_at (P := Try.prog) w B 22 ty 3 i0 (.int .i64 0) 1 8 Try.underlying22 hi hz0 hz1 hz2 rfl (by decide) v l1.length (l1.map (Value.int .i64)) hown ad l2.length c (l2.map (Value.int .i64)) (by simp)
      (fun j u hj => by
        rw [List.getElem?_map, Option.map_eq_some_iff] at hj
        obtain ⟨y, hy, rfl⟩ := hj
        obtain ⟨hjl, rfl⟩ := List.getElem?_eq_some_iff.1 hy
        obtain ⟨b, o, e, _, hcl⟩ := hcell j hjl
        injection e with e
        subst e
        have e2 : (⟨b, o, none⟩ : Addr).add j = ⟨b, o + j, none⟩ := by unfold Addr.add; split <;> simp_all
        rw [e2]; exact hcl)
      (fun u hu => by obtain ⟨y, _, rfl⟩ := List.mem_map.1 hu; rfl) (by unfold maxLen; omega) (by omega) hB
    have h2' : OwnI w' B v' (l1 ++ l2) := by unfold OwnI; simpa using h2
    obtain ⟨a', c', rfl⟩ := fin v' w' h2'
    exact ⟨a', c', w', h1, h2', (Below.refl B w).grown h3 hB fun k hk => (hown.lt k hk).1, h3⟩

theorem wp_app {w : World} {o : Oper} {a : Act} {K : Act → World → Prop} {Q : Exit → Act → World → Prop} (s x : Operand)
    (ho : o.op = .call { callee := .builtin .append, args := #[s, x], argTypes := #[22, 22] })
    (B : Nat) (v xv : Value) (l1 l2 : List Int) (hs : a.eval s = v) (hx' : a.eval x = xv) (hown : OwnI w B v l1) (hx : Ints w xv l2) (n : Nat) (hn : l1.length + l2.length = n) (hlen : n ≤ 1000000) (hB : B ≤ w.heap.size)
    (h : ∀ a' c' w', OwnI w' B (.slice a' n c') (l1 ++ l2) → Below B w w' → w.grownBy w' v.ownBlock → K (a.put o.dst (.slice a' n c')) w') : o.wp Try.prog a w K Q := by
  obtain ⟨a', c', w', hr, h2, h3, h4⟩ := run_app o.type hown hx n hn hlen hB
  unfold Oper.wp execOp
  simp only [ho, resolve, invoke, builtin, Sem.run_bind, Sem.run_pure, Result.andThen_ok, List.map_toArray, List.map_cons, List.map_nil, hs, hx', hr]
  exact h a' c' w' h2 h3 h4
theorem wpList_app {w : World} {ops : Array Oper} {rest : List Oper} {o : Oper} {a : Act} {Q : Exit → Act → World → Prop} (hgd : o.guard = none) (s x : Operand)
    (ho : o.op = .call { callee := .builtin .append, args := #[s, x], argTypes := #[22, 22] })
    (B : Nat) (v xv : Value) (l1 l2 : List Int) (hs : a.eval s = v) (hx' : a.eval x = xv) (hown : OwnI w B v l1) (hx : Ints w xv l2) (n : Nat) (hn : l1.length + l2.length = n) (hlen : n ≤ 1000000) (hB : B ≤ w.heap.size)
    (h : ∀ a' c' w', OwnI w' B (.slice a' n c') (l1 ++ l2) → Below B w w' → w.grownBy w' v.ownBlock → wpList Try.prog ops Q rest (a.put o.dst (.slice a' n c')) w') : wpList Try.prog ops Q (o :: rest) a w :=
  wpList_plain hgd fun _ hK => wp_app s x ho B v xv l1 l2 hs hx' hown hx n hn hlen hB fun a' c' w' h2 h3 h4 => hK _ _ (h a' c' w' h2 h3 h4)
/-- A row that was just laid. -/
theorem own_lit (X : World) (B g n : Nat) (l : List Int) (hg : X.heap.size = g) (hn : l.length = n) (hB : B ≤ X.heap.size) (hl : l.length ≤ 1000000) : OwnI (X.alloc (.cells (l.map (Value.int .i64)).toArray 3)) B (.slice (some ⟨g, 0, none⟩) n n) l := by
  subst hg hn
  exact ⟨by simp, .inr ⟨X.heap.size, l.length, _, rfl, hB, heap_alloc_new X _, Nat.le_refl _, by unfold maxLen; omega, by simp, by rw [List.take_of_length_le (by simp)]⟩⟩
theorem own_base {w : World} {B B' : Nat} {v : Value} {l : List Int} (h : OwnI w B v l) (hb : B' ≤ B) : OwnI w B' v l := by
  obtain ⟨h1, h2 | ⟨g, cap, cur, e, hg, r⟩⟩ := h
  · exact ⟨h1, .inl h2⟩
  · exact ⟨h1, .inr ⟨g, cap, cur, e, Nat.le_trans hb hg, r⟩⟩
theorem own_drew {w : World} {B : Nat} {v : Value} {l : List Int} (h : OwnI w B v l) : OwnI w.drew B v l := own_dn h ⟨1, rfl⟩
end Go.Proofs.Ytoegjnolccabjab


/- Arcs as cells, three each; rows of them, wherever they lie. -/
namespace Go.Proofs.Ytoegjnolccabjab
open Go Go.RowKit

def Sp.arc0 : Sp.Arc := ⟨0, 0, 0⟩
def Sp.cells3 : List Sp.Arc → List Value
  | [] => []
  | p :: l => .int .i64 (p.f : Int) :: .int .i64 (p.t : Int) :: .int .i64 p.l :: Sp.cells3 l
theorem Sp.cells3_len : ∀ l, (Sp.cells3 l).length = l.length * 3
  | [] => rfl
  | p :: l => by simp only [Sp.cells3, List.length_cons, Sp.cells3_len l]; omega
theorem Sp.cells3_get : ∀ (l : List Sp.Arc) (j : Nat), j < l.length → (Sp.cells3 l)[j * 3]? = some (.int .i64 ((l.getD j Sp.arc0).f : Int)) ∧ (Sp.cells3 l)[j * 3 + 1]? = some (.int .i64 ((l.getD j Sp.arc0).t : Int)) ∧ (Sp.cells3 l)[j * 3 + 2]? = some (.int .i64 (l.getD j Sp.arc0).l)
  | [], j, h => by simp at h
  | p :: l, 0, _ => by simp [Sp.cells3]
  | p :: l, j + 1, h => by
    have := Sp.cells3_get l j (by simpa using h)
    have e1 : (j + 1) * 3 = j * 3 + 1 + 1 + 1 := by omega
    have e2 : j * 3 + 1 + 1 + 1 + 1 = j * 3 + 1 + 1 + 1 + 1 := rfl
    have e3 : j * 3 + 1 + 1 + 1 + 2 = j * 3 + 2 + 1 + 1 + 1 := by omega
    rw [e1, e3]
    simp only [Sp.cells3, List.getElem?_cons_succ, List.getD_cons_succ]
    exact this
theorem Sp.cells3_append : ∀ l m, Sp.cells3 (l ++ m) = Sp.cells3 l ++ Sp.cells3 m
  | [], m => rfl
  | p :: l, m => by simp only [List.cons_append, Sp.cells3, Sp.cells3_append l m]
theorem Sp.cells3_one : ∀ (l : List Sp.Arc), ∀ u ∈ Sp.cells3 l, u.oneCell' = true
  | [], u, h => by cases h
  | p :: l, u, h => by
    simp only [Sp.cells3, List.mem_cons] at h
    rcases h with rfl | rfl | rfl | h
    · rfl
    · rfl
    · rfl
    · exact Sp.cells3_one l u h
/-- A row of arcs, wherever it lies. -/
def ArcsI (w : World) (v : Value) (L : List Sp.Arc) : Prop := ∃ (a : Option Addr) (c : Nat), v = .slice a L.length c ∧ L.length ≤ c ∧ c ≤ maxLen ∧ ∀ j u, (Sp.cells3 L)[j]? = some u → ∃ b o, a = some ⟨b, o, none⟩ ∧ b < w.heap.size ∧ w.cell? ⟨b, o + j, none⟩ = some u
theorem ArcsI.below {w w' : World} {v : Value} {L : List Sp.Arc} (h : ArcsI w v L) (hb : Below w.heap.size w w') : ArcsI w' v L := by
  obtain ⟨a, c, e, h1, h2, h3⟩ := h
  refine ⟨a, c, e, h1, h2, fun j u hj => ?_⟩
  obtain ⟨b, o, e1, e2, e3⟩ := h3 j u hj
  exact ⟨b, o, e1, by have := hb.size; omega, (hb.cell e2).trans e3⟩
theorem ArcsI.form {w : World} {v : Value} {L : List Sp.Arc} (h : ArcsI w v L) : ∃ (a : Option Addr) (c : Nat), v = .slice a L.length c ∧ L.length ≤ c ∧ c ≤ maxLen := by
  obtain ⟨a, c, e, h1, h2, -⟩ := h
  exact ⟨a, c, e, h1, h2⟩
theorem ArcsI.all {w : World} {v : Value} {L : List Sp.Arc} (h : ArcsI w v L) : ∃ (a : Option Addr) (c : Nat), v = .slice a L.length c ∧ L.length ≤ c ∧ c ≤ maxLen ∧ Hid (∀ k, k < L.length → ∃ b o, a = some ⟨b, o, none⟩ ∧ b < w.heap.size ∧ ∀ w', Below w.heap.size w w' → w'.cell? ⟨b, o + k * 3, none⟩ = some (.int .i64 ((L.getD k Sp.arc0).f : Int)) ∧ w'.cell? ⟨b, o + k * 3 + 1, none⟩ = some (.int .i64 ((L.getD k Sp.arc0).t : Int)) ∧ w'.cell? ⟨b, o + k * 3 + 2, none⟩ = some (.int .i64 (L.getD k Sp.arc0).l)) := by
  obtain ⟨a, c, e, h1, h2, h3⟩ := h
  refine ⟨a, c, e, h1, h2, hide fun k hk => ?_⟩
  obtain ⟨g0, g1, g2⟩ := Sp.cells3_get L k hk
  obtain ⟨b, o, e1, e2, e3⟩ := h3 _ _ g0
  obtain ⟨b', o', e1', -, e3'⟩ := h3 _ _ g1
  obtain ⟨b'', o'', e1'', -, e3''⟩ := h3 _ _ g2
  rw [e1] at e1' e1''
  injection e1' with e1'
  injection e1' with q1 q2
  injection e1'' with e1''
  injection e1'' with q3 q4
  subst q1 q2 q3 q4
  exact ⟨b, o, e1, e2, fun w' hb => ⟨(hb.cell e2).trans e3, (hb.cell (p := ⟨b, o + k * 3 + 1, none⟩) e2).trans e3', (hb.cell (p := ⟨b, o + k * 3 + 2, none⟩) e2).trans e3''⟩⟩
/-- A row of arcs of the call's own. -/
def OwnA (w : World) (B : Nat) (v : Value) (L : List Sp.Arc) : Prop := w.ownsRow B 65 3 v L.length (Sp.cells3 L)
theorem OwnA.nil (w : World) (B : Nat) : OwnA w B (.slice none 0 0) [] := World.ownsRow_nil _ _ _ _
theorem OwnA.lt {w : World} {B : Nat} {v : Value} {L : List Sp.Arc} (h : OwnA w B v L) : ∀ k, v.ownBlock = some k → B ≤ k ∧ k < w.heap.size := World.ownsRow.lt h
theorem OwnA.arcs {w : World} {B : Nat} {v : Value} {L : List Sp.Arc} (h : OwnA w B v L) : ArcsI w v L := by
  have h' := h
  obtain ⟨h1, ⟨rfl, h2⟩ | ⟨g, cap, cur, rfl, hg, hc, r1, r2, r3, r4⟩⟩ := h
  · have : L = [] := List.length_eq_zero_iff.1 h2
    subst this
    exact ⟨none, 0, rfl, by simp, by simp [maxLen], fun j u hj => by simp [Sp.cells3] at hj⟩
  · refine ⟨_, _, rfl, r1, r2, fun j u hj => ⟨g, 0, rfl, (h'.lt g rfl).2, ?_⟩⟩
    have hlt : j < (Sp.cells3 L).length := (List.getElem?_eq_some_iff.1 hj).1
    rw [Sp.cells3_len] at hlt
    unfold OwnA at h'
    rw [Nat.zero_add, World.ownsRow.cellAt h' j hlt]
    exact hj
theorem OwnA.alloc {w : World} {B : Nat} {v : Value} {L : List Sp.Arc} (h : OwnA w B v L) (o : Obj) : OwnA (w.alloc o) B v L := World.ownsRow.alloc h o
theorem OwnA.keep {w w' : World} {B : Nat} {v : Value} {L : List Sp.Arc} (h : OwnA w B v L) (hk : ∀ g, v.ownBlock = some g → w'.heap[g]? = w.heap[g]?) : OwnA w' B v L := by
  obtain ⟨h1, h2 | ⟨g, cap, cur, e, hg, hc, r⟩⟩ := h
  · exact ⟨h1, .inl h2⟩
  · exact ⟨h1, .inr ⟨g, cap, cur, e, hg, (hk g (by rw [e]; rfl)).trans hc, r⟩⟩
theorem OwnA.below {w w' : World} {B : Nat} {v : Value} {L : List Sp.Arc} (h : OwnA w B v L) (hb : Below w.heap.size w w') : OwnA w' B v L :=
  h.keep fun g hg => hb.block g (h.lt g hg).2
theorem OwnA.base {w : World} {B B' : Nat} {v : Value} {L : List Sp.Arc} (h : OwnA w B v L) (hb : B' ≤ B) : OwnA w B' v L := by
  obtain ⟨h1, h2 | ⟨g, cap, cur, e, hg, r⟩⟩ := h
  · exact ⟨h1, .inl h2⟩
  · exact ⟨h1, .inr ⟨g, cap, cur, e, Nat.le_trans hb hg, r⟩⟩
theorem OwnA.drew {w : World} {B : Nat} {v : Value} {L : List Sp.Arc} (h : OwnA w B v L) : OwnA w.drew B v L := h.keep fun _ _ => rfl
theorem ArcsI.drew {w : World} {v : Value} {L : List Sp.Arc} (h : ArcsI w v L) : ArcsI w.drew v L := h.below ((Below.refl _ _).drew)

theorem infoA : (Try.prog.info? 65).map (fun i => (i.zero, i.size, i.bytes)) = some (some (.agg #[.int .i64 0, .int .i64 0, .int .i64 0]), 3, 24) := by kernel_rfl
theorem infoA_parts : ∃ i0, Try.prog.info? 65 = some i0 ∧ i0.zero = some (.agg #[.int .i64 0, .int .i64 0, .int .i64 0]) ∧ i0.size = 3 ∧ i0.bytes = 24 := by
  have h := infoA
  cases hq : Try.prog.info? 65 with
  | none => rw [hq] at h; cases h
  | some i0 =>
    rw [hq] at h
    simp only [Option.map_some, Option.some.injEq, Prod.mk.injEq] at h
    exact ⟨i0, rfl, h.1, h.2.1, h.2.2⟩
set_option maxRecDepth 100000 in
theorem run_appA {w : World} {B : Nat} {v x : Value} {l1 l2 : List Sp.Arc} (ty : TypeId) (hown : OwnA w B v l1) (hx : ArcsI w x l2) (n : Nat) (hn : l1.length + l2.length = n) (hlen : n ≤ 1000000) (hB : B ≤ w.heap.size) :
    ∃ a' c' w', (Builtin.append_ #[60, 60] ty #[v, x]).run Try.prog w = .ok (.slice a' n c') w' ∧ OwnA w' B (.slice a' n c') (l1 ++ l2) ∧ w.grownBy w' v.ownBlock ∧ ((Value.slice a' n c').ownBlock = v.ownBlock ∨ (Value.slice a' n c').ownBlock = some w.heap.size) := by
  subst hn
  obtain ⟨i0, hi, hz0, hz1, hz2⟩ := infoA_parts
  have fin : ∀ v' w', World.ownsRow w' B 65 3 v' (l1.length + l2.length) (Sp.cells3 l1 ++ Sp.cells3 l2) → ∃ a' c', v' = .slice a' (l1.length + l2.length) c' := fun v' w' h => by
    rcases h.2 with ⟨rfl, e⟩ | ⟨g, cap, cur, rfl, -⟩
    · exact ⟨none, 0, by rw [e]⟩
    · exact ⟨_, _, rfl⟩
  have clo : ∀ v' w', World.ownsRow w' B 65 3 v' (l1.length + l2.length) (Sp.cells3 l1 ++ Sp.cells3 l2) → OwnA w' B v' (l1 ++ l2) := fun v' w' h => by
    unfold OwnA; rw [Sp.cells3_append, List.length_append]; exact h
  obtain ⟨a, c, rfl, -, -, hcell⟩ := hx
  unfold OwnA at hown
  cases a with
  | none =>
    have hl2 : l2 = [] := by
      cases l2 with
      | nil => rfl
      | cons y r => obtain ⟨b, o, h, _⟩ := hcell 0 _ rfl; cases h
    subst hl2
    have hr : (Builtin.append_ #[60, 60] ty #[v, .slice none 0 c]).run Try.prog w = .ok v w := by
      rcases hown.2 with ⟨rfl, h⟩ | ⟨g, cap, cur, rfl, _, _, hnc, _⟩
      · simp [Builtin.append_, run_underlying Try.underlying60, sizeOf, typeInfo, hi, Builtin.lenOf, Builtin.firstCells]
      · simp [Builtin.append_, run_underlying Try.underlying60, sizeOf, typeInfo, hi, Builtin.lenOf, Builtin.firstCells, hnc, storeCells]
    have h2 : w.ownsRow B 65 3 v (l1.length + 0) (Sp.cells3 l1 ++ Sp.cells3 []) := by simpa [Sp.cells3] using hown
    obtain ⟨a', c', rfl⟩ := fin v w h2
    exact ⟨a', c', w, hr, clo _ _ h2, ⟨rfl, rfl, rfl, Nat.le_refl _, fun _ _ _ => rfl⟩, .inl rfl⟩
  | some ad =>
    obtain ⟨v', w', h1, h2, h3, h4, h5⟩ := run_append_own_at (P := Try.prog) w B 60 ty 65 i0 (.agg #[.int .i64 0, .int .i64 0, .int .i64 0]) 3 24 Try.underlying60 hi hz0 hz1 hz2 rfl (by decide) v l1.length (Sp.cells3 l1) hown ad l2.length c (Sp.cells3 l2) (Sp.cells3_len l2)
      (fun j u hj => by
        obtain ⟨b, o, e, -, hcl⟩ := hcell j u hj
        injection e with e
        subst e
        have e2 : (⟨b, o, none⟩ : Addr).add j = ⟨b, o + j, none⟩ := by unfold Addr.add; split <;> simp_all
        rw [e2]; exact hcl)
      (Sp.cells3_one l2) (by unfold maxLen; omega) (by omega) hB
    obtain ⟨a', c', rfl⟩ := fin v' w' h2
    exact ⟨a', c', w', h1, clo _ _ h2, h3, h5⟩
theorem wp_appA {w : World} {o : Oper} {a : Act} {K : Act → World → Prop} {Q : Exit → Act → World → Prop} (s x : Operand)
    (ho : o.op = .call { callee := .builtin .append, args := #[s, x], argTypes := #[60, 60] })
    (B : Nat) (v xv : Value) (l1 l2 : List Sp.Arc) (hs : a.eval s = v) (hx' : a.eval x = xv) (hown : OwnA w B v l1) (hx : ArcsI w xv l2) (n : Nat) (hn : l1.length + l2.length = n) (hlen : n ≤ 1000000) (hB : B ≤ w.heap.size)
    (h : ∀ a' c' w', OwnA w' B (.slice a' n c') (l1 ++ l2) → w.grownBy w' v.ownBlock → ((Value.slice a' n c').ownBlock = v.ownBlock ∨ (Value.slice a' n c').ownBlock = some w.heap.size) → K (a.put o.dst (.slice a' n c')) w') : o.wp Try.prog a w K Q := by
  obtain ⟨a', c', w', hr, h2, h3, h4⟩ := run_appA o.type hown hx n hn hlen hB
  unfold Oper.wp execOp
  simp only [ho, resolve, invoke, builtin, Sem.run_bind, Sem.run_pure, Result.andThen_ok, List.map_toArray, List.map_cons, List.map_nil, hs, hx', hr]
  exact h a' c' w' h2 h3 h4
theorem wpList_appA {w : World} {ops : Array Oper} {rest : List Oper} {o : Oper} {a : Act} {Q : Exit → Act → World → Prop} (hgd : o.guard = none) (s x : Operand)
    (ho : o.op = .call { callee := .builtin .append, args := #[s, x], argTypes := #[60, 60] })
    (B : Nat) (v xv : Value) (l1 l2 : List Sp.Arc) (hs : a.eval s = v) (hx' : a.eval x = xv) (hown : OwnA w B v l1) (hx : ArcsI w xv l2) (n : Nat) (hn : l1.length + l2.length = n) (hlen : n ≤ 1000000) (hB : B ≤ w.heap.size)
    (h : ∀ a' c' w', OwnA w' B (.slice a' n c') (l1 ++ l2) → w.grownBy w' v.ownBlock → ((Value.slice a' n c').ownBlock = v.ownBlock ∨ (Value.slice a' n c').ownBlock = some w.heap.size) → wpList Try.prog ops Q rest (a.put o.dst (.slice a' n c')) w') : wpList Try.prog ops Q (o :: rest) a w :=
  wpList_plain hgd fun _ hK => wp_appA s x ho B v xv l1 l2 hs hx' hown hx n hn hlen hB fun a' c' w' h2 h3 h4 => hK _ _ (h a' c' w' h2 h3 h4)
/-- An arc in a block of its own. -/
theorem arc_new (w : World) (f t l : Value) : (w.alloc (.cells #[f, t, l] 65)).cell? ⟨w.heap.size, 0, none⟩ = some f ∧ (w.alloc (.cells #[f, t, l] 65)).cell? ⟨w.heap.size, 1, none⟩ = some t ∧ (w.alloc (.cells #[f, t, l] 65)).cell? ⟨w.heap.size, 2, none⟩ = some l := by
  have e : (w.alloc (.cells #[f, t, l] 65)).heap[w.heap.size]? = some (.cells #[f, t, l] 65) := by
    show (w.heap.push _)[w.heap.size]? = _
    simp
  refine ⟨?_, ?_, ?_⟩ <;> simp only [World.cell?, e] <;> rfl
/-- Arcs that were just laid. -/
theorem own_litA (X : World) (B g n : Nat) (L : List Sp.Arc) (cs : Array Value) (hcs : cs = (Sp.cells3 L).toArray) (hg : X.heap.size = g) (hn : L.length = n) (hB : B ≤ X.heap.size) (hl : L.length ≤ 1000000) : OwnA (X.alloc (.cells cs 65)) B (.slice (some ⟨g, 0, none⟩) n n) L := by
  subst hg hn hcs
  exact ⟨by rw [Sp.cells3_len], .inr ⟨X.heap.size, L.length, _, rfl, hB, heap_alloc_new X _, Nat.le_refl _, by unfold maxLen; omega, by simp [Sp.cells3_len], by rw [List.take_of_length_le (by simp [Sp.cells3_len])]⟩⟩
/-- Behind an append onto a row of the call's own. -/
theorem OwnA.grown {w w6 : World} {B g : Nat} {v : Value} {L : List Sp.Arc} (h : OwnA w B v L) (hg : w.grownBy w6 (some g)) (hne : v.ownBlock ≠ some g) : OwnA w6 B v L := by
  refine h.keep fun k hk => hg.block k (h.lt k hk).2 (fun e => hne ?_)
  rw [hk]; exact e
end Go.Proofs.Ytoegjnolccabjab


/- The walk of net.round. -/
namespace Go.Proofs.Ytoegjnolccabjab
open Go Go.RowKit

/-- The dart that comes k behind d. -/
def Sp.nth (nx : List Int) (d : Int) : Nat → Int
  | 0 => d
  | k + 1 => nx.getD (nth nx d k).toNat 0
/-- d, and those behind it: m in all. -/
def Sp.rounds (nx : List Int) (d : Int) (m : Nat) : List Int := (List.range m).map (Sp.nth nx d)
theorem Sp.rounds_succ (nx : List Int) (d : Int) (m : Nat) : Sp.rounds nx d (m + 1) = Sp.rounds nx d m ++ [Sp.nth nx d m] := by simp [Sp.rounds, List.range_succ]
theorem Sp.rounds_len (nx : List Int) (d : Int) (m : Nat) : (Sp.rounds nx d m).length = m := by simp [Sp.rounds]
theorem Sp.nth_bd {nx : List Int} {n : Nat} (hl : nx.length = n) (hx : ∀ x ∈ nx, 0 ≤ x ∧ x < n) {d : Int} (h0 : 0 ≤ d) (h1 : d < n) (k : Nat) : 0 ≤ Sp.nth nx d k ∧ Sp.nth nx d k < n := by
  induction k with
  | zero => exact ⟨h0, h1⟩
  | succ k ih => exact hx _ (Sp.getD_mem (by rw [hl]; omega))
end Go.Proofs.Ytoegjnolccabjab


/- The walk of net.Text at a net: the head and the edges' lines. -/
namespace Go.Proofs.Ytoegjnolccabjab
open Go Go.RowKit

/-- The text of an edge's four numbers, laid behind the lines: the statement of the loop. -/
theorem Ints.drew {w : World} {v : Value} {l : List Int} (h : Ints w v l) : Ints w.drew v l := h.below (Below.refl _ w).drew
/-- The least dart of a vertex, if it has one. -/
def Sp.first (tail : List Int) (v : Int) : Option Nat := (List.range tail.length).find? fun d => decide (tail.getD d 0 = v)
end Go.Proofs.Ytoegjnolccabjab


/- A vertex's round may be told from any of its darts. -/
namespace Go.Proofs.Ytoegjnolccabjab.Sp
open Go

/-- A net (W1). -/
structure Whole (q : Net) : Prop where
  lists : Lists q
  next : ∀ x ∈ q.next, 0 ≤ x ∧ x < q.tail.length
  round : ∀ v : Nat, (v : Int) < q.n → ∃ l, RoundOf q v l
end Go.Proofs.Ytoegjnolccabjab.Sp


/- A region that draws its order: a load may be taken first although a later operation, which waits for it, writes its cell. -/
namespace Go.Proofs.Ytoegjnolccabjab
open Go

theorem if_wanted {c : Prop} [inst : Decidable c] {A B : Prop} (hc : c) (h : A) : ite c A B := by rw [if_pos hc]; exact h
section
variable {P : Program} {ops : Array Oper} {Q : Exit → Act → World → Prop} {md : Region.Mode} {S : World → Prop} {late : Nat → Bool}

/-- None of the late ones has come up. -/
def noLate (late : Nat → Bool) (listed : Array Bool) : Bool := (List.range listed.size).all fun j => !(late j && listed.getD j false)
theorem noLate_set {late : Nat → Bool} {listed : Array Bool} {i : Nat} (h : late i = false) : noLate late (listed.setIfInBounds i true) = noLate late listed := by
  unfold noLate
  rw [Array.size_setIfInBounds, Bool.eq_iff_iff, List.all_eq_true, List.all_eq_true]
  have key : ∀ j, (!(late j && (listed.setIfInBounds i true).getD j false)) = (!(late j && listed.getD j false)) := fun j => by
    by_cases hj : i = j
    · subst hj; rw [h]; simp
    · rw [getD_set_ne false hj]
  constructor
  · intro H j hj; rw [← key]; exact H j hj
  · intro H j hj; rw [key]; exact H j hj
/-- Whatever order is picked from here on; S holds behind every operation as long as no late one has come up. -/
def wpAnyG (P : Program) (md : Region.Mode) (ops : Array Oper) (Q : Exit → Act → World → Prop) (S : World → Prop) (late : Nat → Bool) : Nat → Array Bool → Act → World → Prop
  | 0, listed, a, w => Region.ready md ops listed = [] ∧ Q .normal a w
  | fuel + 1, listed, a, w =>
    (Region.ready md ops listed = [] → Q .normal a w) ∧
    ∀ i ∈ Region.ready md ops listed, wpOp P ops Q i (fun a' w' => (noLate late (listed.setIfInBounds i true) = true → S w') ∧ wpAnyG P md ops Q S late fuel (listed.setIfInBounds i true) a' w') a w
theorem wpAny_of_G : ∀ (fuel : Nat) (listed : Array Bool) (a : Act) (w : World), wpAnyG P md ops Q S late fuel listed a w → wpAny P md ops Q fuel listed a w
  | 0, _, _, _, h => h
  | fuel + 1, _, _, _, h => ⟨h.1, fun i hi => wpOp_mono (fun a' w' h' => wpAny_of_G fuel _ a' w' h'.2) (h.2 i hi)⟩
theorem wpAnyG_first {i : Nat} {oi : Oper} {v : Value} (hi : ops[i]? = some oi) (hsel : ∀ (j : Nat) (o : Oper) cs b, ops[j]? = some o → o.op ≠ .select cs b)
    (hil : late i = false) (hl : ∀ j oj, ops[j]? = some oj → late j = true → ∃ e ∈ oj.after, Region.binds md e = true ∧ e.on = i)
    (hQ : ∀ c a w, Q (.panic c) (a.put oi.dst v) w → Q (.panic c) a w) :
    ∀ (fuel : Nat) (listed : Array Bool) (a : Act) (w : World),
      (∀ j oj, ops[j]? = some oj → j ≠ i → listed.getD j true = false → (∀ e ∈ oj.after, Region.binds md e = true → e.on ≠ i) → oi.apart ops oj = true) →
      i ∈ Region.ready md ops listed → noLate late listed = true → YieldsIf P ops S oi v a → S w →
      wpAnyG P md ops Q S late fuel (listed.setIfInBounds i true) (a.put oi.dst v) w → wpAnyG P md ops Q S late (fuel + 1) listed a w := by
  intro fuel
  induction fuel with
  | zero =>
    intro listed a w _ hr _ hy hS H
    refine ⟨fun h => (by rw [h] at hr; cases hr), fun j hj => ?_⟩
    by_cases hji : j = i
    · subst hji; exact hy.wpOp hi hS ⟨fun _ => hS, H⟩
    · have := ready_mono hj hji
      rw [H.1] at this
      cases this
  | succ fuel ih =>
    intro listed a w hfree hr hnl hy hS H
    refine ⟨fun h => (by rw [h] at hr; cases hr), fun j hj => ?_⟩
    by_cases hji : j = i
    · subst hji; exact hy.wpOp hi hS ⟨fun _ => hS, H⟩
    · have h1 := H.2 j (ready_mono hj hji)
      obtain ⟨hjun, oj, hoj, hall⟩ := mem_ready.1 hj
      have hnot : ∀ e ∈ oj.after, Region.binds md e = true → e.on ≠ i := fun e he hb heq => by
        have h1 := hall e he hb
        have h0 := (mem_ready.1 hr).1
        rw [heq] at h1
        rcases Nat.lt_or_ge i listed.size with h' | h'
        · simp [h'] at h0 h1; rw [h0] at h1; cases h1
        · simp [Array.getElem?_eq_none h'] at h1
      have hlate : late j = false := by
        cases hl' : late j with
        | false => rfl
        | true =>
          obtain ⟨e, he, hb, heq⟩ := hl j oj hoj hl'
          exact absurd heq (hnot e he hb)
      have hn1 : noLate late (listed.setIfInBounds j true) = true := by rw [noLate_set hlate]; exact hnl
      have hn2 : noLate late ((listed.setIfInBounds i true).setIfInBounds j true) = true := by rw [noLate_set hlate, noLate_set hil]; exact hnl
      have h2 := wpOp_putIf hoj (hfree j oj hoj hji hjun hnot) (fun cs b => hsel i oi cs b hi) (fun cs b => hsel j oj cs b hoj) hQ hy h1
      have hfree' : ∀ k ok, ops[k]? = some ok → k ≠ i → (listed.setIfInBounds j true).getD k true = false →
          (∀ e ∈ ok.after, Region.binds md e = true → e.on ≠ i) → oi.apart ops ok = true := fun k ok hk hki hun hno => by
        refine hfree k ok hk hki ?_ hno
        by_cases hjk : j = k
        · subst hjk; exact hjun
        · rw [getD_set_ne true hjk] at hun; exact hun
      refine wpOp_mono (fun a' w' h3 => ⟨fun _ => h3.2.1 hn2, ih (listed.setIfInBounds j true) a' w' hfree' (ready_mono hr (Ne.symm hji)) hn1 h3.1 (h3.2.1 hn2) ?_⟩) h2
      rw [Array.setIfInBounds_comm _ _ hji]
      exact h3.2.2
/-- Each late operation waits for number i. -/
def lateB (md : Region.Mode) (ops : Array Oper) (late : Nat → Bool) (i : Nat) : Bool := (List.range ops.size).all fun j => !late j || (match ops[j]? with | some o => o.after.any fun e => Region.binds md e && e.on == i | none => false)
theorem lateB_spec {i : Nat} (h : lateB md ops late i = true) : ∀ j oj, ops[j]? = some oj → late j = true → ∃ e ∈ oj.after, Region.binds md e = true ∧ e.on = i := by
  intro j oj hj hl
  unfold lateB at h
  rw [List.all_eq_true] at h
  have hlt : j < ops.size := by
    rcases Nat.lt_or_ge j ops.size with h' | h'
    · exact h'
    · rw [Array.getElem?_eq_none h'] at hj; cases hj
  have := h j (List.mem_range.2 hlt)
  rw [hl, hj] at this
  simp only [Bool.not_true, Bool.false_or, Array.any_eq_true, Bool.and_eq_true, beq_iff_eq] at this
  obtain ⟨k, hk, h1, h2⟩ := this
  exact ⟨_, Array.getElem_mem hk, h1, h2⟩
/-- Take number i first: a load. -/
theorem wpAnyG_take (i : Nat) {oi : Oper} {v : Value} {fuel : Nat} {listed : Array Bool} {a : Act} {w : World} (hi : ops[i]? = some oi)
    (hs : Region.noSelect ops = true) (hf : Region.free md ops listed i = true) (hr : (Region.ready md ops listed).contains i = true) (hl : (!late i && (lateB md ops late i && noLate late listed)) = true)
    (hQ : ∀ c a w, Q (.panic c) (a.put oi.dst v) w → Q (.panic c) a w) (hy : YieldsIf P ops S oi v a) (hS : S w)
    (h : wpAnyG P md ops Q S late fuel (listed.setIfInBounds i true) (a.put oi.dst v) w) : wpAnyG P md ops Q S late (fuel + 1) listed a w := by
  simp only [Bool.and_eq_true, Bool.not_eq_true'] at hl
  exact wpAnyG_first hi (Region.noSelect_spec hs) hl.1 (lateB_spec hl.2.1) hQ fuel listed a w (Region.free_spec hi hf) (by simpa using hr) hl.2.2 hy hS h
theorem wpAnyG_done {listed : Array Bool} {a : Act} {w : World} (hr : Region.ready md ops listed = []) (h : Q .normal a w) :
    ∀ fuel, wpAnyG P md ops Q S late fuel listed a w
  | 0 => ⟨hr, h⟩
  | _ + 1 => ⟨fun _ => h, by rw [hr]; simp⟩
def AllReadyG (P : Program) (md : Region.Mode) (ops : Array Oper) (Q : Exit → Act → World → Prop) (S : World → Prop) (late : Nat → Bool) (fuel : Nat) (listed : Array Bool) (a : Act) (w : World) (rs : List Nat) : Prop :=
  ∀ i ∈ rs, wpOp P ops Q i (fun a' w' => (noLate late (listed.setIfInBounds i true) = true → S w') ∧ wpAnyG P md ops Q S late fuel (listed.setIfInBounds i true) a' w') a w
theorem AllReadyG.nil {fuel : Nat} {listed : Array Bool} {a : Act} {w : World} : AllReadyG P md ops Q S late fuel listed a w [] := fun _ h => by cases h
theorem AllReadyG.cons {fuel : Nat} {listed : Array Bool} {a : Act} {w : World} (i : Nat) {o : Oper} {rs : List Nat} (ho : ops[i]? = some o)
    (h : ∀ K' : Act → World → Prop, Shut (∀ a w, S w → (S w → wpAnyG P md ops Q S late fuel (listed.setIfInBounds i true) a w) → K' a w) → if Region.wanted o (yielded ops a.tmps) = true then Oper.wp P o a w K' Q else K' (a.put o.dst undef) w)
    (hs : AllReadyG P md ops Q S late fuel listed a w rs) : AllReadyG P md ops Q S late fuel listed a w (i :: rs) := fun j hj => by
  rcases List.mem_cons.1 hj with rfl | hj
  · exact wpOp_step ho (fun K' hK => h K' (fun a w hS hW => hK a w ⟨fun _ => hS, hW hS⟩))
  · exact hs j hj
/-- A late one, or one behind it. -/
theorem AllReadyG.last {fuel : Nat} {listed : Array Bool} {a : Act} {w : World} (i : Nat) {o : Oper} {rs : List Nat} (ho : ops[i]? = some o) (hl : noLate late (listed.setIfInBounds i true) = false)
    (h : ∀ K' : Act → World → Prop, Shut (∀ a w, wpAnyG P md ops Q S late fuel (listed.setIfInBounds i true) a w → K' a w) → if Region.wanted o (yielded ops a.tmps) = true then Oper.wp P o a w K' Q else K' (a.put o.dst undef) w)
    (hs : AllReadyG P md ops Q S late fuel listed a w rs) : AllReadyG P md ops Q S late fuel listed a w (i :: rs) := fun j hj => by
  rcases List.mem_cons.1 hj with rfl | hj
  · exact wpOp_step ho (fun K' hK => h K' (fun a w hW => hK a w ⟨fun h0 => (by rw [hl] at h0; cases h0), hW⟩))
  · exact hs j hj
theorem wpAnyG_ready (rs : List Nat) {fuel : Nat} {listed : Array Bool} {a : Act} {w : World} (hr : Region.ready md ops listed = rs) (hne : rs ≠ [])
    (h : AllReadyG P md ops Q S late fuel listed a w rs) : wpAnyG P md ops Q S late (fuel + 1) listed a w := ⟨fun h0 => absurd (hr ▸ h0) hne, hr ▸ h⟩
theorem wp_region_G {id : Nat} {a : Act} {w : World} (S : World → Prop) (late : Nat → Bool) (hm : P.follows .mixedOrders = true) (hS : S w.drew)
    (h : S w.drew → wpAnyG P .any ops (NoPanic Q) S late ops.size (Array.replicate ops.size false) a w.drew) : (Code.region id ops true).wp P Q a w :=
  wp_region_noPanic (wp_region_any hm (wpAny_of_G _ _ _ _ (h hS)))
end
end Go.Proofs.Ytoegjnolccabjab


/- The walk of the reference's Edge where nothing is wrong. -/
namespace Go.Proofs.Ytoegjnolccabjab
open Go Go.RowKit

def Sp.edgeN (q : Sp.Net) (y0 y1 y2 y3 : Int) : Sp.Net := ⟨q.n, q.tail ++ [y0, y1], q.next ++ [(q.tail.length : Int), (q.tail.length : Int) + 1], q.cap ++ [y2, y3]⟩
/-- A call's frame that has boxed a net and made room for one. -/
structure BoxAt (w wx : World) (n : Int) (tv nv cv : Value) : Prop where
  b1 : wx.heap[w.heap.size]? = some (.cells #[.int .i64 n, tv, nv, cv] 26 (0, 0))
  b2 : wx.heap[w.heap.size + 1]? = some (.cells #[.int .i64 0, .slice none 0 0, .slice none 0 0, .slice none 0 0] 26 (0, 0))
  bel : Below w.heap.size w wx
theorem BoxAt.size {w wx : World} {n : Int} {tv nv cv : Value} (h : BoxAt w wx n tv nv cv) : w.heap.size + 1 < wx.heap.size := heap_lt h.b2
theorem BoxAt.below {w wx wy : World} {n : Int} {tv nv cv : Value} (h : BoxAt w wx n tv nv cv) (hb : Below wx.heap.size wx wy) : BoxAt w wy n tv nv cv := by
  have hs := h.size
  exact ⟨(hb.block _ (by omega)).trans h.b1, (hb.block _ (by omega)).trans h.b2, h.bel.trans (hb.mono (by omega))⟩
theorem BoxAt.setT {w wx : World} {n : Int} {tv nv cv : Value} (h : BoxAt w wx n tv nv cv) (u : Value) : BoxAt w (wx.setCell ⟨w.heap.size, 1, none⟩ u) n u nv cv :=
  ⟨by rw [heap_setCell_same wx w.heap.size 1 _ _ _ h.b1]; rfl, by rw [heap_setCell_other _ _ _ _ (by simp)]; exact h.b2, h.bel.setCell (by simp) u⟩
theorem BoxAt.start (w : World) (n : Int) (tv nv cv : Value) (k : Nat) : BoxAt w (((w.alloc (.cells #[.int .i64 n, tv, nv, cv] 26)).alloc (.cells #[.int .i64 0, .slice none 0 0, .slice none 0 0, .slice none 0 0] 26)).drewN k) n tv nv cv := by
  have hz : (w.alloc (.cells #[.int .i64 n, tv, nv, cv] 26)).heap.size = w.heap.size + 1 := by simp
  refine ⟨?_, ?_, below_dn (((Below.refl _ w).alloc (Nat.le_refl _) _).alloc (by simp) _) k⟩
  · show ((w.alloc _).alloc _).heap[w.heap.size]? = _
    exact (heap_alloc_old _ _ (by simp)).trans (heap_alloc_new w _)
  · show ((w.alloc _).alloc _).heap[w.heap.size + 1]? = _
    rw [← hz]; exact heap_alloc_new _ _
theorem four_below {w wx : World} (h : Below w.heap.size w wx) (s : Nat) (hs : s = w.heap.size) (n : Int) (a b c : Value) : Below w.heap.size w ((((wx.setCell ⟨s + 1, 0, none⟩ (.int .i64 n)).setCell ⟨s + 1, 1, none⟩ a).setCell ⟨s + 1, 2, none⟩ b).setCell ⟨s + 1, 3, none⟩ c) := by
  subst hs
  exact (((h.setCell (by simp) _).setCell (by simp) _).setCell (by simp) _).setCell (by simp) _
end Go.Proofs.Ytoegjnolccabjab


/- The walk of the reference's Round where nothing is wrong. -/
namespace Go.Proofs.Ytoegjnolccabjab
open Go Go.RowKit

/-- The next ones behind k of a turn's darts. -/
def Sp.layTo (nx l : List Int) : Nat → List Int
  | 0 => nx
  | k + 1 => (Sp.layTo nx l k).set (l.getD k 0).toNat (l.getD ((k + 1) % l.length) 0)
def Sp.roundN (q : Sp.Net) (l : List Int) : Sp.Net := { q with next := Sp.layTo q.next l l.length }
/-- Cells of a row of ints, in every world behind. -/
theorem Ints.all {w : World} {v : Value} {l : List Int} (h : Ints w v l) : ∃ (a : Option Addr) (c : Nat), v = .slice a l.length c ∧ l.length ≤ c ∧ c ≤ maxLen ∧ Hid (∀ k, (hk : k < l.length) → ∃ b o, a = some ⟨b, o, none⟩ ∧ b < w.heap.size ∧ ∀ w', Below w.heap.size w w' → w'.cell? ⟨b, o + k, none⟩ = some (.int .i64 l[k])) := by
  obtain ⟨a, c, e, h1, h2, h3⟩ := h
  refine ⟨a, c, e, h1, h2, hide fun k hk => ?_⟩
  obtain ⟨b, o, ha, hb, hc⟩ := h3 k hk
  exact ⟨b, o, ha, hb, fun w' hw => (hw.cell (by exact hb)).trans hc⟩
/-- The first k of a row. -/
theorem Ints.take {w : World} {a : Option Addr} {n c : Nat} {l : List Int} (h : Ints w (.slice a n c) l) (k : Nat) (hk : k ≤ l.length) : Ints w (.slice a k c) (l.take k) := by
  obtain ⟨a', c', e, h1, h2, h3⟩ := h
  injection e with e1 e2 e3
  subst e1 e2 e3
  have hl : (l.take k).length = k := by rw [List.length_take]; omega
  refine ⟨a, c, by rw [hl], by omega, h2, fun j hj => ?_⟩
  obtain ⟨b, o, ha, hb, hc⟩ := h3 j (by omega)
  exact ⟨b, o, ha, hb, by rw [hc, List.getElem_take]⟩
theorem BoxAt.other {w wx : World} {n : Int} {tv nv cv : Value} (h : BoxAt w wx n tv nv cv) (g j : Nat) (hg : w.heap.size + 1 < g) (u : Value) : BoxAt w (wx.setCell ⟨g, j, none⟩ u) n tv nv cv :=
  ⟨by rw [heap_setCell_other _ _ _ _ (by show w.heap.size ≠ g; omega)]; exact h.b1, by rw [heap_setCell_other _ _ _ _ (by show w.heap.size + 1 ≠ g; omega)]; exact h.b2, h.bel.setCell (by show w.heap.size ≤ g; omega) u⟩
theorem BoxAt.drew {w wx : World} {n : Int} {tv nv cv : Value} (h : BoxAt w wx n tv nv cv) : BoxAt w wx.drew n tv nv cv := h.below (Below.refl _ _).drew
end Go.Proofs.Ytoegjnolccabjab


/- Nets as the law's Make grows them: what they are, as plain functions; that they are nets, and that their texts are short. -/
namespace Go.Proofs.Ytoegjnolccabjab.Sp
open Go

/-- So many edges, of the numbers. -/
def mkE (n : Int) (ns : List Int) : Nat → Net
  | 0 => ⟨n, [], [], []⟩
  | j + 1 => edgeN (mkE n ns j) (ns.getD (2 * j) 0 % 1099511627776 % n) (ns.getD (2 * j) 0 % 1099511627776 / 9 % n) (capOf (ns.getD (2 * j + 1) 0)) (capOf ((ns.getD (2 * j + 1) 0).tdiv 11))
/-- Where a dart is laid into a turn. -/
def mkK (ns : List Int) (d : Nat) (m : Nat) : Nat := if ns.length = 0 then 0 else ((ns.getD (d % ns.length) 0).tdiv 7 % ((m : Int) + 1)).toNat
def insAt (l : List Int) (k : Nat) (d : Int) : List Int := l.take k ++ d :: l.drop k
/-- A vertex's turn, of the first so many darts. -/
def mkL (ns tail : List Int) (v : Int) : Nat → List Int
  | 0 => []
  | d + 1 => if tail.getD d 0 = v then insAt (mkL ns tail v d) (mkK ns d (mkL ns tail v d).length) d else mkL ns tail v d
/-- So many vertices' turns. -/
def mkR (ns : List Int) (q : Net) : Nat → Net
  | 0 => q
  | v + 1 => roundN (mkR ns q v) (mkL ns q.tail v q.tail.length)
def edges (n : Int) (ns : List Int) : Nat := if n = 0 then 0 else min (ns.length / 2) 20
def make (size : Int) (ns : List Int) : Net := mkR ns (mkE (size % 9) ns (edges (size % 9) ns)) (size % 9).toNat

end Go.Proofs.Ytoegjnolccabjab.Sp


/- The walk of the law's Make. -/
namespace Go.Proofs.Ytoegjnolccabjab
open Go Go.RowKit

theorem Ints.drop {w : World} {la : Option Addr} {lc : Nat} {l : List Int} (h : Ints w (.slice la l.length lc) l) (kk : Nat) (hk : kk ≤ l.length) : Ints w (.slice (if lc = kk then la else Option.map (fun x => x.add kk) la) (l.length - kk) (lc - kk)) (l.drop kk) := by
  obtain ⟨a', c', e, h1, h2, h3⟩ := h
  injection e with e1 e2 e3
  subst e1 e3
  refine ⟨_, _, by rw [List.length_drop], by rw [List.length_drop]; omega, by omega, fun j hj => ?_⟩
  rw [List.length_drop] at hj
  obtain ⟨b, o, rfl, hb, hc⟩ := h3 (kk + j) (by omega)
  refine ⟨b, o + kk, ?_, hb, ?_⟩
  · rw [if_neg (by omega), Option.map_some]
    have e2 : (⟨b, o, none⟩ : Addr).add kk = ⟨b, o + kk, none⟩ := by unfold Addr.add; split <;> simp_all
    rw [e2]
  · rw [Nat.add_assoc, hc, List.getElem_drop]
theorem NetI.drew {w : World} {v : Value} {q : Sp.Net} {tv nv cv : Value} (h : NetI w v q tv nv cv) : NetI w.drew v q tv nv cv := h.below (Below.refl _ w).drew
theorem NetV.keep {w w' : World} {B : Nat} {v : Value} {q : Sp.Net} {tv nv cv : Value} (h : NetV w B v q tv nv cv) (hb : Below w.heap.size w w') : NetV w' B v q tv nv cv :=
  ⟨h.val, own_below h.tail hb, own_below h.next hb, own_below h.cap hb, h.tn, h.tc, h.nc⟩
/-- A call's frame with room for the net that it answers, and its own net. -/
structure MakeAt (w wx : World) (n : Int) (tv nv cv : Value) : Prop where
  b0 : wx.heap[w.heap.size]? = some (.cells #[.int .i64 0, .slice none 0 0, .slice none 0 0, .slice none 0 0] 26 (0, 0))
  b1 : wx.heap[w.heap.size + 1]? = some (.cells #[.int .i64 n, tv, nv, cv] 26 (0, 0))
  bel : Below w.heap.size w wx
theorem MakeAt.size {w wx : World} {n : Int} {tv nv cv : Value} (h : MakeAt w wx n tv nv cv) : w.heap.size + 1 < wx.heap.size := heap_lt h.b1
theorem MakeAt.below {w wx wy : World} {n : Int} {tv nv cv : Value} (h : MakeAt w wx n tv nv cv) (hb : Below wx.heap.size wx wy) : MakeAt w wy n tv nv cv := by
  have hs := h.size
  exact ⟨(hb.block _ (by omega)).trans h.b0, (hb.block _ (by omega)).trans h.b1, h.bel.trans (hb.mono (by omega))⟩
theorem MakeAt.start (w : World) (n : Int) (tv nv cv : Value) : MakeAt w ((w.alloc (.cells #[.int .i64 0, .slice none 0 0, .slice none 0 0, .slice none 0 0] 26)).alloc (.cells #[.int .i64 n, tv, nv, cv] 26)) n tv nv cv := by
  have hz : (w.alloc (.cells #[.int .i64 0, .slice none 0 0, .slice none 0 0, .slice none 0 0] 26)).heap.size = w.heap.size + 1 := by simp
  refine ⟨?_, ?_, ((Below.refl _ w).alloc (Nat.le_refl _) _).alloc (by simp) _⟩
  · exact (heap_alloc_old _ _ (by simp)).trans (heap_alloc_new w _)
  · have h := heap_alloc_new (w.alloc (.cells #[.int .i64 0, .slice none 0 0, .slice none 0 0, .slice none 0 0] 26)) (.cells #[.int .i64 n, tv, nv, cv] 26)
    rw [hz] at h; exact h
/-- The whole net stored anew. -/
theorem MakeAt.set {w wx : World} {n : Int} {tv nv cv : Value} (h : MakeAt w wx n tv nv cv) (n' : Int) (a b c : Value) : MakeAt w ((((wx.setCell ⟨w.heap.size + 1, 0, none⟩ (.int .i64 n')).setCell ⟨w.heap.size + 1, 1, none⟩ a).setCell ⟨w.heap.size + 1, 2, none⟩ b).setCell ⟨w.heap.size + 1, 3, none⟩ c) n' a b c := by
  have h0 := heap_setCell_same wx (w.heap.size + 1) 0 _ _ (.int .i64 n') h.b1
  have h1 := heap_setCell_same _ (w.heap.size + 1) 1 _ _ a h0
  have h2 := heap_setCell_same _ (w.heap.size + 1) 2 _ _ b h1
  have h3 := heap_setCell_same _ (w.heap.size + 1) 3 _ _ c h2
  refine ⟨?_, by rw [h3]; rfl, four_below h.bel w.heap.size rfl n' a b c⟩
  rw [heap_setCell_other _ _ _ _ (by simp), heap_setCell_other _ _ _ _ (by simp), heap_setCell_other _ _ _ _ (by simp), heap_setCell_other _ _ _ _ (by simp)]
  exact h.b0
theorem MakeAt.done {w wx : World} {n : Int} {tv nv cv : Value} (h : MakeAt w wx n tv nv cv) (n' : Int) (a b c : Value) : ((((wx.setCell ⟨w.heap.size, 0, none⟩ (.int .i64 n')).setCell ⟨w.heap.size, 1, none⟩ a).setCell ⟨w.heap.size, 2, none⟩ b).setCell ⟨w.heap.size, 3, none⟩ c).heap[w.heap.size]? = some (.cells #[.int .i64 n', a, b, c] 26 (0, 0)) := by
  have h0 := heap_setCell_same wx w.heap.size 0 _ _ (.int .i64 n') h.b0
  have h1 := heap_setCell_same _ w.heap.size 1 _ _ a h0
  have h2 := heap_setCell_same _ w.heap.size 2 _ _ b h1
  have h3 := heap_setCell_same _ w.heap.size 3 _ _ c h2
  rw [h3]; rfl
end Go.Proofs.Ytoegjnolccabjab


/- Nets that lie in blocks of their own. -/
namespace Go.Proofs.Ytoegjnolccabjab
open Go Go.RowKit

theorem Ints.len {w : World} {v : Value} {l : List Int} (h : Ints w v l) : l.length ≤ 9223372036854775807 := by
  obtain ⟨a, c, -, h1, h2, -⟩ := h
  unfold maxLen at h2
  omega
/-- A net that lies in a block of its own. -/
theorem box_new (w : World) (n : Int) (a b c : Value) (w' : World) (hb : Below (w.heap.size + 1) (w.alloc (.cells #[.int .i64 n, a, b, c] 26)) w') :
    w'.cell? ⟨w.heap.size, 0, none⟩ = some (.int .i64 n) ∧ w'.cell? ⟨w.heap.size, 1, none⟩ = some a ∧ w'.cell? ⟨w.heap.size, 2, none⟩ = some b ∧ w'.cell? ⟨w.heap.size, 3, none⟩ = some c ∧ w.heap.size + 1 ≤ w'.heap.size := by
  obtain ⟨k0, k1, k2, k3⟩ := net_new w (.int .i64 n) a b c 26
  have hs := hb.size
  simp at hs
  exact ⟨(hb.cell (by show w.heap.size < _; omega)).trans k0, (hb.cell (by show w.heap.size < _; omega)).trans k1, (hb.cell (by show w.heap.size < _; omega)).trans k2, (hb.cell (by show w.heap.size < _; omega)).trans k3, hs⟩
end Go.Proofs.Ytoegjnolccabjab


