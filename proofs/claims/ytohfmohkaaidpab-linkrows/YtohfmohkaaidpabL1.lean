/- What the proof needs, part 1. -/
import Derived.Lib.Strings
import Derived.Lib.Index
import Derived.Lib.CutLaws
import Derived.Lib.ItoaLen
import Derived.Lib.Split
import Derived.Lib.SplitLaws
import Derived.Lib.CountLaws
import Derived.Test.YtohfmohkaaidpabProg
import Derived.WalkKit
import Derived.WalkSpells
import Derived.WalkLawsBesides
import Derived.BigQuiet
import Derived.Deep.DeepFit
import Derived.Outline
import Derived.Deep.AppendLies
import Derived.Deep.QuietTactic
import Derived.BigRegion
import Derived.ScopeJumps
import Derived.WalkMore
import Derived.Deep.RegionHeld3
import Derived.Lib.Join
import Derived.Below
import Derived.Deep.DeepCutAuto
import Derived.Deep.LoopGhost
/- What the program's functions of package net compute, as plain functions on lists of bytes and of integers. Nothing of the translation is named here. -/
namespace Go.Proofs.Ytohfmohkaaidpab.Sp

/-- Is a byte a digit? -/
def isDig (c : UInt8) : Bool := decide (48 ≤ (c.toNat : Int)) && decide ((c.toNat : Int) ≤ 57)
/-- One digit more, held at 10^15. -/
def step (x : Int) (c : UInt8) : Int := min (10 * x + ((c.toNat : Int) - 48)) 1000000000000000
def readTo (l : List UInt8) : Int := l.foldl step 0
/-- A word that is a number (its amount held at 10^15). -/
def number (s : List UInt8) : Option Int :=
  if (Lib.trimPrefix s [45]) = [] then none
  else if (Lib.trimPrefix s [45]).head? = some 48 ∧ s ≠ [48] then none
  else if (Lib.trimPrefix s [45]).all isDig then some (if Lib.hasPrefix s [45] then - readTo (Lib.trimPrefix s [45]) else readTo (Lib.trimPrefix s [45]))
  else none

/-- A text parted by a byte. -/
def partsBy (z : UInt8) : List UInt8 → List (List UInt8)
  | [] => [[]]
  | c :: r => if c = z then [] :: partsBy z r else match partsBy z r with
    | [] => [[c]]
    | p :: q => (c :: p) :: q
def parts (l : List UInt8) : List (List UInt8) := partsBy 32 l
def nums : List (List UInt8) → Option (List Int)
  | [] => some []
  | p :: r => (number p).bind fun x => (nums r).map (x :: ·)
/-- Numbers, one blank between; of no bytes none. -/
def numbers (s : List UInt8) : Option (List Int) := if s = [] then some [] else nums (parts s)

def great (x : Int) : Bool := x == 1000000000000000 || x == -1000000000000000
/-- net.Row. -/
def row (s : List UInt8) : Option (List Int) := (numbers s).bind fun l => if l.any great then none else some l
/-- A net: how many vertices; where each dart begins; the next one about; what it holds. -/
structure Net where
  n : Int
  tail : List Int
  next : List Int
  cap : List Int
def zero : Net := ⟨0, [], [], []⟩
abbrev Line := List UInt8 × List Int
def head (q : Net) (l : Line) : Net := { q with n := l.2.getD 0 0 }
def edge (q : Net) (l : Line) : Net := ⟨q.n, q.tail ++ [l.2.getD 0 0, l.2.getD 1 0], q.next ++ [-1, -1], q.cap ++ [l.2.getD 2 0, l.2.getD 3 0]⟩
/-- The next darts behind k of the turn's numbers; none: a dart had one. -/
def turnTo (next nums : List Int) : Nat → Option (List Int)
  | 0 => some next
  | k + 1 => (turnTo next nums k).bind fun nx => if nx.getD (nums.getD k 0).toNat 0 = -1 then some (nx.set (nums.getD k 0).toNat (nums.getD ((k + 1) % nums.length) 0)) else none
def countOf (l : List Int) (x : Int) : Int := (l.filter fun y => decide (y = x)).length
def turn (q : Net) (l : Line) : Net := { q with next := (turnTo q.next l.2 l.2.length).getD [] }
end Go.Proofs.Ytohfmohkaaidpab.Sp


/- Small words that the walks share. -/
namespace Go.Proofs.Ytohfmohkaaidpab
open Go.RowKit

theorem hide {p : Prop} (h : p) : Hid p := h
theorem unhide {p : Prop} (h : Hid p) : p := h
end Go.Proofs.Ytohfmohkaaidpab


/- Shortest ways: what a row of distances is; two such rows are one; passes over the arcs come to it (P601). -/
namespace Go.Proofs.Ytohfmohkaaidpab
open Go Go.RowKit

structure Sp.Arc where
  f : Nat
  t : Nat
  l : Int
/-- In m arcs from s to v, x long. -/
def Sp.Wk (L : List Sp.Arc) (s : Nat) : Nat → Nat → Int → Prop
  | 0, v, x => v = s ∧ x = 0
  | m + 1, v, x => ∃ a ∈ L, a.t = v ∧ Sp.Wk L s m a.f (x - a.l)
/-- How long the shortest ways are (far: there is none). -/
structure Sp.Short (far : Int) (L : List Sp.Arc) (s n : Nat) (D : Nat → Int) : Prop where
  src : D s = 0
  arc : ∀ a ∈ L, D a.f ≠ far → D a.t ≠ far ∧ D a.t ≤ D a.f + a.l
  att : ∀ v, v < n → D v ≠ far → ∃ m, Sp.Wk L s m v (D v)
theorem Sp.Short.low {far : Int} {L : List Sp.Arc} {s n : Nat} {D : Nat → Int} (h : Sp.Short far L s n D) (hf : far ≠ 0) : ∀ m v x, Sp.Wk L s m v x → D v ≠ far ∧ D v ≤ x
  | 0, v, x, hw => by
    obtain ⟨rfl, rfl⟩ := hw
    rw [h.src]
    exact ⟨fun e => hf e.symm, Int.le_refl _⟩
  | m + 1, v, x, hw => by
    obtain ⟨a, ha, rfl, hw⟩ := hw
    obtain ⟨h1, h2⟩ := Sp.Short.low h hf m a.f _ hw
    obtain ⟨h3, h4⟩ := h.arc a ha h1
    exact ⟨h3, by omega⟩
theorem Sp.Short.uniq {far : Int} {L : List Sp.Arc} {s n : Nat} {D D' : Nat → Int} (h : Sp.Short far L s n D) (h' : Sp.Short far L s n D') (hf : far ≠ 0) {v : Nat} (hv : v < n) : D v = D' v := by
  by_cases h1 : D v = far
  · by_cases h2 : D' v = far
    · rw [h1, h2]
    · obtain ⟨m, hm⟩ := h'.att v hv h2
      exact absurd h1 (h.low hf m v _ hm).1
  · obtain ⟨m, hm⟩ := h.att v hv h1
    obtain ⟨h2, h3⟩ := h'.low hf m v _ hm
    obtain ⟨m', hm'⟩ := h'.att v hv h2
    have := (h.low hf m' v _ hm').2
    omega
end Go.Proofs.Ytohfmohkaaidpab


/- The walk of net.numbers. -/
namespace Go.Proofs.Ytohfmohkaaidpab
open Go.RowKit
/-- A slice of integers that the call has made. -/
abbrev OwnI (w : World) (base : Nat) (v : Value) (l : List Int) : Prop := w.ownsRow base 3 1 v l.length (l.map (Value.int .i64))
theorem below_dn {B : Nat} {a w : World} (h : Below B a w) (n : Nat) : Below B a (w.drewN n) := h.trans ⟨rfl, rfl, rfl, Nat.le_refl _, fun _ _ => rfl⟩
end Go.Proofs.Ytohfmohkaaidpab


/- The walk of net.Row; slices of integers that are read. -/
namespace Go.Proofs.Ytohfmohkaaidpab
open Go.RowKit

/-- A slice of integers, wherever it lies. -/
def Ints (w : World) (v : Value) (l : List Int) : Prop :=
  ∃ (a : Option Addr) (c : Nat), v = .slice a l.length c ∧ l.length ≤ c ∧ c ≤ maxLen ∧ ∀ k, (h : k < l.length) → ∃ b o, a = some ⟨b, o, none⟩ ∧ b < w.heap.size ∧ w.cell? ⟨b, o + k, none⟩ = some (.int .i64 l[k])
theorem Ints.below {w w' : World} {v : Value} {l : List Int} (h : Ints w v l) (hb : Below w.heap.size w w') : Ints w' v l := by
  obtain ⟨a, c, hv, hc, hm, hk⟩ := h
  refine ⟨a, c, hv, hc, hm, fun k h => ?_⟩
  obtain ⟨b, o, ha, hlt, hcell⟩ := hk k h
  exact ⟨b, o, ha, Nat.lt_of_lt_of_le hlt hb.size, (hb.cell (by exact hlt)).trans hcell⟩
theorem OwnI.ints {w : World} {B : Nat} {v : Value} {l : List Int} (h : OwnI w B v l) : Ints w v l := by
  have h' := h
  obtain ⟨_, hv | ⟨g, cap, cur, hv, hb, hg, hc, hm, hs, ht⟩⟩ := h
  · refine ⟨none, 0, by rw [hv.1, hv.2], by omega, by simp [maxLen], fun k hk => by omega⟩
  · refine ⟨some ⟨g, 0, none⟩, cap, hv, hc, hm, fun k hk => ⟨g, 0, rfl, (h'.lt g (by rw [hv]; rfl)).2, ?_⟩⟩
    have := h'.cells (g := g) (by rw [hv]; rfl) k (.int .i64 l[k]) (by simp [hk])
    have e : (⟨g, 0, none⟩ : Addr).add k = ⟨g, 0 + k, none⟩ := by unfold Addr.add; split <;> simp_all
    rw [← e]; exact this

end Go.Proofs.Ytohfmohkaaidpab


/- The walk of net.RowText. -/
namespace Go.Proofs.Ytohfmohkaaidpab
open Go.RowKit

theorem own_below {w w' : World} {base e size n : Nat} {v : Value} {xs : List Value} (h : w.ownsRow base e size v n xs) (hb : Below w.heap.size w w') : w'.ownsRow base e size v n xs := by
  have hlt := h.lt
  obtain ⟨hx, hv | ⟨g, cap, cur, hv, hg, hh, r⟩⟩ := h
  · exact ⟨hx, .inl hv⟩
  · exact ⟨hx, .inr ⟨g, cap, cur, hv, hg, (hb.block g (hlt g (by rw [hv]; rfl)).2).trans hh, r⟩⟩
end Go.Proofs.Ytohfmohkaaidpab


/- The walk of net.lineAt. -/
namespace Go.Proofs.Ytohfmohkaaidpab
open Go.RowKit

/-- A slice of texts, wherever it lies. -/
def Strs (w : World) (v : Value) (l : List ByteArray) : Prop :=
  ∃ (a : Option Addr) (c : Nat), v = .slice a l.length c ∧ l.length ≤ c ∧ c ≤ maxLen ∧ ∀ k, (h : k < l.length) → ∃ b o, a = some ⟨b, o, none⟩ ∧ b < w.heap.size ∧ w.cell? ⟨b, o + k, none⟩ = some (.string l[k])
theorem Strs.below {w w' : World} {v : Value} {l : List ByteArray} (h : Strs w v l) (hb : Below w.heap.size w w') : Strs w' v l := by
  obtain ⟨a, c, hv, hc, hm, hk⟩ := h
  refine ⟨a, c, hv, hc, hm, fun k h => ?_⟩
  obtain ⟨b, o, ha, hlt, hcell⟩ := hk k h
  exact ⟨b, o, ha, Nat.lt_of_lt_of_le hlt hb.size, (hb.cell (by exact hlt)).trans hcell⟩
end Go.Proofs.Ytohfmohkaaidpab


/- The walks of net.countOf and of the draft's head. -/
namespace Go.Proofs.Ytohfmohkaaidpab
open Go.RowKit

/-- Below base all but block p is as it was. -/
structure Keep (p base : Nat) (w w' : World) : Prop where
  os : w'.os = w.os
  tape : w'.tape = w.tape
  output : w'.output = w.output
  size : w.heap.size ≤ w'.heap.size
  block : ∀ k, k < base → k ≠ p → w'.heap[k]? = w.heap[k]?
theorem Keep.refl (p base : Nat) (w : World) : Keep p base w w := ⟨rfl, rfl, rfl, Nat.le_refl _, fun _ _ _ => rfl⟩
theorem Keep.trans {p base : Nat} {a b c : World} (h : Keep p base a b) (k : Keep p base b c) : Keep p base a c :=
  ⟨k.os.trans h.os, k.tape.trans h.tape, k.output.trans h.output, Nat.le_trans h.size k.size, fun j hj hp => (k.block j hj hp).trans (h.block j hj hp)⟩
theorem Keep.of {p base : Nat} {a b : World} (h : Below base a b) : Keep p base a b := ⟨h.os, h.tape, h.output, h.size, fun k hk _ => h.block k hk⟩
theorem Keep.below {p base : Nat} {a b : World} (h : Keep p base a b) (hp : p ≤ base) : Below p a b := ⟨h.os, h.tape, h.output, h.size, fun k hk => h.block k (by omega) (by omega)⟩
theorem Keep.alloc {p base : Nat} {a w : World} (h : Keep p base a w) (hB : base ≤ w.heap.size) (o : Obj) : Keep p base a (w.alloc o) :=
  h.trans (.of ((Below.refl base w).alloc hB o))
theorem Keep.drew {p base : Nat} {a w : World} (h : Keep p base a w) : Keep p base a w.drew := h.trans (.of (Below.refl base w).drew)
theorem Keep.setCell {p base : Nat} {a w : World} (h : Keep p base a w) {q : Addr} (hq : q.block = p ∨ base ≤ q.block) (u : Value) : Keep p base a (w.setCell q u) :=
  h.trans ⟨rfl, rfl, rfl, by simp, fun k hk hp => Below.heap_setCell w q u k (by rcases hq with hq | hq <;> omega)⟩
theorem Keep.grown {p base : Nat} {a w w' : World} {row : Option Nat} (h : Keep p base a w) (hg : w.grownBy w' row) (hB : base ≤ w.heap.size) (hr : ∀ k, row = some k → base ≤ k) : Keep p base a w' :=
  h.trans (.of ((Below.refl base w).grown hg hB hr))

end Go.Proofs.Ytohfmohkaaidpab


/- The walk of the draft's edge. -/
namespace Go.Proofs.Ytohfmohkaaidpab
open Go.RowKit

theorem Ints.at {w : World} {v : Value} {l : List Int} (h : Ints w v l) (hl : 0 < l.length) :
    ∃ b o c, v = .slice (some ⟨b, o, none⟩) l.length c ∧ l.length ≤ c ∧ c ≤ maxLen ∧ b < w.heap.size ∧ ∀ k, (hk : k < l.length) → w.cell? ⟨b, o + k, none⟩ = some (.int .i64 l[k]) := by
  obtain ⟨a, c, rfl, hc, hm, hcell⟩ := h
  obtain ⟨b, o, rfl, hb, _⟩ := hcell 0 hl
  refine ⟨b, o, c, rfl, hc, hm, hb, fun k hk => ?_⟩
  obtain ⟨b', o', e, _, h'⟩ := hcell k hk
  injection e with e
  injection e with e1 e2
  subst e1 e2
  exact h'
theorem Keep.drewN {p base : Nat} {a w : World} (h : Keep p base a w) (n : Nat) : Keep p base a (w.drewN n) := h.trans (.of (below_dn (Below.refl base w) n))
/-- The four numbers of an edge's line. -/
theorem four {N : List Int} (h : N.length = 4) : ∃ a b c d, N = [a, b, c, d] := by
  match N, h with
  | [a, b, c, d], _ => exact ⟨a, b, c, d, rfl⟩
end Go.Proofs.Ytohfmohkaaidpab


/- The walk of the draft's turn. -/
namespace Go.Proofs.Ytohfmohkaaidpab
open Go.RowKit

/-- All blocks but one are as they were. -/
structure ButRow (g : Nat) (w w' : World) : Prop where
  os : w'.os = w.os
  tape : w'.tape = w.tape
  output : w'.output = w.output
  size : w'.heap.size = w.heap.size
  block : ∀ k, k ≠ g → w'.heap[k]? = w.heap[k]?
theorem ButRow.refl (g : Nat) (w : World) : ButRow g w w := ⟨rfl, rfl, rfl, rfl, fun _ _ => rfl⟩
theorem ButRow.cell {g : Nat} {w w' : World} (h : ButRow g w w') {a : Addr} (ha : a.block ≠ g) : w'.cell? a = w.cell? a := World.cell?_of_block (h.block _ ha)
theorem ButRow.keep {g p base : Nat} {w w' : World} (h : ButRow g w w') (hg : base ≤ g) : Keep p base w w' := ⟨h.os, h.tape, h.output, by rw [h.size]; exact Nat.le_refl _, fun k hk _ => h.block k (by omega)⟩
theorem own_frozen {w : World} {base g n c : Nat} {l : List Int} (h : OwnI w base (.slice (some ⟨g, 0, none⟩) n c) l) (j : Nat) : w.frozen? ⟨g, j, none⟩ = false := by
  obtain ⟨_, hv | ⟨g', cap, cur, hv, hb, hg, _⟩⟩ := h
  · simp at hv
  · injection hv with hv _ _
    injection hv with hv
    injection hv with hv
    subst hv
    simp [World.frozen?, hg]
theorem own_cell {w : World} {base g n c : Nat} {l : List Int} (h : OwnI w base (.slice (some ⟨g, 0, none⟩) n c) l) (j : Nat) (hj : j < l.length) : w.cell? ⟨g, j, none⟩ = some (.int .i64 l[j]) := by
  have := h.cells (g := g) rfl j (.int .i64 l[j]) (by simp [hj])
  have e : (⟨g, 0, none⟩ : Addr).add j = ⟨g, j, none⟩ := by unfold Addr.add; split <;> simp_all
  rw [← e]; exact this
theorem ButRow.setCell {g : Nat} {w w' : World} (h : ButRow g w w') (j : Nat) (u : Value) : ButRow g w (w'.setCell ⟨g, j, none⟩ u) :=
  ⟨h.os, h.tape, h.output, by rw [World.size_setCell]; exact h.size, fun k hk => (heap_setCell_other w' _ k _ (by exact hk)).trans (h.block k hk)⟩
theorem ButRow.drew {g : Nat} {w w' : World} (h : ButRow g w w') : ButRow g w w'.drew := ⟨h.os, h.tape, h.output, h.size, h.block⟩

end Go.Proofs.Ytohfmohkaaidpab


/- A scope with several labels; strings.Split at a line's end. -/
namespace Go.Proofs.Ytohfmohkaaidpab
open Go Go.RowKit

/-- As Q; by a goto to label l: J l. -/
def jumps (J : Nat → Act → World → Prop) (Q : Exit → Act → World → Prop) : Exit → Act → World → Prop
  | .goto l, a, w => J l a w
  | e, a, w => Q e a w
theorem wp_scope_many {P : Program} {a : Act} {w : World} {Q : Exit → Act → World → Prop} {c : Code} (J : Nat → Act → World → Prop) (μ : Nat → Act → World → Nat)
    (first : c.wp P (jumps J Q) a w)
    (pass : ∀ l a w, J l a w → ∃ rest, findLabel c l = some rest ∧ rest.wp P (jumps (fun l' a' w' => J l' a' w' ∧ μ l' a' w' < μ l a w) Q) a w) : (Code.scope c).wp P Q a w := by
  intro b k cs
  have key : ∀ n l a w, μ l a w = n → J l a w → ∃ rest, findLabel c l = some rest ∧ ∃ e a' w', Q e a' w' ∧ Arrives P (lone (b.at a (.code rest :: .inScope c :: k)) cs w) b k cs e a' w' := by
    intro n
    induction n using Nat.strongRecOn with
    | _ n ih =>
      intro l a w hn hJ
      obtain ⟨rest, hf, hw⟩ := pass l a w hJ
      refine ⟨rest, hf, ?_⟩
      obtain ⟨e, a₁, w₁, hq, harr⟩ := hw b (.inScope c :: k) cs
      cases e with
      | normal => exact ⟨.normal, a₁, w₁, hq, Steps.trans harr (.one step_inScope)⟩
      | exit id => exact ⟨.exit id, a₁, w₁, hq, fun k' hk => harr k' (by simp [exitTo, hk])⟩
      | goto l' =>
        obtain ⟨hJ', hlt⟩ := hq
        obtain ⟨rest', hf', e₂, a₂, w₂, hq₂, harr₂⟩ := ih _ (by omega) l' a₁ w₁ rfl hJ'
        have hg : gotoIn l' (.inScope c :: k) = some (.code rest' :: .inScope c :: k) := by simp [gotoIn, hf']
        exact ⟨e₂, a₂, w₂, hq₂, .of_steps (harr _ hg) harr₂⟩
      | ret => exact ⟨_, a₁, w₁, hq, harr⟩
      | panic ch => exact ⟨_, a₁, w₁, hq, harr⟩
      | outgrown => exact ⟨_, a₁, w₁, hq, harr⟩
  obtain ⟨e, a₁, w₁, hq, harr⟩ := first b (.inScope c :: k) cs
  cases e with
  | normal => exact ⟨.normal, a₁, w₁, hq, .head step_scope (Steps.trans harr (.one step_inScope))⟩
  | exit id => exact ⟨.exit id, a₁, w₁, hq, fun k' hk => .head step_scope (harr k' (by simp [exitTo, hk]))⟩
  | goto l' =>
    obtain ⟨rest', hf', e₂, a₂, w₂, hq₂, harr₂⟩ := key _ l' a₁ w₁ rfl hq
    have hg : gotoIn l' (.inScope c :: k) = some (.code rest' :: .inScope c :: k) := by simp [gotoIn, hf']
    exact ⟨e₂, a₂, w₂, hq₂, .of_steps (.head step_scope (harr _ hg)) harr₂⟩
  | ret => exact ⟨_, a₁, w₁, hq, .of_steps (.one step_scope) harr⟩
  | panic ch => exact ⟨_, a₁, w₁, hq, .of_steps (.one step_scope) harr⟩
  | outgrown => exact ⟨_, a₁, w₁, hq, .of_steps (.one step_scope) harr⟩

/-- The same, where the way to the first jump comes to a label by itself: what holds behind each label is at hand there. -/
theorem wp_scope_more {P : Program} {a : Act} {w : World} {Q : Exit → Act → World → Prop} {c : Code} (J : Nat → Act → World → Prop) (μ : Nat → Act → World → Nat)
    (pass : ∀ l a w, J l a w → ∃ rest, findLabel c l = some (Code.skip.seq rest) ∧ rest.wp P (jumps (fun l' a' w' => J l' a' w' ∧ μ l' a' w' < μ l a w) Q) a w)
    (first : (∀ l a w rest, J l a w → findLabel c l = some (Code.skip.seq rest) → rest.wp P (jumps J Q) a w) → c.wp P (jumps J Q) a w) : (Code.scope c).wp P Q a w := by
  refine wp_scope_many J μ (first fun l a w rest hJ hf => ?_) fun l a w hJ => ?_
  · obtain ⟨rest', hf', hw⟩ := pass l a w hJ
    have e : rest' = rest := by
      rw [hf] at hf'
      have := Option.some.inj hf'
      injection this with _ h
      exact h.symm
    subst e
    intro b k cs
    obtain ⟨e, a1, w1, hq, harr⟩ := hw b k cs
    refine ⟨e, a1, w1, ?_, harr⟩
    cases e with
    | goto l' => exact hq.1
    | _ => exact hq
  · obtain ⟨rest, hf, hw⟩ := pass l a w hJ
    exact ⟨_, hf, wp_seq (wp_skip hw)⟩
end Go.Proofs.Ytohfmohkaaidpab


/- The walk of net.Parse. -/
namespace Go.Proofs.Ytohfmohkaaidpab
open Go Go.RowKit

/-- A net's value: its lists in slices of the call's own, apart from one another. -/
structure NetV (w : World) (B : Nat) (v : Value) (q : Sp.Net) (tv nv cv : Value) : Prop where
  val : v = .agg #[.int .i64 q.n, tv, nv, cv]
  tail : OwnI w B tv q.tail
  next : OwnI w B nv q.next
  cap : OwnI w B cv q.cap
  tn : tv.ownBlock = none ∨ tv.ownBlock ≠ nv.ownBlock
  tc : tv.ownBlock = none ∨ tv.ownBlock ≠ cv.ownBlock
  nc : nv.ownBlock = none ∨ nv.ownBlock ≠ cv.ownBlock
def lenOf : Value → Nat | .slice _ n _ => n | _ => 0
end Go.Proofs.Ytohfmohkaaidpab


/- The walks of the reference's has, Same and of the law's Cap. -/
namespace Go.Proofs.Ytohfmohkaaidpab
open Go Go.RowKit

/-- A net's value, its lists wherever they lie. -/
structure NetI (w : World) (v : Value) (q : Sp.Net) (tv nv cv : Value) : Prop where
  val : v = .agg #[.int .i64 q.n, tv, nv, cv]
  tail : Ints w tv q.tail
  next : Ints w nv q.next
  cap : Ints w cv q.cap
theorem NetI.below {w w' : World} {v : Value} {q : Sp.Net} {tv nv cv : Value} (h : NetI w v q tv nv cv) (hb : Below w.heap.size w w') : NetI w' v q tv nv cv :=
  ⟨h.val, h.tail.below hb, h.next.below hb, h.cap.below hb⟩
end Go.Proofs.Ytohfmohkaaidpab


/- Lines that tell a net are read as that net: the text of headLine, edge lines, turn lines. -/
namespace Go.Proofs.Ytohfmohkaaidpab.Sp
open Go

/-- A vertex's darts in turn. -/
structure RoundOf (q : Net) (v : Nat) (l : List Int) : Prop where
  nodup : l.Nodup
  dart : ∀ x ∈ l, 0 ≤ x ∧ x < q.tail.length ∧ q.tail.getD x.toNat 0 = (v : Int)
  next : ∀ i, i < l.length → q.next.getD (l.getD i 0).toNat 0 = l.getD ((i + 1) % l.length) 0
  count : (l.length : Int) = countOf q.tail v
  all : ∀ d : Nat, d < q.tail.length → q.tail.getD d 0 = (v : Int) → (d : Int) ∈ l
/-- What W1 asks of a net's lists, turns aside. -/
structure Lists (q : Net) : Prop where
  n0 : 0 ≤ q.n
  n1 : q.n ≤ 60
  ev : q.tail.length % 2 = 0
  tl : q.tail.length ≤ 240
  nl : q.next.length = q.tail.length
  cl : q.cap.length = q.tail.length
  tb : ∀ x ∈ q.tail, 0 ≤ x ∧ x < q.n
  cb : ∀ x ∈ q.cap, 0 ≤ x ∧ x ≤ 2147483648

/- ---- bytes ---- -/
/- ---- lines of a text ---- -/
end Go.Proofs.Ytohfmohkaaidpab.Sp


/- Lines that tell a net are read as that net. -/
namespace Go.Proofs.Ytohfmohkaaidpab.Sp
open Go

theorem getD_mem {l : List Int} {k : Nat} (h : k < l.length) : l.getD k 0 ∈ l := by
  rw [List.getD_eq_getElem?_getD, List.getElem?_eq_getElem h]; exact List.getElem_mem h

/- ---- edges ---- -/
end Go.Proofs.Ytohfmohkaaidpab.Sp


/- The walks of net.walkable and net.round at a net. -/
namespace Go.Proofs.Ytohfmohkaaidpab
open Go Go.RowKit

theorem Ints.form {w : World} {v : Value} {l : List Int} (h : Ints w v l) : ∃ a c, v = .slice a l.length c ∧ l.length ≤ c ∧ c ≤ maxLen := by
  obtain ⟨a, c, hv, hc, hm, -⟩ := h
  exact ⟨a, c, hv, hc, hm⟩
end Go.Proofs.Ytohfmohkaaidpab


/- Arcs as cells, three each; rows of them, wherever they lie. -/
namespace Go.Proofs.Ytohfmohkaaidpab
open Go Go.RowKit

def Sp.arc0 : Sp.Arc := ⟨0, 0, 0⟩
def Sp.cells3 : List Sp.Arc → List Value
  | [] => []
  | p :: l => .int .i64 (p.f : Int) :: .int .i64 (p.t : Int) :: .int .i64 p.l :: Sp.cells3 l
theorem Sp.cells3_get : ∀ (l : List Sp.Arc) (j : Nat), j < l.length → (Sp.cells3 l)[j * 3]? = some (.int .i64 ((l.getD j Sp.arc0).f : Int)) ∧ (Sp.cells3 l)[j * 3 + 1]? = some (.int .i64 ((l.getD j Sp.arc0).t : Int)) ∧ (Sp.cells3 l)[j * 3 + 2]? = some (.int .i64 (l.getD j Sp.arc0).l)
  | [], j, h => by simp at h
  | p :: l, 0, _ => by simp [Sp.cells3]
  | p :: l, j + 1, h => by
    have := Sp.cells3_get l j (by simpa using h)
    have e1 : (j + 1) * 3 = j * 3 + 1 + 1 + 1 := by omega
    have e2 : j * 3 + 1 + 1 + 1 + 1 = j * 3 + 1 + 1 + 1 + 1 := rfl
    have e3 : j * 3 + 1 + 1 + 1 + 2 = j * 3 + 2 + 1 + 1 + 1 := by omega
    rw [e1, e3]
    simp only [Sp.cells3, List.getElem?_cons_succ, List.getD_cons_succ]
    exact this
/-- A row of arcs, wherever it lies. -/
def ArcsI (w : World) (v : Value) (L : List Sp.Arc) : Prop := ∃ (a : Option Addr) (c : Nat), v = .slice a L.length c ∧ L.length ≤ c ∧ c ≤ maxLen ∧ ∀ j u, (Sp.cells3 L)[j]? = some u → ∃ b o, a = some ⟨b, o, none⟩ ∧ b < w.heap.size ∧ w.cell? ⟨b, o + j, none⟩ = some u
theorem ArcsI.below {w w' : World} {v : Value} {L : List Sp.Arc} (h : ArcsI w v L) (hb : Below w.heap.size w w') : ArcsI w' v L := by
  obtain ⟨a, c, e, h1, h2, h3⟩ := h
  refine ⟨a, c, e, h1, h2, fun j u hj => ?_⟩
  obtain ⟨b, o, e1, e2, e3⟩ := h3 j u hj
  exact ⟨b, o, e1, by have := hb.size; omega, (hb.cell e2).trans e3⟩
theorem ArcsI.form {w : World} {v : Value} {L : List Sp.Arc} (h : ArcsI w v L) : ∃ (a : Option Addr) (c : Nat), v = .slice a L.length c ∧ L.length ≤ c ∧ c ≤ maxLen := by
  obtain ⟨a, c, e, h1, h2, -⟩ := h
  exact ⟨a, c, e, h1, h2⟩
theorem ArcsI.all {w : World} {v : Value} {L : List Sp.Arc} (h : ArcsI w v L) : ∃ (a : Option Addr) (c : Nat), v = .slice a L.length c ∧ L.length ≤ c ∧ c ≤ maxLen ∧ Hid (∀ k, k < L.length → ∃ b o, a = some ⟨b, o, none⟩ ∧ b < w.heap.size ∧ ∀ w', Below w.heap.size w w' → w'.cell? ⟨b, o + k * 3, none⟩ = some (.int .i64 ((L.getD k Sp.arc0).f : Int)) ∧ w'.cell? ⟨b, o + k * 3 + 1, none⟩ = some (.int .i64 ((L.getD k Sp.arc0).t : Int)) ∧ w'.cell? ⟨b, o + k * 3 + 2, none⟩ = some (.int .i64 (L.getD k Sp.arc0).l)) := by
  obtain ⟨a, c, e, h1, h2, h3⟩ := h
  refine ⟨a, c, e, h1, h2, hide fun k hk => ?_⟩
  obtain ⟨g0, g1, g2⟩ := Sp.cells3_get L k hk
  obtain ⟨b, o, e1, e2, e3⟩ := h3 _ _ g0
  obtain ⟨b', o', e1', -, e3'⟩ := h3 _ _ g1
  obtain ⟨b'', o'', e1'', -, e3''⟩ := h3 _ _ g2
  rw [e1] at e1' e1''
  injection e1' with e1'
  injection e1' with q1 q2
  injection e1'' with e1''
  injection e1'' with q3 q4
  subst q1 q2 q3 q4
  exact ⟨b, o, e1, e2, fun w' hb => ⟨(hb.cell e2).trans e3, (hb.cell (p := ⟨b, o + k * 3 + 1, none⟩) e2).trans e3', (hb.cell (p := ⟨b, o + k * 3 + 2, none⟩) e2).trans e3''⟩⟩
theorem ArcsI.drew {w : World} {v : Value} {L : List Sp.Arc} (h : ArcsI w v L) : ArcsI w.drew v L := h.below ((Below.refl _ _).drew)

end Go.Proofs.Ytohfmohkaaidpab


/- The walk of net.round. -/
namespace Go.Proofs.Ytohfmohkaaidpab
open Go Go.RowKit

/-- The dart that comes k behind d. -/
def Sp.nth (nx : List Int) (d : Int) : Nat → Int
  | 0 => d
  | k + 1 => nx.getD (nth nx d k).toNat 0
/-- d, and those behind it: m in all. -/
def Sp.rounds (nx : List Int) (d : Int) (m : Nat) : List Int := (List.range m).map (Sp.nth nx d)
end Go.Proofs.Ytohfmohkaaidpab


/- The walk of net.Text at a net: the head and the edges' lines. -/
namespace Go.Proofs.Ytohfmohkaaidpab
open Go Go.RowKit

/-- The text of an edge's four numbers, laid behind the lines: the statement of the loop. -/
theorem Ints.drew {w : World} {v : Value} {l : List Int} (h : Ints w v l) : Ints w.drew v l := h.below (Below.refl _ w).drew
/-- The least dart of a vertex, if it has one. -/
def Sp.first (tail : List Int) (v : Int) : Option Nat := (List.range tail.length).find? fun d => decide (tail.getD d 0 = v)
end Go.Proofs.Ytohfmohkaaidpab


/- A vertex's round may be told from any of its darts. -/
namespace Go.Proofs.Ytohfmohkaaidpab.Sp
open Go

/-- A net (W1). -/
structure Whole (q : Net) : Prop where
  lists : Lists q
  next : ∀ x ∈ q.next, 0 ≤ x ∧ x < q.tail.length
  round : ∀ v : Nat, (v : Int) < q.n → ∃ l, RoundOf q v l
end Go.Proofs.Ytohfmohkaaidpab.Sp


/- A region that draws its order: a load may be taken first although a later operation, which waits for it, writes its cell. -/
namespace Go.Proofs.Ytohfmohkaaidpab
open Go

section
variable {P : Program} {ops : Array Oper} {Q : Exit → Act → World → Prop} {md : Region.Mode} {S : World → Prop} {late : Nat → Bool}

/-- None of the late ones has come up. -/
def noLate (late : Nat → Bool) (listed : Array Bool) : Bool := (List.range listed.size).all fun j => !(late j && listed.getD j false)
theorem noLate_set {late : Nat → Bool} {listed : Array Bool} {i : Nat} (h : late i = false) : noLate late (listed.setIfInBounds i true) = noLate late listed := by
  unfold noLate
  rw [Array.size_setIfInBounds, Bool.eq_iff_iff, List.all_eq_true, List.all_eq_true]
  have key : ∀ j, (!(late j && (listed.setIfInBounds i true).getD j false)) = (!(late j && listed.getD j false)) := fun j => by
    by_cases hj : i = j
    · subst hj; rw [h]; simp
    · rw [getD_set_ne false hj]
  constructor
  · intro H j hj; rw [← key]; exact H j hj
  · intro H j hj; rw [key]; exact H j hj
/-- Whatever order is picked from here on; S holds behind every operation as long as no late one has come up. -/
def wpAnyG (P : Program) (md : Region.Mode) (ops : Array Oper) (Q : Exit → Act → World → Prop) (S : World → Prop) (late : Nat → Bool) : Nat → Array Bool → Act → World → Prop
  | 0, listed, a, w => Region.ready md ops listed = [] ∧ Q .normal a w
  | fuel + 1, listed, a, w =>
    (Region.ready md ops listed = [] → Q .normal a w) ∧
    ∀ i ∈ Region.ready md ops listed, wpOp P ops Q i (fun a' w' => (noLate late (listed.setIfInBounds i true) = true → S w') ∧ wpAnyG P md ops Q S late fuel (listed.setIfInBounds i true) a' w') a w
theorem wpAny_of_G : ∀ (fuel : Nat) (listed : Array Bool) (a : Act) (w : World), wpAnyG P md ops Q S late fuel listed a w → wpAny P md ops Q fuel listed a w
  | 0, _, _, _, h => h
  | fuel + 1, _, _, _, h => ⟨h.1, fun i hi => wpOp_mono (fun a' w' h' => wpAny_of_G fuel _ a' w' h'.2) (h.2 i hi)⟩
theorem wpAnyG_first {i : Nat} {oi : Oper} {v : Value} (hi : ops[i]? = some oi) (hsel : ∀ (j : Nat) (o : Oper) cs b, ops[j]? = some o → o.op ≠ .select cs b)
    (hil : late i = false) (hl : ∀ j oj, ops[j]? = some oj → late j = true → ∃ e ∈ oj.after, Region.binds md e = true ∧ e.on = i)
    (hQ : ∀ c a w, Q (.panic c) (a.put oi.dst v) w → Q (.panic c) a w) :
    ∀ (fuel : Nat) (listed : Array Bool) (a : Act) (w : World),
      (∀ j oj, ops[j]? = some oj → j ≠ i → listed.getD j true = false → (∀ e ∈ oj.after, Region.binds md e = true → e.on ≠ i) → oi.apart ops oj = true) →
      i ∈ Region.ready md ops listed → noLate late listed = true → YieldsIf P ops S oi v a → S w →
      wpAnyG P md ops Q S late fuel (listed.setIfInBounds i true) (a.put oi.dst v) w → wpAnyG P md ops Q S late (fuel + 1) listed a w := by
  intro fuel
  induction fuel with
  | zero =>
    intro listed a w _ hr _ hy hS H
    refine ⟨fun h => (by rw [h] at hr; cases hr), fun j hj => ?_⟩
    by_cases hji : j = i
    · subst hji; exact hy.wpOp hi hS ⟨fun _ => hS, H⟩
    · have := ready_mono hj hji
      rw [H.1] at this
      cases this
  | succ fuel ih =>
    intro listed a w hfree hr hnl hy hS H
    refine ⟨fun h => (by rw [h] at hr; cases hr), fun j hj => ?_⟩
    by_cases hji : j = i
    · subst hji; exact hy.wpOp hi hS ⟨fun _ => hS, H⟩
    · have h1 := H.2 j (ready_mono hj hji)
      obtain ⟨hjun, oj, hoj, hall⟩ := mem_ready.1 hj
      have hnot : ∀ e ∈ oj.after, Region.binds md e = true → e.on ≠ i := fun e he hb heq => by
        have h1 := hall e he hb
        have h0 := (mem_ready.1 hr).1
        rw [heq] at h1
        rcases Nat.lt_or_ge i listed.size with h' | h'
        · simp [h'] at h0 h1; rw [h0] at h1; cases h1
        · simp [Array.getElem?_eq_none h'] at h1
      have hlate : late j = false := by
        cases hl' : late j with
        | false => rfl
        | true =>
          obtain ⟨e, he, hb, heq⟩ := hl j oj hoj hl'
          exact absurd heq (hnot e he hb)
      have hn1 : noLate late (listed.setIfInBounds j true) = true := by rw [noLate_set hlate]; exact hnl
      have hn2 : noLate late ((listed.setIfInBounds i true).setIfInBounds j true) = true := by rw [noLate_set hlate, noLate_set hil]; exact hnl
      have h2 := wpOp_putIf hoj (hfree j oj hoj hji hjun hnot) (fun cs b => hsel i oi cs b hi) (fun cs b => hsel j oj cs b hoj) hQ hy h1
      have hfree' : ∀ k ok, ops[k]? = some ok → k ≠ i → (listed.setIfInBounds j true).getD k true = false →
          (∀ e ∈ ok.after, Region.binds md e = true → e.on ≠ i) → oi.apart ops ok = true := fun k ok hk hki hun hno => by
        refine hfree k ok hk hki ?_ hno
        by_cases hjk : j = k
        · subst hjk; exact hjun
        · rw [getD_set_ne true hjk] at hun; exact hun
      refine wpOp_mono (fun a' w' h3 => ⟨fun _ => h3.2.1 hn2, ih (listed.setIfInBounds j true) a' w' hfree' (ready_mono hr (Ne.symm hji)) hn1 h3.1 (h3.2.1 hn2) ?_⟩) h2
      rw [Array.setIfInBounds_comm _ _ hji]
      exact h3.2.2
/-- What yields its value in whatever world may be taken first, late ones or not. -/
theorem wpAnyG_first' {i : Nat} {oi : Oper} {v : Value} (hi : ops[i]? = some oi) (hsel : ∀ (j : Nat) (o : Oper) cs b, ops[j]? = some o → o.op ≠ .select cs b)
    (hil : late i = false) (hQ : ∀ c a w, Q (.panic c) (a.put oi.dst v) w → Q (.panic c) a w) :
    ∀ (fuel : Nat) (listed : Array Bool) (a : Act) (w : World),
      (∀ j oj, ops[j]? = some oj → j ≠ i → listed.getD j true = false → (∀ e ∈ oj.after, Region.binds md e = true → e.on ≠ i) → oi.apart ops oj = true) →
      i ∈ Region.ready md ops listed → YieldsIf P ops (fun _ => True) oi v a → (noLate late listed = true → S w) →
      wpAnyG P md ops Q S late fuel (listed.setIfInBounds i true) (a.put oi.dst v) w → wpAnyG P md ops Q S late (fuel + 1) listed a w := by
  intro fuel
  induction fuel with
  | zero =>
    intro listed a w _ hr hy hS H
    refine ⟨fun h => (by rw [h] at hr; cases hr), fun j hj => ?_⟩
    by_cases hji : j = i
    · subst hji; exact hy.wpOp hi trivial ⟨fun h => hS (by rw [noLate_set hil] at h; exact h), H⟩
    · have := ready_mono hj hji
      rw [H.1] at this
      cases this
  | succ fuel ih =>
    intro listed a w hfree hr hy hS H
    refine ⟨fun h => (by rw [h] at hr; cases hr), fun j hj => ?_⟩
    by_cases hji : j = i
    · subst hji; exact hy.wpOp hi trivial ⟨fun h => hS (by rw [noLate_set hil] at h; exact h), H⟩
    · have h1 := H.2 j (ready_mono hj hji)
      obtain ⟨hjun, oj, hoj, hall⟩ := mem_ready.1 hj
      have hnot : ∀ e ∈ oj.after, Region.binds md e = true → e.on ≠ i := fun e he hb heq => by
        have h1 := hall e he hb
        have h0 := (mem_ready.1 hr).1
        rw [heq] at h1
        rcases Nat.lt_or_ge i listed.size with h' | h'
        · simp [h'] at h0 h1; rw [h0] at h1; cases h1
        · simp [Array.getElem?_eq_none h'] at h1
      have hn : noLate late ((listed.setIfInBounds i true).setIfInBounds j true) = noLate late (listed.setIfInBounds j true) := by
        rw [← Array.setIfInBounds_comm _ _ hji, noLate_set hil]
      have h2 := wpOp_putIf hoj (hfree j oj hoj hji hjun hnot) (fun cs b => hsel i oi cs b hi) (fun cs b => hsel j oj cs b hoj) hQ hy h1
      have hfree' : ∀ k ok, ops[k]? = some ok → k ≠ i → (listed.setIfInBounds j true).getD k true = false →
          (∀ e ∈ ok.after, Region.binds md e = true → e.on ≠ i) → oi.apart ops ok = true := fun k ok hk hki hun hno => by
        refine hfree k ok hk hki ?_ hno
        by_cases hjk : j = k
        · subst hjk; exact hjun
        · rw [getD_set_ne true hjk] at hun; exact hun
      refine wpOp_mono (fun a' w' h3 => ⟨fun h => h3.2.1 (by rw [hn]; exact h), ih (listed.setIfInBounds j true) a' w' hfree' (ready_mono hr (Ne.symm hji)) h3.1 (fun h => h3.2.1 (by rw [hn]; exact h)) ?_⟩) h2
      rw [Array.setIfInBounds_comm _ _ hji]
      exact h3.2.2
/-- Each late operation waits for number i. -/
def lateB (md : Region.Mode) (ops : Array Oper) (late : Nat → Bool) (i : Nat) : Bool := (List.range ops.size).all fun j => !late j || (match ops[j]? with | some o => o.after.any fun e => Region.binds md e && e.on == i | none => false)
theorem lateB_spec {i : Nat} (h : lateB md ops late i = true) : ∀ j oj, ops[j]? = some oj → late j = true → ∃ e ∈ oj.after, Region.binds md e = true ∧ e.on = i := by
  intro j oj hj hl
  unfold lateB at h
  rw [List.all_eq_true] at h
  have hlt : j < ops.size := by
    rcases Nat.lt_or_ge j ops.size with h' | h'
    · exact h'
    · rw [Array.getElem?_eq_none h'] at hj; cases hj
  have := h j (List.mem_range.2 hlt)
  rw [hl, hj] at this
  simp only [Bool.not_true, Bool.false_or, Array.any_eq_true, Bool.and_eq_true, beq_iff_eq] at this
  obtain ⟨k, hk, h1, h2⟩ := this
  exact ⟨_, Array.getElem_mem hk, h1, h2⟩
/-- Take number i first: a load. -/
theorem wpAnyG_take (i : Nat) {oi : Oper} {v : Value} {fuel : Nat} {listed : Array Bool} {a : Act} {w : World} (hi : ops[i]? = some oi)
    (hs : Region.noSelect ops = true) (hf : Region.free md ops listed i = true) (hr : (Region.ready md ops listed).contains i = true) (hl : (!late i && (lateB md ops late i && noLate late listed)) = true)
    (hQ : ∀ c a w, Q (.panic c) (a.put oi.dst v) w → Q (.panic c) a w) (hy : YieldsIf P ops S oi v a) (hS : S w)
    (h : wpAnyG P md ops Q S late fuel (listed.setIfInBounds i true) (a.put oi.dst v) w) : wpAnyG P md ops Q S late (fuel + 1) listed a w := by
  simp only [Bool.and_eq_true, Bool.not_eq_true'] at hl
  exact wpAnyG_first hi (Region.noSelect_spec hs) hl.1 (lateB_spec hl.2.1) hQ fuel listed a w (Region.free_spec hi hf) (by simpa using hr) hl.2.2 hy hS h
/-- Take number i first: what looks at no world. -/
theorem wpAnyG_takeW (i : Nat) {oi : Oper} {v : Value} {fuel : Nat} {listed : Array Bool} {a : Act} {w : World} (hi : ops[i]? = some oi)
    (hs : Region.noSelect ops = true) (hf : Region.free md ops listed i = true) (hr : (Region.ready md ops listed).contains i = true) (hl : late i = false)
    (hQ : ∀ c a w, Q (.panic c) (a.put oi.dst v) w → Q (.panic c) a w) (hy : YieldsIf P ops (fun _ => True) oi v a) (hS : S w)
    (h : wpAnyG P md ops Q S late fuel (listed.setIfInBounds i true) (a.put oi.dst v) w) : wpAnyG P md ops Q S late (fuel + 1) listed a w :=
  wpAnyG_first' hi (Region.noSelect_spec hs) hl hQ fuel listed a w (Region.free_spec hi hf) (by simpa using hr) hy (fun _ => hS) h
theorem wpAnyG_done {listed : Array Bool} {a : Act} {w : World} (hr : Region.ready md ops listed = []) (h : Q .normal a w) :
    ∀ fuel, wpAnyG P md ops Q S late fuel listed a w
  | 0 => ⟨hr, h⟩
  | _ + 1 => ⟨fun _ => h, by rw [hr]; simp⟩
def AllReadyG (P : Program) (md : Region.Mode) (ops : Array Oper) (Q : Exit → Act → World → Prop) (S : World → Prop) (late : Nat → Bool) (fuel : Nat) (listed : Array Bool) (a : Act) (w : World) (rs : List Nat) : Prop :=
  ∀ i ∈ rs, wpOp P ops Q i (fun a' w' => (noLate late (listed.setIfInBounds i true) = true → S w') ∧ wpAnyG P md ops Q S late fuel (listed.setIfInBounds i true) a' w') a w
theorem AllReadyG.nil {fuel : Nat} {listed : Array Bool} {a : Act} {w : World} : AllReadyG P md ops Q S late fuel listed a w [] := fun _ h => by cases h
theorem AllReadyG.cons {fuel : Nat} {listed : Array Bool} {a : Act} {w : World} (i : Nat) {o : Oper} {rs : List Nat} (ho : ops[i]? = some o)
    (h : ∀ K' : Act → World → Prop, Shut (∀ a w, S w → (S w → wpAnyG P md ops Q S late fuel (listed.setIfInBounds i true) a w) → K' a w) → if Region.wanted o (yielded ops a.tmps) = true then Oper.wp P o a w K' Q else K' (a.put o.dst undef) w)
    (hs : AllReadyG P md ops Q S late fuel listed a w rs) : AllReadyG P md ops Q S late fuel listed a w (i :: rs) := fun j hj => by
  rcases List.mem_cons.1 hj with rfl | hj
  · exact wpOp_step ho (fun K' hK => h K' (fun a w hS hW => hK a w ⟨fun _ => hS, hW hS⟩))
  · exact hs j hj
/-- A late one, or one behind it. -/
theorem AllReadyG.last {fuel : Nat} {listed : Array Bool} {a : Act} {w : World} (i : Nat) {o : Oper} {rs : List Nat} (ho : ops[i]? = some o) (hl : noLate late (listed.setIfInBounds i true) = false)
    (h : ∀ K' : Act → World → Prop, Shut (∀ a w, wpAnyG P md ops Q S late fuel (listed.setIfInBounds i true) a w → K' a w) → if Region.wanted o (yielded ops a.tmps) = true then Oper.wp P o a w K' Q else K' (a.put o.dst undef) w)
    (hs : AllReadyG P md ops Q S late fuel listed a w rs) : AllReadyG P md ops Q S late fuel listed a w (i :: rs) := fun j hj => by
  rcases List.mem_cons.1 hj with rfl | hj
  · exact wpOp_step ho (fun K' hK => h K' (fun a w hW => hK a w ⟨fun h0 => (by rw [hl] at h0; cases h0), hW⟩))
  · exact hs j hj
theorem wpAnyG_ready (rs : List Nat) {fuel : Nat} {listed : Array Bool} {a : Act} {w : World} (hr : Region.ready md ops listed = rs) (hne : rs ≠ [])
    (h : AllReadyG P md ops Q S late fuel listed a w rs) : wpAnyG P md ops Q S late (fuel + 1) listed a w := ⟨fun h0 => absurd (hr ▸ h0) hne, hr ▸ h⟩
theorem wp_region_G {id : Nat} {a : Act} {w : World} (S : World → Prop) (late : Nat → Bool) (hm : P.follows .mixedOrders = true) (hS : S w.drew)
    (h : S w.drew → wpAnyG P .any ops (NoPanic Q) S late ops.size (Array.replicate ops.size false) a w.drew) : (Code.region id ops true).wp P Q a w :=
  wp_region_noPanic (wp_region_any hm (wpAny_of_G _ _ _ _ (h hS)))
end
end Go.Proofs.Ytohfmohkaaidpab


/- The walk of the reference's Round where nothing is wrong. -/
namespace Go.Proofs.Ytohfmohkaaidpab
open Go Go.RowKit

/-- Cells of a row of ints, in every world behind. -/
theorem Ints.all {w : World} {v : Value} {l : List Int} (h : Ints w v l) : ∃ (a : Option Addr) (c : Nat), v = .slice a l.length c ∧ l.length ≤ c ∧ c ≤ maxLen ∧ Hid (∀ k, (hk : k < l.length) → ∃ b o, a = some ⟨b, o, none⟩ ∧ b < w.heap.size ∧ ∀ w', Below w.heap.size w w' → w'.cell? ⟨b, o + k, none⟩ = some (.int .i64 l[k])) := by
  obtain ⟨a, c, e, h1, h2, h3⟩ := h
  refine ⟨a, c, e, h1, h2, hide fun k hk => ?_⟩
  obtain ⟨b, o, ha, hb, hc⟩ := h3 k hk
  exact ⟨b, o, ha, hb, fun w' hw => (hw.cell (by exact hb)).trans hc⟩
/-- The first k of a row. -/
theorem Ints.take {w : World} {a : Option Addr} {n c : Nat} {l : List Int} (h : Ints w (.slice a n c) l) (k : Nat) (hk : k ≤ l.length) : Ints w (.slice a k c) (l.take k) := by
  obtain ⟨a', c', e, h1, h2, h3⟩ := h
  injection e with e1 e2 e3
  subst e1 e2 e3
  have hl : (l.take k).length = k := by rw [List.length_take]; omega
  refine ⟨a, c, by rw [hl], by omega, h2, fun j hj => ?_⟩
  obtain ⟨b, o, ha, hb, hc⟩ := h3 j (by omega)
  exact ⟨b, o, ha, hb, by rw [hc, List.getElem_take]⟩
end Go.Proofs.Ytohfmohkaaidpab


/- Nets as the law's Make grows them: what they are, as plain functions; that they are nets, and that their texts are short. -/
namespace Go.Proofs.Ytohfmohkaaidpab.Sp
open Go

def edges (n : Int) (ns : List Int) : Nat := if n = 0 then 0 else min (ns.length / 2) 20
end Go.Proofs.Ytohfmohkaaidpab.Sp


/- The walk of the law's Make. -/
namespace Go.Proofs.Ytohfmohkaaidpab
open Go Go.RowKit

theorem Ints.drop {w : World} {la : Option Addr} {lc : Nat} {l : List Int} (h : Ints w (.slice la l.length lc) l) (kk : Nat) (hk : kk ≤ l.length) : Ints w (.slice (if lc = kk then la else Option.map (fun x => x.add kk) la) (l.length - kk) (lc - kk)) (l.drop kk) := by
  obtain ⟨a', c', e, h1, h2, h3⟩ := h
  injection e with e1 e2 e3
  subst e1 e3
  refine ⟨_, _, by rw [List.length_drop], by rw [List.length_drop]; omega, by omega, fun j hj => ?_⟩
  rw [List.length_drop] at hj
  obtain ⟨b, o, rfl, hb, hc⟩ := h3 (kk + j) (by omega)
  refine ⟨b, o + kk, ?_, hb, ?_⟩
  · rw [if_neg (by omega), Option.map_some]
    have e2 : (⟨b, o, none⟩ : Addr).add kk = ⟨b, o + kk, none⟩ := by unfold Addr.add; split <;> simp_all
    rw [e2]
  · rw [Nat.add_assoc, hc, List.getElem_drop]
theorem NetI.drew {w : World} {v : Value} {q : Sp.Net} {tv nv cv : Value} (h : NetI w v q tv nv cv) : NetI w.drew v q tv nv cv := h.below (Below.refl _ w).drew
theorem NetV.keep {w w' : World} {B : Nat} {v : Value} {q : Sp.Net} {tv nv cv : Value} (h : NetV w B v q tv nv cv) (hb : Below w.heap.size w w') : NetV w' B v q tv nv cv :=
  ⟨h.val, own_below h.tail hb, own_below h.next hb, own_below h.cap hb, h.tn, h.tc, h.nc⟩
end Go.Proofs.Ytohfmohkaaidpab


/- Nets that lie in blocks of their own. -/
namespace Go.Proofs.Ytohfmohkaaidpab
open Go Go.RowKit

theorem Ints.len {w : World} {v : Value} {l : List Int} (h : Ints w v l) : l.length ≤ 9223372036854775807 := by
  obtain ⟨a, c, -, h1, h2, -⟩ := h
  unfold maxLen at h2
  omega
end Go.Proofs.Ytohfmohkaaidpab


/- Package path: isPlace, isArc, forward, sound. -/
namespace Go.Proofs.Ytohfmohkaaidpab
open Go Go.RowKit

theorem Ints.allA {w : World} {v : Value} {l : List Int} (h : Ints w v l) : ∃ (a : Option Addr) (c : Nat), v = .slice a l.length c ∧ l.length ≤ c ∧ c ≤ maxLen ∧ Hid (∀ k, k < l.length → ∃ b o, a = some ⟨b, o, none⟩ ∧ b < w.heap.size ∧ ∀ w', Below w.heap.size w w' → w'.cell? ⟨b, o + k, none⟩ = some (.int .i64 (l.getD k 0))) := by
  obtain ⟨a, c, e, h1, h2, h3⟩ := h
  refine ⟨a, c, e, h1, h2, hide fun k hk => ?_⟩
  obtain ⟨b, o, e1, e2, e3⟩ := h3 k hk
  refine ⟨b, o, e1, e2, fun w' hb => ?_⟩
  rw [hb.cell (p := ⟨b, o + k, none⟩) e2, e3, List.getD_eq_getElem?_getD, List.getElem?_eq_getElem hk]; rfl
end Go.Proofs.Ytohfmohkaaidpab


/- A heap's block: 901 numbers; what a store into it leaves. -/
namespace Go.Proofs.Ytohfmohkaaidpab
open Go Go.RowKit

/-- One number of a row turned. -/
def Sp.upd (z : Nat → Int) (j : Nat) (v : Int) : Nat → Int := fun k => if k = j then v else z k
theorem Sp.upd_same (z : Nat → Int) (j : Nat) (v : Int) : Sp.upd z j v j = v := by simp [Sp.upd]
theorem Sp.upd_other (z : Nat → Int) {j k : Nat} (v : Int) (h : k ≠ j) : Sp.upd z j v k = z k := by simp [Sp.upd, h]

/-- All but block b is as it was. -/
structure But (b : Nat) (w w' : World) : Prop where
  os : w'.os = w.os
  tape : w'.tape = w.tape
  output : w'.output = w.output
  size : w.heap.size ≤ w'.heap.size
  block : ∀ k, k < w.heap.size → k ≠ b → w'.heap[k]? = w.heap[k]?
theorem But.refl (b : Nat) (w : World) : But b w w := ⟨rfl, rfl, rfl, Nat.le_refl _, fun _ _ _ => rfl⟩
theorem But.trans {b : Nat} {u v w : World} (h : But b u v) (k : But b v w) : But b u w :=
  ⟨k.os.trans h.os, k.tape.trans h.tape, k.output.trans h.output, Nat.le_trans h.size k.size, fun i hi hb => (k.block i (Nat.lt_of_lt_of_le hi h.size) hb).trans (h.block i hi hb)⟩
theorem But.of {b : Nat} {w w' : World} (h : Below w.heap.size w w') : But b w w' := ⟨h.os, h.tape, h.output, h.size, fun k hk _ => h.block k hk⟩
theorem But.below {b B : Nat} {w w' : World} (h : But b w w') (hB : B ≤ b) (hw : B ≤ w.heap.size) : Below B w w' := ⟨h.os, h.tape, h.output, h.size, fun k hk => h.block k (by omega) (by omega)⟩
theorem But.drew {b : Nat} {u w : World} (h : But b u w) : But b u w.drew := h.trans ⟨rfl, rfl, rfl, Nat.le_refl _, fun _ _ _ => rfl⟩
theorem But.alloc {b : Nat} {u w : World} (h : But b u w) (o : Obj) : But b u (w.alloc o) := h.trans (But.of ((Below.refl _ w).alloc (Nat.le_refl _) o))
theorem But.set {b : Nat} {u w : World} (h : But b u w) (j : Nat) (s : Option Nat) (v : Value) : But b u (w.setCell ⟨b, j, s⟩ v) :=
  h.trans ⟨rfl, rfl, rfl, by simp [World.setCell], fun k _ hb => Below.heap_setCell _ _ _ _ hb⟩
theorem But.cell {b : Nat} {w w' : World} (h : But b w w') {p : Addr} (hp : p.block < w.heap.size) (hb : p.block ≠ b) : w'.cell? p = w.cell? p := World.cell?_of_block (w := w) (h.block p.block hp hb)
end Go.Proofs.Ytohfmohkaaidpab


/- Package heap: find, stand. -/
namespace Go.Proofs.Ytohfmohkaaidpab
open Go Go.RowKit

theorem cell_set_ne {w : World} {b j b' j' : Nat} {v : Value} (h : b ≠ b' ∨ j ≠ j') : (w.setCell ⟨b, j, none⟩ v).cell? ⟨b', j', none⟩ = w.cell? ⟨b', j', none⟩ := by
  apply World.cell?_setCell_other
  intro e
  injection e with e1 e2
  omega
end Go.Proofs.Ytohfmohkaaidpab


/- A row of numbers in a block of its own, as a function; all but some blocks as they were. -/
namespace Go.Proofs.Ytohfmohkaaidpab
open Go Go.RowKit

/-- All but the blocks of p is as it was. -/
structure Bt (p : Nat → Prop) (w w' : World) : Prop where
  os : w'.os = w.os
  tape : w'.tape = w.tape
  output : w'.output = w.output
  size : w.heap.size ≤ w'.heap.size
  block : ∀ k, k < w.heap.size → ¬ p k → w'.heap[k]? = w.heap[k]?
theorem Bt.refl (p : Nat → Prop) (w : World) : Bt p w w := ⟨rfl, rfl, rfl, Nat.le_refl _, fun _ _ _ => rfl⟩
theorem Bt.trans {p : Nat → Prop} {u v w : World} (h : Bt p u v) (k : Bt p v w) : Bt p u w :=
  ⟨k.os.trans h.os, k.tape.trans h.tape, k.output.trans h.output, Nat.le_trans h.size k.size, fun i hi hb => (k.block i (Nat.lt_of_lt_of_le hi h.size) hb).trans (h.block i hi hb)⟩
theorem Bt.mono {p q : Nat → Prop} {w w' : World} (h : Bt p w w') (hq : ∀ k, k < w.heap.size → p k → q k) : Bt q w w' := ⟨h.os, h.tape, h.output, h.size, fun k hk hn => h.block k hk (fun hp => hn (hq k hk hp))⟩
theorem Bt.of {p : Nat → Prop} {w w' : World} (h : Below w.heap.size w w') : Bt p w w' := ⟨h.os, h.tape, h.output, h.size, fun k hk _ => h.block k hk⟩
theorem Bt.below {p : Nat → Prop} {B : Nat} {w w' : World} (h : Bt p w w') (hp : ∀ k, p k → B ≤ k) (hw : B ≤ w.heap.size) : Below B w w' := ⟨h.os, h.tape, h.output, h.size, fun k hk => h.block k (by omega) (fun e => by have := hp k e; omega)⟩
theorem Bt.drew {p : Nat → Prop} {u w : World} (h : Bt p u w) : Bt p u w.drew := h.trans ⟨rfl, rfl, rfl, Nat.le_refl _, fun _ _ _ => rfl⟩
theorem Bt.alloc {p : Nat → Prop} {u w : World} (h : Bt p u w) (o : Obj) : Bt p u (w.alloc o) := h.trans (Bt.of ((Below.refl _ w).alloc (Nat.le_refl _) o))
theorem Bt.set {p : Nat → Prop} {u w : World} (h : Bt p u w) {b : Nat} (hb : p b ∨ u.heap.size ≤ b) (j : Nat) (s : Option Nat) (v : Value) : Bt p u (w.setCell ⟨b, j, s⟩ v) := by
  refine ⟨h.os, h.tape, h.output, ?_, fun k hk hn => ?_⟩
  · have := h.size
    have e : (w.setCell ⟨b, j, s⟩ v).heap.size = w.heap.size := by simp [World.setCell]
    omega
  · rw [Below.heap_setCell _ _ _ _ (by
      show k ≠ b
      intro e
      subst e
      rcases hb with hb | hb
      · exact hn hb
      · omega)]
    exact h.block k hk hn
theorem Bt.cell {p : Nat → Prop} {w w' : World} (h : Bt p w w') {a : Addr} (ha : a.block < w.heap.size) (hb : ¬ p a.block) : w'.cell? a = w.cell? a := World.cell?_of_block (w := w) (h.block a.block ha hb)
/-- Block b is a row of the n numbers z. -/
def RowAt (w : World) (b n : Nat) (z : Nat → Int) : Prop := ∃ c, w.heap[b]? = some (.cells c 3) ∧ c.size = n ∧ ∀ j, j < n → c[j]? = some (.int .i64 (z j))
theorem RowAt.lt {w : World} {b n : Nat} {z : Nat → Int} (h : RowAt w b n z) : b < w.heap.size := by
  obtain ⟨c, hc, -⟩ := h
  exact (Array.getElem?_eq_some_iff.1 hc).1
theorem RowAt.cell {w : World} {b n : Nat} {z : Nat → Int} (h : RowAt w b n z) {j : Nat} (hj : j < n) : w.cell? ⟨b, j, none⟩ = some (.int .i64 (z j)) := by
  obtain ⟨c, hc, -, hz⟩ := h
  simp only [World.cell?, hc]
  exact hz j hj
theorem RowAt.frozen {w : World} {b n : Nat} {z : Nat → Int} (h : RowAt w b n z) (j : Nat) (s : Option Nat) : w.frozen? ⟨b, j, s⟩ = false := by
  obtain ⟨c, hc, -⟩ := h
  simp only [World.frozen?, hc]
  simp
theorem RowAt.of_block {w w' : World} {b n : Nat} {z : Nat → Int} (h : RowAt w b n z) (e : w'.heap[b]? = w.heap[b]?) : RowAt w' b n z := by
  obtain ⟨c, hc, h1⟩ := h
  exact ⟨c, by rw [e]; exact hc, h1⟩
theorem RowAt.set {w : World} {b n : Nat} {z : Nat → Int} (h : RowAt w b n z) (j : Nat) (v : Int) : RowAt (w.setCell ⟨b, j, none⟩ (.int .i64 v)) b n (Sp.upd z j v) := by
  obtain ⟨c, hc, hs, hz⟩ := h
  refine ⟨c.setIfInBounds j (.int .i64 v), ?_, by simpa using hs, fun k hk => ?_⟩
  · simp only [World.setCell, Array.getElem?_modify, if_pos, hc]
    rfl
  · rw [Array.getElem?_setIfInBounds]
    by_cases hjk : j = k
    · rw [if_pos hjk, if_pos (by omega), ← hjk, Sp.upd_same]
    · rw [if_neg hjk, hz k hk, Sp.upd_other _ _ (by omega)]
theorem RowAt.below {w w' : World} {b n : Nat} {z : Nat → Int} (h : RowAt w b n z) (hb : Below w.heap.size w w') : RowAt w' b n z := h.of_block (hb.block b h.lt)
theorem RowAt.bt {p : Nat → Prop} {w w' : World} {b n : Nat} {z : Nat → Int} (h : RowAt w b n z) (hb : Bt p w w') (hp : ¬ p b) : RowAt w' b n z := h.of_block (hb.block b h.lt hp)
theorem RowAt.alloc {w : World} {b n : Nat} {z : Nat → Int} (h : RowAt w b n z) (o : Obj) : RowAt (w.alloc o) b n z := h.below ((Below.refl _ w).alloc (Nat.le_refl _) o)
theorem RowAt.drew {w : World} {b n : Nat} {z : Nat → Int} (h : RowAt w b n z) : RowAt w.drew b n z := h.of_block rfl
theorem RowAt.congr {w : World} {b n : Nat} {z z' : Nat → Int} (h : RowAt w b n z) (e : ∀ j, j < n → z j = z' j) : RowAt w b n z' := by
  obtain ⟨c, hc, hs, hz⟩ := h
  exact ⟨c, hc, hs, fun j hj => by rw [← e j hj]; exact hz j hj⟩
theorem RowAt.own {w : World} {b n B : Nat} {z : Nat → Int} (h : RowAt w b n z) (hB : B ≤ b) (hn : n ≤ 1000000) : OwnI w B (.slice (some ⟨b, 0, none⟩) n n) ((List.range n).map z) := by
  obtain ⟨c, hc, hs, hz⟩ := h
  refine ⟨by simp, .inr ⟨b, n, c, by simp, hB, hc, by simp, by unfold maxLen; omega, by simp [hs], ?_⟩⟩
  apply List.ext_getElem?
  intro j
  simp only [List.length_map, List.length_range, List.getElem?_map, List.getElem?_take, Nat.mul_one]
  by_cases hj : j < n
  · rw [if_pos hj, Array.getElem?_toList, hz j hj, List.getElem?_range hj]; rfl
  · rw [if_neg hj, List.getElem?_eq_none (by simpa using hj)]; rfl
theorem RowAt.ints {w : World} {b n : Nat} {z : Nat → Int} (h : RowAt w b n z) (hn : n ≤ 1000000) : Ints w (.slice (some ⟨b, 0, none⟩) n n) ((List.range n).map z) := (h.own (Nat.zero_le _) hn).ints
end Go.Proofs.Ytohfmohkaaidpab


/- Trees that change: what hangs on what (P701). -/
namespace Go.Proofs.Ytohfmohkaaidpab
open Go Go.RowKit

/-- w is k steps up from v. -/
def Sp.Upw (U : Nat → Int) : Nat → Nat → Nat → Prop
  | 0, v, w => w = v
  | k + 1, v, w => ∃ u : Nat, U v = (u : Int) ∧ Sp.Upw U k u w
/-- No way up comes round. -/
def Sp.Fo (n : Nat) (U : Nat → Int) : Prop := ∃ r : Nat → Nat, ∀ v, v < n → U v = -1 ∨ ∃ u : Nat, U v = (u : Int) ∧ u < n ∧ r u < r v
def Sp.Rt (U : Nat → Int) (v a : Nat) : Prop := ∃ k, Sp.Upw U k v a ∧ U a = -1
theorem Sp.Fo.at_ {n : Nat} {U : Nat → Int} (h : Sp.Fo n U) {v : Nat} (hv : v < n) : U v = -1 ∨ ∃ u : Nat, U v = (u : Int) ∧ u < n := by
  obtain ⟨r, hr⟩ := h
  rcases hr v hv with e | ⟨u, h1, h2, -⟩
  · exact .inl e
  · exact .inr ⟨u, h1, h2⟩
theorem Sp.Upw.snoc {U : Nat → Int} : ∀ {k v x u : Nat}, Sp.Upw U k v x → U x = (u : Int) → Sp.Upw U (k + 1) v u
  | 0, v, x, u, h, e => by
    have h' : x = v := h
    subst h'
    exact ⟨u, e, rfl⟩
  | k + 1, v, x, u, ⟨u', e', h⟩, e => ⟨u', e', Sp.Upw.snoc h e⟩
theorem Sp.Upw.add {U : Nat → Int} : ∀ {j k v x y : Nat}, Sp.Upw U j v x → Sp.Upw U k x y → Sp.Upw U (j + k) v y
  | 0, k, v, x, y, h, h' => by
    have e : x = v := h
    subst e
    rw [Nat.zero_add]; exact h'
  | j + 1, k, v, x, y, ⟨u, e, h⟩, h' => by
    rw [show j + 1 + k = j + k + 1 by omega]
    exact ⟨u, e, Sp.Upw.add h h'⟩
theorem Sp.Upw.lt {n : Nat} {U : Nat → Int} {r : Nat → Nat} (hr : ∀ v, v < n → U v = -1 ∨ ∃ u : Nat, U v = (u : Int) ∧ u < n ∧ r u < r v) : ∀ {k v x : Nat}, v < n → Sp.Upw U k v x → x < n ∧ r x + k ≤ r v
  | 0, v, x, hv, h => by
    have e : x = v := h
    subst e
    exact ⟨hv, Nat.le_refl _⟩
  | k + 1, v, x, hv, ⟨u, e, h⟩ => by
    rcases hr v hv with e2 | ⟨u', e2, h2, h3⟩
    · omega
    · obtain rfl : u = u' := by omega
      obtain ⟨h4, h5⟩ := Sp.Upw.lt hr h2 h
      exact ⟨h4, by omega⟩
theorem Sp.Fo.up_lt {n : Nat} {U : Nat → Int} (h : Sp.Fo n U) {k v x : Nat} (hv : v < n) (hu : Sp.Upw U k v x) : x < n := by
  obtain ⟨r, hr⟩ := h
  exact (Sp.Upw.lt hr hv hu).1
/-- No vertex stands above itself. -/
theorem Sp.Fo.no_round {n : Nat} {U : Nat → Int} (h : Sp.Fo n U) {k v : Nat} (hv : v < n) (hu : Sp.Upw U (k + 1) v v) : False := by
  obtain ⟨r, hr⟩ := h
  have := (Sp.Upw.lt hr hv hu).2
  omega
theorem Sp.Fo.ex {n : Nat} {U : Nat → Int} (h : Sp.Fo n U) {v : Nat} (hv : v < n) : ∃ k a, Sp.Upw U k v a ∧ U a = -1 ∧ a < n := by
  obtain ⟨r, hr⟩ := h
  have : ∀ m v, v < n → r v ≤ m → ∃ k a, Sp.Upw U k v a ∧ U a = -1 ∧ a < n := by
    intro m
    induction m with
    | zero =>
      intro v hv hm
      rcases hr v hv with e | ⟨u, e, h2, h3⟩
      · exact ⟨0, v, rfl, e, hv⟩
      · omega
    | succ m ih =>
      intro v hv hm
      rcases hr v hv with e | ⟨u, e, h2, h3⟩
      · exact ⟨0, v, rfl, e, hv⟩
      · obtain ⟨k, a, h4, h5, h6⟩ := ih u h2 (by omega)
        exact ⟨k + 1, a, ⟨u, e, h4⟩, h5, h6⟩
  exact this (r v) v hv (Nat.le_refl _)
theorem Sp.Upw.uniq {U : Nat → Int} : ∀ {k k' v a a' : Nat}, Sp.Upw U k v a → U a = -1 → Sp.Upw U k' v a' → U a' = -1 → k = k' ∧ a = a'
  | 0, 0, v, a, a', h, _, h', _ => by
    have e : a = v := h
    have e' : a' = v := h'
    exact ⟨rfl, by rw [e, e']⟩
  | 0, k' + 1, v, a, a', h, e, ⟨u, e', _⟩, _ => by
    have e2 : a = v := h
    rw [← e2, e] at e'; omega
  | k + 1, 0, v, a, a', ⟨u, e', _⟩, _, h, e => by
    have e2 : a' = v := h
    rw [← e2, e] at e'; omega
  | k + 1, k' + 1, v, a, a', ⟨u, e, h⟩, ha, ⟨u', e', h'⟩, ha' => by
    obtain rfl : u = u' := by omega
    obtain ⟨h1, h2⟩ := Sp.Upw.uniq h ha h' ha'
    exact ⟨by omega, h2⟩
theorem Sp.Rt.uniq {U : Nat → Int} {v a a' : Nat} (h : Sp.Rt U v a) (h' : Sp.Rt U v a') : a = a' := by
  obtain ⟨k, h1, h2⟩ := h
  obtain ⟨k', h3, h4⟩ := h'
  exact (Sp.Upw.uniq h1 h2 h3 h4).2
/-- What stands on the way up has the same root. -/
theorem Sp.Rt.above {U : Nat → Int} {v x a : Nat} (h : Sp.Rt U v a) : ∀ {j : Nat}, Sp.Upw U j v x → Sp.Rt U x a := by
  obtain ⟨k, h1, h2⟩ := h
  intro j
  induction j generalizing v k with
  | zero =>
    intro hj
    have e : x = v := hj
    subst e
    exact ⟨k, h1, h2⟩
  | succ j ih =>
    rintro ⟨u, e, hj⟩
    cases k with
    | zero =>
      have e2 : a = v := h1
      rw [← e2, h2] at e; omega
    | succ k =>
      obtain ⟨u', e', h3⟩ := h1
      obtain rfl : u = u' := by omega
      exact ih k h3 hj
theorem Sp.Rt.below {U : Nat → Int} {v x a j : Nat} (hj : Sp.Upw U j v x) (h : Sp.Rt U x a) : Sp.Rt U v a := by
  obtain ⟨k, h1, h2⟩ := h
  exact ⟨j + k, hj.add h1, h2⟩
/-- A way that doesn't go on from v is as it was where v hangs anew. -/
theorem Sp.Upw.keep {U : Nat → Int} {v : Nat} {l : Int} : ∀ {k w a : Nat}, (∀ j x, j < k → Sp.Upw U j w x → x ≠ v) → Sp.Upw U k w a → Sp.Upw (Sp.upd U v l) k w a
  | 0, w, a, _, h => h
  | k + 1, w, a, hn, ⟨u, e, h⟩ => by
    refine ⟨u, ?_, Sp.Upw.keep (fun j x hj hx => hn (j + 1) x (by omega) ⟨u, e, hx⟩) h⟩
    rw [Sp.upd_other _ _ (hn 0 w (by omega) rfl)]; exact e
theorem Sp.Rt.keep {U : Nat → Int} {v w a : Nat} {l : Int} (h : Sp.Rt U w a) (hn : ∀ j, ¬ Sp.Upw U j w v) : Sp.Rt (Sp.upd U v l) w a := by
  obtain ⟨k, h1, h2⟩ := h
  refine ⟨k, Sp.Upw.keep (fun j x _ hx e => hn j (by rw [← e]; exact hx)) h1, ?_⟩
  rw [Sp.upd_other _ _ (fun e => hn k (by rw [← e]; exact h1))]; exact h2
/-- A vertex may hang anew on what is not below it. -/
theorem Sp.Fo.hang {n : Nat} {U : Nat → Int} (h : Sp.Fo n U) {v : Nat} (_hv : v < n) {l : Int} (hl : l = -1 ∨ ∃ p : Nat, l = (p : Int) ∧ p < n ∧ ∀ j, ¬ Sp.Upw U j p v) : Sp.Fo n (Sp.upd U v l) := by
  obtain ⟨r, hr⟩ := h
  rcases hl with rfl | ⟨p, rfl, hp, hn⟩
  · refine ⟨r, fun x hx => ?_⟩
    by_cases e : x = v
    · rw [e, Sp.upd_same]; exact .inl rfl
    · rw [Sp.upd_other _ _ e]; exact hr x hx
  · refine ⟨fun x => r x + @ite _ (∃ j, Sp.Upw U j x v) (Classical.propDecidable _) (r p + 1) 0, fun x hx => ?_⟩
    by_cases e : x = v
    · subst e
      rw [Sp.upd_same]
      refine .inr ⟨p, rfl, hp, ?_⟩
      dsimp only
      rw [if_neg (show ¬ ∃ j, Sp.Upw U j p x from fun ⟨j, hj⟩ => hn j hj), if_pos (show ∃ j, Sp.Upw U j x x from ⟨0, rfl⟩)]
      omega
    · rw [Sp.upd_other _ _ e]
      rcases hr x hx with e2 | ⟨u, e2, h2, h3⟩
      · exact .inl e2
      · refine .inr ⟨u, e2, h2, ?_⟩
        dsimp only
        by_cases hb : ∃ j, Sp.Upw U j u v
        · obtain ⟨j, hj⟩ := hb
          rw [if_pos (show ∃ j, Sp.Upw U j u v from ⟨j, hj⟩), if_pos (show ∃ j, Sp.Upw U j x v from ⟨j + 1, u, e2, hj⟩)]; omega
        · rw [if_neg hb]
          omega
theorem Sp.Fo.link {n : Nat} {U : Nat → Int} (h : Sp.Fo n U) {v w a : Nat} (hv : v < n) (hw : w < n) (hr : U v = -1) (ha : Sp.Rt U w a) (hne : a ≠ v) : Sp.Fo n (Sp.upd U v (w : Int)) :=
  h.hang hv (.inr ⟨w, rfl, hw, fun _ hj => hne (ha.uniq (Sp.Rt.below hj ⟨0, rfl, hr⟩))⟩)
theorem Sp.Fo.cut {n : Nat} {U : Nat → Int} (h : Sp.Fo n U) {v : Nat} (hv : v < n) : Sp.Fo n (Sp.upd U v (-1)) := h.hang hv (.inl rfl)
/-- The way up turned. -/
def Sp.trn : Nat → (Nat → Int) → (Nat → Int) → Nat → Int → Int → (Nat → Int) × (Nat → Int)
  | 0, U, W, _, _, _ => (U, W)
  | k + 1, U, W, v, l, x => if U v = -1 then (Sp.upd U v l, Sp.upd W v x) else Sp.trn k (Sp.upd U v l) (Sp.upd W v x) (U v).toNat (v : Int) (W v)
/-- Where turning stands: at v, k steps below its root b; what was turned hangs on l, whose root is a. -/
structure Sp.TrnI (n : Nat) (U : Nat → Int) (k v b : Nat) (l : Int) (a : Nat) : Prop where
  fo : Sp.Fo n U
  lt : v < n
  up : Sp.Upw U k v b
  root : U b = -1
  on : (l = -1 ∧ a = v) ∨ ∃ p : Nat, l = (p : Int) ∧ p < n ∧ Sp.Rt U p a ∧ a ≠ b
theorem Sp.TrnI.hang {n : Nat} {U : Nat → Int} {k v b : Nat} {l : Int} {a : Nat} (h : Sp.TrnI n U k v b l a) : Sp.Fo n (Sp.upd U v l) ∧ Sp.Rt (Sp.upd U v l) v a := by
  rcases h.on with ⟨rfl, rfl⟩ | ⟨p, rfl, hp, hr, hne⟩
  · exact ⟨h.fo.cut h.lt, 0, rfl, Sp.upd_same _ _ _⟩
  · have hn : ∀ j, ¬ Sp.Upw U j p v := fun _j hj => hne ((hr.above hj).uniq ⟨k, h.up, h.root⟩)
    refine ⟨h.fo.hang h.lt (.inr ⟨p, rfl, hp, hn⟩), ?_⟩
    obtain ⟨m, h1, h2⟩ := hr.keep (l := (p : Int)) hn
    exact ⟨m + 1, ⟨p, Sp.upd_same _ _ _, h1⟩, h2⟩
theorem Sp.TrnI.step {n : Nat} {U : Nat → Int} {k v b : Nat} {l : Int} {a : Nat} (h : Sp.TrnI n U (k + 1) v b l a) : ∃ u : Nat, U v = (u : Int) ∧ U v ≠ -1 ∧ Sp.TrnI n (Sp.upd U v l) k u b (v : Int) a := by
  obtain ⟨u, e, hu⟩ := h.up
  have hu1 : u < n := h.fo.up_lt h.lt (k := 1) ⟨u, e, rfl⟩
  have hn : ∀ j, ¬ Sp.Upw U j u v := fun j hj => h.fo.no_round h.lt (k := j) ⟨u, e, hj⟩
  obtain ⟨g1, g2⟩ := h.hang
  have hbv : b ≠ v := fun e2 => hn k (by rw [← e2]; exact hu)
  refine ⟨u, e, by omega, g1, hu1, Sp.Upw.keep (fun j x _ hx e2 => hn j (by rw [← e2]; exact hx)) hu, by rw [Sp.upd_other _ _ hbv]; exact h.root, .inr ⟨v, rfl, h.lt, g2, ?_⟩⟩
  rcases h.on with ⟨-, rfl⟩ | ⟨p, -, -, -, hne⟩
  · exact fun e2 => hbv e2.symm
  · exact hne
theorem Sp.TrnI.zero {n : Nat} {U : Nat → Int} {v b : Nat} {l : Int} {a : Nat} (h : Sp.TrnI n U 0 v b l a) : U v = -1 ∧ b = v := by
  have e : b = v := h.up
  exact ⟨e ▸ h.root, e⟩
/-- Turned, no way comes round; the root that was leads to the vertex that was turned to. -/
theorem Sp.trn_ok {n : Nat} : ∀ {k : Nat} {U W : Nat → Int} {v b a : Nat} {l x : Int}, Sp.TrnI n U k v b l a → Sp.Fo n (Sp.trn (k + 1) U W v l x).1 ∧ Sp.Rt (Sp.trn (k + 1) U W v l x).1 b a
  | 0, U, W, v, b, a, l, x, h => by
    obtain ⟨e, rfl⟩ := h.zero
    rw [Sp.trn, if_pos e]
    exact h.hang
  | k + 1, U, W, v, b, a, l, x, h => by
    obtain ⟨u, e, hne, h2⟩ := h.step
    rw [Sp.trn, if_neg hne, e, Int.toNat_natCast]
    exact Sp.trn_ok h2
/-- The least edge along the way up. -/
def Sp.leastA (U W : Nat → Int) : Nat → Nat → Nat → Nat
  | 0, _, at_ => at_
  | k + 1, v, at_ => if U v = -1 then at_ else Sp.leastA U W k (U v).toNat (if W v ≤ W at_ then v else at_)
end Go.Proofs.Ytohfmohkaaidpab


/- The walk of package rot: rounds. -/
namespace Go.Proofs.Ytohfmohkaaidpab
open Go Go.RowKit

/-- One round, from d on: what was met, and the round's darts behind it, where it comes back to its least. -/
def Sp.walkR (st : List Int) (least : Int) : Nat → Int → List Int → Option (List Int)
  | 0, _, _ => none
  | f + 1, d, row => if d ∈ row then (if d = least then some row else none) else Sp.walkR st least f (st.getD d.toNat 0) (row ++ [d])
/-- All rounds, as the row of their darts and the ends of each. -/
def Sp.rgo (st : List Int) : Nat → Nat → List Int → List (Nat × Nat) → Option (List Int × List (Nat × Nat))
  | 0, _, row, ps => some (row, ps)
  | f + 1, k, row, ps => if (k : Int) ∈ row then Sp.rgo st f (k + 1) row ps else
      match Sp.walkR st k (st.length + 1 - row.length) k row with
      | some row' => Sp.rgo st f (k + 1) row' (ps ++ [(row.length, row'.length)])
      | none => none
def Sp.rnds (st : List Int) : Option (List Int × List (Nat × Nat)) := Sp.rgo st st.length 0 [] []
def Sp.metL (n : Nat) (row : List Int) : List Bool := (List.range n).map fun (d : Nat) => decide ((d : Int) ∈ row)
abbrev OwnB (w : World) (base : Nat) (v : Value) (l : List Bool) : Prop := w.ownsRow base 4 1 v l.length (l.map Value.bool)
def pieceV (g : Nat) (p : Nat × Nat) : Value := .slice (some ⟨g, p.1, none⟩) (p.2 - p.1) (p.2 - p.1)
/-- What rounds leaves. -/
def RoundsPost (st : List Int) (w : World) (e : Ending) (w' : World) : Prop :=
  Below w.heap.size w w' ∧ (∀ row ps, Sp.rnds st = some (row, ps) → ∃ lv, e = .returned (.tuple #[lv, .bool true]) ∧ OwnI w' w.heap.size (.slice (some ⟨w.heap.size, 0, none⟩) row.length st.length) row ∧ w'.ownsRow w.heap.size 22 1 lv ps.length (ps.map (pieceV w.heap.size)))
    ∧ (Sp.rnds st = none → e = .returned (.tuple #[.slice none 0 0, .bool false]))
/-- The three rows that rounds keeps. -/
structure RKeep (B M n : Nat) (W wr : World) (row : List Int) (ps : List (Nat × Nat)) (lq : Value) : Prop where
  rw1 : OwnI wr B (.slice (some ⟨B, 0, none⟩) row.length n) row
  met : OwnB wr B (.slice (some ⟨M, 0, none⟩) n n) (Sp.metL n row)
  ls : wr.ownsRow (M + 1) 22 1 lq ps.length (ps.map (pieceV B))
  bel : Below B W wr
  big : M < wr.heap.size
  lt : B < M
structure RFit (n : Nat) (row : List Int) : Prop where
  nd : row.Nodup
  bd : ∀ x ∈ row, 0 ≤ x ∧ x < (n : Int)
theorem RFit.snoc {n : Nat} {row : List Int} (h : RFit n row) (d : Nat) (hd : d < n) (hn : ¬ (d : Int) ∈ row) : RFit n (row ++ [(d : Int)]) := by
  refine ⟨?_, ?_⟩
  · rw [List.nodup_append]
    refine ⟨h.nd, by simp, ?_⟩
    intro a ha b hb
    rw [List.mem_singleton] at hb
    subst hb
    intro e; subst e; exact hn ha
  · intro x hx
    rcases List.mem_append.1 hx with hx | hx
    · exact h.bd x hx
    · rw [List.mem_singleton] at hx; subst hx; omega
/-- A round laid behind the others. -/
theorem RKeep.round {B M n : Nat} {W wr : World} {row : List Int} {ps : List (Nat × Nat)} {lq lv : Value} (h : RKeep B M n W wr row ps lq) (b : Nat) (ob : Obj) (w6 : World) (hgr : (wr.alloc ob).grownBy w6 lq.ownBlock)
    (hls : w6.ownsRow (M + 1) 22 1 lv (ps.length + 1) (ps.map (pieceV B) ++ [pieceV B (b, row.length)])) : RKeep B M n W w6 row (ps ++ [(b, row.length)]) lv := by
  have hlt := h.lt
  have hbig := h.big
  have hfar : ∀ x, x ≤ M → some x ≠ lq.ownBlock := fun x hx e => by
    have := (h.ls.lt x e.symm).1
    omega
  refine ⟨?_, ?_, ?_, ?_, ?_, hlt⟩
  · exact (World.ownsRow.alloc h.rw1 ob).kept hgr (.inr (hfar B (by omega)))
  · exact (World.ownsRow.alloc h.met ob).kept hgr (.inr (hfar M (by omega)))
  · simpa using hls
  · exact (h.bel.alloc (by omega) ob).grown hgr (by simp; omega) fun k hk => by have := (h.ls.lt k hk).1; omega
  · have := hgr.size
    simp at this
    omega
end Go.Proofs.Ytohfmohkaaidpab


/- What rounds tells is sound; the walk of package rot: turning. -/
namespace Go.Proofs.Ytohfmohkaaidpab
open Go Go.RowKit

theorem walkR_ok {st : List Int} {n : Nat} (hn : st.length = n) (hx : ∀ x ∈ st, 0 ≤ x ∧ x < (n : Int)) (least : Int) : ∀ f d row row', Sp.walkR st least f d row = some row' → 0 ≤ d → d < (n : Int) → RFit n row → RFit n row' ∧ least ∈ row' ∧ ∃ m, row' = row ++ m
  | 0, d, row, row', h, _, _, _ => by simp [Sp.walkR] at h
  | f + 1, d, row, row', h, h0, h1, hf => by
    rw [Sp.walkR] at h
    by_cases hd : d ∈ row
    · rw [if_pos hd] at h
      by_cases hl : d = least
      · rw [if_pos hl] at h
        cases h
        exact ⟨hf, hl ▸ hd, [], by simp⟩
      · rw [if_neg hl] at h
        cases h
    · rw [if_neg hd] at h
      have hdn : d.toNat < n := by omega
      have hdd : ((d.toNat : Nat) : Int) = d := by omega
      have hs := hf.snoc d.toNat hdn (by rw [hdd]; exact hd)
      rw [hdd] at hs
      have hb := hx _ (Sp.getD_mem (l := st) (k := d.toNat) (by omega))
      obtain ⟨r1, r2, m, r3⟩ := walkR_ok hn hx least f _ _ _ h hb.1 hb.2 hs
      exact ⟨r1, r2, d :: m, by rw [r3]; simp⟩
structure POk (n : Nat) (row : List Int) (ps : List (Nat × Nat)) : Prop where
  fit : RFit n row
  ok : ∀ p ∈ ps, p.1 < p.2 ∧ p.2 ≤ row.length
theorem rgo_ok {st : List Int} {n : Nat} (hn : st.length = n) (hx : ∀ x ∈ st, 0 ≤ x ∧ x < (n : Int)) : ∀ f k row ps row' ps', k + f = n → Sp.rgo st f k row ps = some (row', ps') → POk n row ps → POk n row' ps' ∧ ps'.length ≤ ps.length + f
  | 0, k, row, ps, row', ps', _, h, hp => by
    simp only [Sp.rgo, Option.some.injEq, Prod.mk.injEq] at h
    obtain ⟨rfl, rfl⟩ := h
    exact ⟨hp, by omega⟩
  | f + 1, k, row, ps, row', ps', hk, h, hp => by
    rw [Sp.rgo] at h
    by_cases hm : (k : Int) ∈ row
    · rw [if_pos hm] at h
      obtain ⟨r1, r2⟩ := rgo_ok hn hx f (k + 1) row ps row' ps' (by omega) h hp
      exact ⟨r1, by omega⟩
    · rw [if_neg hm] at h
      cases hw : Sp.walkR st k (st.length + 1 - row.length) k row with
      | none => rw [hw] at h; cases h
      | some row1 =>
        rw [hw] at h
        obtain ⟨q1, q2, m, q3⟩ := walkR_ok hn hx k _ _ _ _ hw (by omega) (by omega) hp.fit
        have hlen : row.length < row1.length := by
          cases m with
          | nil => rw [List.append_nil] at q3; subst q3; exact absurd q2 hm
          | cons a r => rw [q3]; simp
        obtain ⟨r1, r2⟩ := rgo_ok hn hx f (k + 1) row1 _ row' ps' (by omega) h ⟨q1, fun p hpm => by
          rcases List.mem_append.1 hpm with hpm | hpm
          · have := hp.ok p hpm; omega
          · rw [List.mem_singleton] at hpm; subst hpm; exact ⟨hlen, Nat.le_refl _⟩⟩
        exact ⟨r1, by simp at r2; omega⟩
theorem rnds_ok {st : List Int} (hx : ∀ x ∈ st, 0 ≤ x ∧ x < (st.length : Int)) {row : List Int} {ps : List (Nat × Nat)} (h : Sp.rnds st = some (row, ps)) : POk st.length row ps ∧ ps.length ≤ st.length := by
  have := rgo_ok rfl hx st.length 0 [] [] row ps (by omega) h ⟨⟨by simp, by simp⟩, by simp⟩
  simpa using this
def Sp.rndsD (st : List Int) : List Int × List (Nat × Nat) := (Sp.rnds st).getD ([], [])
/-- What rounds leaves, in one form. -/
theorem RoundsPost.one {st : List Int} {w w' : World} {e : Ending} (h : RoundsPost st w e w') (hx : ∀ x ∈ st, 0 ≤ x ∧ x < (st.length : Int)) :
    ∃ lv, e = .returned (.tuple #[lv, .bool (Sp.rnds st).isSome]) ∧ Below w.heap.size w w' ∧ (Sp.rndsD st).2.length ≤ st.length ∧ POk st.length (Sp.rndsD st).1 (Sp.rndsD st).2 ∧ w'.ownsRow w.heap.size 22 1 lv (Sp.rndsD st).2.length ((Sp.rndsD st).2.map (pieceV w.heap.size))
      ∧ (∀ k, (hk : k < (Sp.rndsD st).1.length) → ∀ w'', Below w'.heap.size w' w'' → w''.cell? ⟨w.heap.size, k, none⟩ = some (.int .i64 (Sp.rndsD st).1[k]) ∧ w''.frozen? ⟨w.heap.size, k, none⟩ = false) := by
  obtain ⟨hb, hs, hn⟩ := h
  unfold Sp.rndsD
  cases hr : Sp.rnds st with
  | none =>
    refine ⟨_, hn hr, hb, by simp, ⟨⟨by simp, by simp⟩, by simp⟩, World.ownsRow_nil _ _ _ _, ?_⟩
    intro k hk
    simp at hk
  | some rp =>
    obtain ⟨row, ps⟩ := rp
    obtain ⟨lv, he, ho, hl⟩ := hs row ps hr
    obtain ⟨h1, h2⟩ := rnds_ok hx hr
    refine ⟨lv, he, hb, h2, h1, hl, ?_⟩
    intro k hk w'' hb'
    have h3 : OwnI w'' w.heap.size (.slice (some ⟨w.heap.size, 0, none⟩) row.length st.length) row := own_below ho hb'
    exact ⟨own_cell h3 k hk, own_frozen h3 k⟩
end Go.Proofs.Ytohfmohkaaidpab


