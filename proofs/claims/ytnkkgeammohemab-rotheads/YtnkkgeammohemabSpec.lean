/- What the program's functions of package net compute, as plain functions on lists of bytes and of integers. Nothing of the translation is named here. -/
import Derived.Lib.Strings
import Derived.Lib.Index
import Derived.Lib.CutLaws
import Derived.Lib.ItoaLen
import Derived.Lib.Split
import Derived.Lib.SplitLaws
import Derived.Lib.CountLaws
namespace Go.Proofs.Ytnkkgeammohemab.Sp

/-- Is a byte a digit? -/
def isDig (c : UInt8) : Bool := decide (48 ≤ (c.toNat : Int)) && decide ((c.toNat : Int) ≤ 57)
/-- One digit more, held at 10^15. -/
def step (x : Int) (c : UInt8) : Int := min (10 * x + ((c.toNat : Int) - 48)) 1000000000000000
def readTo (l : List UInt8) : Int := l.foldl step 0
/-- A word that is a number (its amount held at 10^15). -/
def number (s : List UInt8) : Option Int :=
  if (Lib.trimPrefix s [45]) = [] then none
  else if (Lib.trimPrefix s [45]).head? = some 48 ∧ s ≠ [48] then none
  else if (Lib.trimPrefix s [45]).all isDig then some (if Lib.hasPrefix s [45] then - readTo (Lib.trimPrefix s [45]) else readTo (Lib.trimPrefix s [45]))
  else none

/-- A text parted by a byte. -/
def partsBy (z : UInt8) : List UInt8 → List (List UInt8)
  | [] => [[]]
  | c :: r => if c = z then [] :: partsBy z r else match partsBy z r with
    | [] => [[c]]
    | p :: q => (c :: p) :: q
def parts (l : List UInt8) : List (List UInt8) := partsBy 32 l
def nums : List (List UInt8) → Option (List Int)
  | [] => some []
  | p :: r => (number p).bind fun x => (nums r).map (x :: ·)
/-- Numbers, one blank between; of no bytes none. -/
def numbers (s : List UInt8) : Option (List Int) := if s = [] then some [] else nums (parts s)

def great (x : Int) : Bool := x == 1000000000000000 || x == -1000000000000000
/-- net.Row. -/
def row (s : List UInt8) : Option (List Int) := (numbers s).bind fun l => if l.any great then none else some l
/-- A net: how many vertices; where each dart begins; the next one about; what it holds. -/
structure Net where
  n : Int
  tail : List Int
  next : List Int
  cap : List Int
def zero : Net := ⟨0, [], [], []⟩
abbrev Line := List UInt8 × List Int
def head (q : Net) (l : Line) : Net := { q with n := l.2.getD 0 0 }
def edge (q : Net) (l : Line) : Net := ⟨q.n, q.tail ++ [l.2.getD 0 0, l.2.getD 1 0], q.next ++ [-1, -1], q.cap ++ [l.2.getD 2 0, l.2.getD 3 0]⟩
/-- The next darts behind k of the turn's numbers; none: a dart had one. -/
def turnTo (next nums : List Int) : Nat → Option (List Int)
  | 0 => some next
  | k + 1 => (turnTo next nums k).bind fun nx => if nx.getD (nums.getD k 0).toNat 0 = -1 then some (nx.set (nums.getD k 0).toNat (nums.getD ((k + 1) % nums.length) 0)) else none
def countOf (l : List Int) (x : Int) : Int := (l.filter fun y => decide (y = x)).length
def turn (q : Net) (l : Line) : Net := { q with next := (turnTo q.next l.2 l.2.length).getD [] }
end Go.Proofs.Ytnkkgeammohemab.Sp


