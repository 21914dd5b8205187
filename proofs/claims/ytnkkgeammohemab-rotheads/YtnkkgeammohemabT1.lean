/- Lines that tell a net are read as that net: the text of headLine, edge lines, turn lines. -/
import Derived.Test.YtnkkgeammohemabT4
namespace Go.Proofs.Ytnkkgeammohemab.Sp
open Go

/-- A vertex's darts in turn. -/
structure RoundOf (q : Net) (v : Nat) (l : List Int) : Prop where
  nodup : l.Nodup
  dart : ∀ x ∈ l, 0 ≤ x ∧ x < q.tail.length ∧ q.tail.getD x.toNat 0 = (v : Int)
  next : ∀ i, i < l.length → q.next.getD (l.getD i 0).toNat 0 = l.getD ((i + 1) % l.length) 0
  count : (l.length : Int) = countOf q.tail v
  all : ∀ d : Nat, d < q.tail.length → q.tail.getD d 0 = (v : Int) → (d : Int) ∈ l
/-- What W1 asks of a net's lists, turns aside. -/
structure Lists (q : Net) : Prop where
  n0 : 0 ≤ q.n
  n1 : q.n ≤ 60
  ev : q.tail.length % 2 = 0
  tl : q.tail.length ≤ 240
  nl : q.next.length = q.tail.length
  cl : q.cap.length = q.tail.length
  tb : ∀ x ∈ q.tail, 0 ≤ x ∧ x < q.n
  cb : ∀ x ∈ q.cap, 0 ≤ x ∧ x ≤ 2147483648

/- ---- bytes ---- -/
/- ---- lines of a text ---- -/
end Go.Proofs.Ytnkkgeammohemab.Sp


