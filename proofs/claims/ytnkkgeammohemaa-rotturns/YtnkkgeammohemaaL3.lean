/- What the proof needs, part 3. -/
import Derived.Test.YtnkkgeammohemaaL2
/- Nets as the law's Make grows them: what they are, as plain functions; that they are nets, and that their texts are short. -/
namespace Go.Proofs.Ytnkkgeammohemaa.Sp
open Go

/-- So many edges, of the numbers. -/
def mkE (n : Int) (ns : List Int) : Nat → Net
  | 0 => ⟨n, [], [], []⟩
  | j + 1 => edgeN (mkE n ns j) (ns.getD (2 * j) 0 % 1099511627776 % n) (ns.getD (2 * j) 0 % 1099511627776 / 9 % n) (capOf (ns.getD (2 * j + 1) 0)) (capOf ((ns.getD (2 * j + 1) 0).tdiv 11))
/-- Where a dart is laid into a turn. -/
def mkK (ns : List Int) (d : Nat) (m : Nat) : Nat := if ns.length = 0 then 0 else ((ns.getD (d % ns.length) 0).tdiv 7 % ((m : Int) + 1)).toNat
def insAt (l : List Int) (k : Nat) (d : Int) : List Int := l.take k ++ d :: l.drop k
/-- A vertex's turn, of the first so many darts. -/
def mkL (ns tail : List Int) (v : Int) : Nat → List Int
  | 0 => []
  | d + 1 => if tail.getD d 0 = v then insAt (mkL ns tail v d) (mkK ns d (mkL ns tail v d).length) d else mkL ns tail v d
/-- So many vertices' turns. -/
def mkR (ns : List Int) (q : Net) : Nat → Net
  | 0 => q
  | v + 1 => roundN (mkR ns q v) (mkL ns q.tail v q.tail.length)
def edges (n : Int) (ns : List Int) : Nat := if n = 0 then 0 else min (ns.length / 2) 20
def make (size : Int) (ns : List Int) : Net := mkR ns (mkE (size % 9) ns (edges (size % 9) ns)) (size % 9).toNat

theorem mkE_lens (n : Int) (ns : List Int) (j : Nat) : (mkE n ns j).n = n ∧ (mkE n ns j).tail.length = 2 * j ∧ (mkE n ns j).next.length = 2 * j ∧ (mkE n ns j).cap.length = 2 * j := by
  induction j with
  | zero => exact ⟨rfl, rfl, rfl, rfl⟩
  | succ j ih => obtain ⟨a, b, c, d⟩ := ih; simp [mkE, edgeN, a, b, c, d]; omega
theorem insAt_mem (l : List Int) (k : Nat) (d x : Int) : x ∈ insAt l k d ↔ x = d ∨ x ∈ l := by
  unfold insAt
  rw [List.mem_append, List.mem_cons]
  constructor
  · rintro (h | rfl | h)
    · exact .inr (List.mem_of_mem_take h)
    · exact .inl rfl
    · exact .inr (List.mem_of_mem_drop h)
  · rintro (rfl | h)
    · exact .inr (.inl rfl)
    · rw [← List.take_append_drop k l, List.mem_append] at h
      rcases h with h | h
      · exact .inl h
      · exact .inr (.inr h)
theorem insAt_perm (l : List Int) (k : Nat) (d : Int) : (insAt l k d).Perm (d :: l) := by
  unfold insAt
  have h := List.perm_middle (a := d) (l₁ := l.take k) (l₂ := l.drop k)
  rw [List.take_append_drop] at h
  exact h
theorem insAt_len (l : List Int) (k : Nat) (d : Int) : (insAt l k d).length = l.length + 1 := (insAt_perm l k d).length_eq
theorem mkL_mem (ns tail : List Int) (v : Int) (d : Nat) (x : Int) : x ∈ mkL ns tail v d ↔ ∃ e : Nat, e < d ∧ x = e ∧ tail.getD e 0 = v := by
  induction d with
  | zero => simp [mkL]
  | succ d ih =>
    rw [mkL]
    split
    · rename_i h
      rw [insAt_mem, ih]
      constructor
      · rintro (rfl | ⟨e, a, b, c⟩)
        · exact ⟨d, by omega, rfl, h⟩
        · exact ⟨e, by omega, b, c⟩
      · rintro ⟨e, a, b, c⟩
        by_cases he : e = d
        · exact .inl (by rw [b, he])
        · exact .inr ⟨e, by omega, b, c⟩
    · rename_i h
      rw [ih]
      constructor
      · rintro ⟨e, a, b, c⟩; exact ⟨e, by omega, b, c⟩
      · rintro ⟨e, a, b, c⟩
        by_cases he : e = d
        · exact absurd (he ▸ c) h
        · exact ⟨e, by omega, b, c⟩
theorem mkL_nodup (ns tail : List Int) (v : Int) (d : Nat) : (mkL ns tail v d).Nodup := by
  induction d with
  | zero => simp [mkL]
  | succ d ih =>
    rw [mkL]
    split
    · refine (insAt_perm _ _ _).symm.nodup (List.nodup_cons.2 ⟨?_, ih⟩)
      intro h
      obtain ⟨e, a, b, _⟩ := (mkL_mem ns tail v d _).1 h
      omega
    · exact ih
theorem mkL_len (ns tail : List Int) (v : Int) (d : Nat) : (mkL ns tail v d).length ≤ d := by
  induction d with
  | zero => simp [mkL]
  | succ d ih =>
    rw [mkL]
    split
    · rw [insAt_len]; omega
    · omega
theorem mkK_le (ns : List Int) (d m : Nat) : mkK ns d m ≤ m := by
  unfold mkK
  split
  · omega
  · have := Int.emod_lt_of_pos ((ns.getD (d % ns.length) 0).tdiv 7) (show (0 : Int) < (m : Int) + 1 by omega)
    omega
theorem mkR_same (ns : List Int) (q : Net) (v : Nat) : (mkR ns q v).n = q.n ∧ (mkR ns q v).tail = q.tail ∧ (mkR ns q v).cap = q.cap ∧ (mkR ns q v).next.length = q.next.length := by
  induction v with
  | zero => exact ⟨rfl, rfl, rfl, rfl⟩
  | succ v ih => obtain ⟨a, b, c, d⟩ := ih; exact ⟨a, b, c, by simp [mkR, roundN, layTo_len, d]⟩
end Go.Proofs.Ytnkkgeammohemaa.Sp


