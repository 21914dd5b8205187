/- The walks of the reference's number, Split, Numbers, Row. -/
import Derived.Test.YtkmcfjkfoafkoaaDoorW4
namespace Go.Proofs.YtkmcfjkfoafkoaaDoor
open Go Go.RowKit

/-- The reference's reading of a word: the program's, less what is too great. -/
def rnum (s : List UInt8) : Option Int := (Sp.number s).bind fun x => if Sp.great x then none else some x
/-- A digit more, as the reference counts: none behind what is too great. -/
def rstep (x : Option Int) (c : UInt8) : Option Int := x.bind fun n => if Sp.isDig c = false ∨ 1000000000000000 ≤ n then none else some (10 * n + ((c.toNat : Int) - 48))
theorem rstep_none (l : List UInt8) : l.foldl rstep none = none := by
  induction l with
  | nil => rfl
  | cons c r ih => exact ih
theorem rstep_bad (l : List UInt8) : ∀ x : Option Int, l.all Sp.isDig = false → l.foldl rstep x = none := by
  induction l with
  | nil => intro x h; cases h
  | cons c r ih =>
    intro x h
    rw [List.foldl_cons]
    simp only [List.all_cons, Bool.and_eq_false_iff] at h
    rcases h with h | h
    · have : rstep x c = none := by cases x with
        | none => rfl
        | some n => simp [rstep, h]
      rw [this]; exact rstep_none r
    · exact ih _ h
theorem step_most (l : List UInt8) (h : l.all Sp.isDig = true) : l.foldl Sp.step 1000000000000000 = 1000000000000000 := by
  induction l with
  | nil => rfl
  | cons c r ih =>
    simp only [List.all_cons, Bool.and_eq_true] at h
    have hd := h.1
    simp [Sp.isDig] at hd
    have e : Sp.step 1000000000000000 c = 1000000000000000 := by unfold Sp.step; omega
    rw [List.foldl_cons, e]; exact ih h.2
theorem fold_both (l : List UInt8) : ∀ x : Int, 0 ≤ x → l.all Sp.isDig = true →
    (∃ n, l.foldl rstep (some x) = some n ∧ 0 ≤ n ∧ l.foldl Sp.step (min x 1000000000000000) = min n 1000000000000000) ∨ (l.foldl rstep (some x) = none ∧ l.foldl Sp.step (min x 1000000000000000) = 1000000000000000) := by
  induction l with
  | nil => intro x hx _; exact .inl ⟨x, rfl, hx, rfl⟩
  | cons c r ih =>
    intro x hx h
    simp only [List.all_cons, Bool.and_eq_true] at h
    have hd := h.1
    simp [Sp.isDig] at hd
    rw [List.foldl_cons, List.foldl_cons]
    by_cases hm : 1000000000000000 ≤ x
    · right
      have e1 : rstep (some x) c = none := by simp [rstep, hm]
      have e2 : Sp.step (min x 1000000000000000) c = 1000000000000000 := by unfold Sp.step; omega
      rw [e1, e2]
      exact ⟨rstep_none r, step_most r h.2⟩
    · have e1 : rstep (some x) c = some (10 * x + ((c.toNat : Int) - 48)) := by
        simp only [rstep, Option.bind_some]
        rw [if_neg (by simp [h.1]; omega)]
      have e2 : Sp.step (min x 1000000000000000) c = min (10 * x + ((c.toNat : Int) - 48)) 1000000000000000 := by unfold Sp.step; omega
      rw [e1, e2]
      exact ih _ (by omega) h.2
/-- The two readings of digits are one. -/
theorem rfold_some {l : List UInt8} {n : Int} (h : l.foldl rstep (some 0) = some n) : l.all Sp.isDig = true ∧ 0 ≤ n ∧ Sp.readTo l = min n 1000000000000000 := by
  have ha : l.all Sp.isDig = true := by
    cases e : l.all Sp.isDig with
    | true => rfl
    | false => rw [rstep_bad l _ e] at h; cases h
  refine ⟨ha, ?_⟩
  rcases fold_both l 0 (by omega) ha with ⟨m, h1, h2, h3⟩ | ⟨h1, _⟩
  · rw [h] at h1; injection h1 with h1; subst h1
    exact ⟨h2, h3⟩
  · rw [h] at h1; cases h1
theorem rfold_none {l : List UInt8} (h : l.foldl rstep (some 0) = none) : l.all Sp.isDig = false ∨ (l.all Sp.isDig = true ∧ Sp.readTo l = 1000000000000000) := by
  cases e : l.all Sp.isDig with
  | false => exact .inl rfl
  | true =>
    rcases fold_both l 0 (by omega) e with ⟨m, h1, _⟩ | ⟨_, h2⟩
    · rw [h] at h1; cases h1
    · exact .inr ⟨rfl, h2⟩
theorem rfold_snoc (s : ByteArray) (k : Nat) (h : k < s.size) : (s.data.toList.take (k + 1)).foldl rstep (some 0) = rstep ((s.data.toList.take k).foldl rstep (some 0)) s[k] := by
  rw [take_snoc s k h, List.foldl_append]; rfl
theorem rfold_stop {l : List UInt8} {k : Nat} (h : (l.take k).foldl rstep (some 0) = none) : l.foldl rstep (some 0) = none := by
  rw [← List.take_append_drop k l, List.foldl_append, h]; exact rstep_none _
/-- A word's number, by its digits. -/
theorem rnum_of {l d : List UInt8} {neg : Bool} (hd : d = Lib.trimPrefix l [45]) (hn : Lib.hasPrefix l [45] = neg) (h0 : d ≠ []) (h : ¬ (d.head? = some 48 ∧ l ≠ [48])) :
    (d.foldl rstep (some 0) = none → rnum l = none) ∧ ∀ n, d.foldl rstep (some 0) = some n → 0 ≤ n ∧ rnum l = if n < 1000000000000000 then some (if neg then - n else n) else none := by
  constructor
  · intro hf
    unfold rnum
    rcases rfold_none hf with ha | ⟨ha, hr⟩
    · rw [num_bad hd h0 h ha]; rfl
    · rw [num_good hd hn h0 h ha, hr]
      cases neg <;> rfl
  · intro n hf
    obtain ⟨ha, hp, hr⟩ := rfold_some hf
    refine ⟨hp, ?_⟩
    unfold rnum
    rw [num_good hd hn h0 h ha, hr]
    by_cases hm : n < 1000000000000000
    · rw [if_pos hm, show min n 1000000000000000 = n by omega]
      cases neg
      · simp only [Option.bind_some, Bool.false_eq_true, if_false]
        rw [if_neg (by simp [Sp.great]; omega)]
      · simp only [Option.bind_some, if_true]
        rw [if_neg (by simp [Sp.great]; omega)]
    · rw [if_neg hm, show min n 1000000000000000 = 1000000000000000 by omega]
      cases neg <;> rfl
theorem rnum_no {l : List UInt8} (h : Sp.number l = none) : rnum l = none := by unfold rnum; rw [h]; rfl
end Go.Proofs.YtkmcfjkfoafkoaaDoor
