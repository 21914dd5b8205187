/- What the program's functions of package net compute, as plain functions on lists of bytes and of integers. Nothing of the translation is named here. -/
import Derived.Lib.Strings
import Derived.Lib.Index
import Derived.Lib.CutLaws
import Derived.Lib.ItoaLen
import Derived.Lib.Split
import Derived.Lib.SplitLaws
import Derived.Lib.CountLaws
namespace Go.Proofs.YtkmcfjkfoafkoaaDoor.Sp

/-- Is a byte a digit? -/
def isDig (c : UInt8) : Bool := decide (48 ≤ (c.toNat : Int)) && decide ((c.toNat : Int) ≤ 57)
/-- One digit more, held at 10^15. -/
def step (x : Int) (c : UInt8) : Int := min (10 * x + ((c.toNat : Int) - 48)) 1000000000000000
def readTo (l : List UInt8) : Int := l.foldl step 0
/-- A word that is a number (its amount held at 10^15). -/
def number (s : List UInt8) : Option Int :=
  if (Lib.trimPrefix s [45]) = [] then none
  else if (Lib.trimPrefix s [45]).head? = some 48 ∧ s ≠ [48] then none
  else if (Lib.trimPrefix s [45]).all isDig then some (if Lib.hasPrefix s [45] then - readTo (Lib.trimPrefix s [45]) else readTo (Lib.trimPrefix s [45]))
  else none

theorem step_bd {x : Int} {c : UInt8} (h0 : 0 ≤ x) (hc : isDig c = true) : 0 ≤ step x c ∧ step x c ≤ 1000000000000000 := by
  simp [isDig] at hc
  unfold step
  omega
theorem readTo_bd (l : List UInt8) (h : l.all isDig = true) : 0 ≤ readTo l ∧ readTo l ≤ 1000000000000000 := by
  unfold readTo
  suffices H : ∀ (l : List UInt8) (x : Int), 0 ≤ x → x ≤ 1000000000000000 → l.all isDig = true → 0 ≤ l.foldl step x ∧ l.foldl step x ≤ 1000000000000000 from H l 0 (by omega) (by omega) h
  intro l
  induction l with
  | nil => intro x h0 h1 _; exact ⟨h0, h1⟩
  | cons c r ih =>
    intro x h0 _ hd
    simp only [List.all_cons, Bool.and_eq_true] at hd
    have := step_bd h0 hd.1
    exact ih _ this.1 this.2 hd.2
theorem number_bd {s : List UInt8} {x : Int} (h : number s = some x) : -1000000000000000 ≤ x ∧ x ≤ 1000000000000000 := by
  unfold number at h
  split at h
  · cases h
  · split at h
    · cases h
    · split at h
      · rename_i hd
        have := readTo_bd _ hd
        injection h with h
        subst h
        split <;> omega
      · cases h

/-- A text parted by a byte. -/
def partsBy (z : UInt8) : List UInt8 → List (List UInt8)
  | [] => [[]]
  | c :: r => if c = z then [] :: partsBy z r else match partsBy z r with
    | [] => [[c]]
    | p :: q => (c :: p) :: q
def parts (l : List UInt8) : List (List UInt8) := partsBy 32 l
def nums : List (List UInt8) → Option (List Int)
  | [] => some []
  | p :: r => (number p).bind fun x => (nums r).map (x :: ·)
/-- Numbers, one blank between; of no bytes none. -/
def numbers (s : List UInt8) : Option (List Int) := if s = [] then some [] else nums (parts s)

theorem partsBy_ne (z : UInt8) (l : List UInt8) : partsBy z l ≠ [] := by
  cases l with
  | nil => simp [partsBy]
  | cons c r =>
    unfold partsBy
    split
    · simp
    · split <;> simp
theorem index1 (z b : UInt8) (l : List UInt8) : Lib.index (b :: l) [z] = if b = z then 0 else if Lib.index l [z] = -1 then -1 else Lib.index l [z] + 1 := by
  rw [Lib.index]
  by_cases h : b = z
  · subst h; simp [List.isPrefixOf]
  · have : ([z] : List UInt8).isPrefixOf (b :: l) = false := by simp [List.isPrefixOf]; exact fun e => h e.symm
    rw [this, if_neg h]
    simp
theorem index1_ge (z : UInt8) (l : List UInt8) : -1 ≤ Lib.index l [z] := by
  induction l with
  | nil => simp [Lib.index]
  | cons b l ih =>
    rw [index1]
    split
    · omega
    · split <;> omega
theorem cut_no (z : UInt8) (l : List UInt8) (h : Lib.index l [z] = -1) : partsBy z l = [l] := by
  induction l with
  | nil => rfl
  | cons b l ih =>
    rw [index1] at h
    have g := index1_ge z l
    by_cases hb : b = z
    · rw [if_pos hb] at h; omega
    · rw [if_neg hb] at h
      have : Lib.index l [z] = -1 := by split at h <;> omega
      unfold partsBy
      rw [if_neg hb, ih this]
theorem cut_yes (z : UInt8) (l : List UInt8) (h : 0 ≤ Lib.index l [z]) : partsBy z l = l.take (Lib.index l [z]).toNat :: partsBy z (l.drop ((Lib.index l [z]).toNat + 1)) ∧ (Lib.index l [z]).toNat < l.length := by
  induction l with
  | nil => simp [Lib.index] at h
  | cons b l ih =>
    rw [index1] at h ⊢
    have g := index1_ge z l
    by_cases hb : b = z
    · rw [if_pos hb]
      subst hb
      simp [partsBy]
    · rw [if_neg hb] at h ⊢
      by_cases hi : Lib.index l [z] = -1
      · rw [if_pos hi] at h; omega
      · rw [if_neg hi] at h ⊢
        obtain ⟨h1, h2⟩ := ih (by omega)
        have e : (Lib.index l [z] + 1).toNat = (Lib.index l [z]).toNat + 1 := by omega
        rw [e]
        refine ⟨?_, by simp; omega⟩
        rw [partsBy, if_neg hb, h1]
        simp
/-- What strings.Cut by a byte says of the parts. -/
theorem parts_cut (z : UInt8) (l : List UInt8) : ((Lib.cut l [z]).2.2 = true ∧ partsBy z l = (Lib.cut l [z]).1 :: partsBy z (Lib.cut l [z]).2.1 ∧ (Lib.cut l [z]).2.1.length < l.length) ∨ ((Lib.cut l [z]).2.2 = false ∧ partsBy z l = [(Lib.cut l [z]).1] ∧ (Lib.cut l [z]).2.1 = [] ∧ (Lib.cut l [z]).1 = l) := by
  unfold Lib.cut
  by_cases h : 0 ≤ Lib.index l [z]
  · left
    obtain ⟨h1, h2⟩ := cut_yes z l h
    rw [if_pos h]
    exact ⟨rfl, h1, by simp; omega⟩
  · right
    rw [if_neg h]
    exact ⟨rfl, cut_no z l (by have := index1_ge z l; omega), rfl, rfl⟩
theorem cut_len (z : UInt8) (l : List UInt8) : (Lib.cut l [z]).1.length ≤ l.length ∧ (Lib.cut l [z]).2.1.length ≤ l.length := by
  unfold Lib.cut
  split
  · simp; omega
  · simp
theorem partsBy_len (z : UInt8) (l : List UInt8) : (partsBy z l).length ≤ l.length + 1 := by
  induction l with
  | nil => simp [partsBy]
  | cons c r ih =>
    unfold partsBy
    split
    · simp; omega
    · split
      · simp
      · rename_i h; rw [h] at ih; simp at ih ⊢; omega
theorem nums_len {ps : List (List UInt8)} {l : List Int} (h : nums ps = some l) : l.length = ps.length := by
  induction ps generalizing l with
  | nil => simp [nums] at h; subst h; rfl
  | cons p r ih =>
    simp only [nums, Option.bind_eq_some_iff, Option.map_eq_some_iff] at h
    obtain ⟨x, _, q, hq, rfl⟩ := h
    simp [ih hq]
theorem nums_bd {ps : List (List UInt8)} {l : List Int} (h : nums ps = some l) : ∀ x ∈ l, -1000000000000000 ≤ x ∧ x ≤ 1000000000000000 := by
  induction ps generalizing l with
  | nil => simp [nums] at h; subst h; simp
  | cons p r ih =>
    simp only [nums, Option.bind_eq_some_iff, Option.map_eq_some_iff] at h
    obtain ⟨x, hx, q, hq, rfl⟩ := h
    intro y hy
    rcases List.mem_cons.1 hy with rfl | hy
    · exact number_bd hx
    · exact ih hq y hy
theorem numbers_bd {s : List UInt8} {l : List Int} (h : numbers s = some l) : ∀ x ∈ l, -1000000000000000 ≤ x ∧ x ≤ 1000000000000000 := by
  unfold numbers at h
  split at h
  · injection h with h; subst h; simp
  · exact nums_bd h
theorem numbers_len {s : List UInt8} {l : List Int} (h : numbers s = some l) : l.length ≤ s.length + 1 := by
  unfold numbers at h
  split at h
  · injection h with h; subst h; simp
  · rw [nums_len h]; exact partsBy_len _ _
def great (x : Int) : Bool := x == 1000000000000000 || x == -1000000000000000
/-- net.Row. -/
def row (s : List UInt8) : Option (List Int) := (numbers s).bind fun l => if l.any great then none else some l
/-- net.RowText. -/
def rowText : List Int → List UInt8
  | [] => []
  | x :: r => Lib.itoa x ++ (if r = [] then [] else 32 :: rowText r)
theorem rowText_snoc (l : List Int) (x : Int) : rowText (l ++ [x]) = rowText l ++ ((if l = [] then [] else [32]) ++ Lib.itoa x) := by
  induction l with
  | nil => simp [rowText]
  | cons y r ih =>
    rw [List.cons_append, rowText, rowText, if_neg (by simp), ih]
    by_cases h : r = []
    · subst h; simp [rowText]
    · simp [h]
theorem rowText_len (l : List Int) (h : ∀ x ∈ l, -9223372036854775808 ≤ x ∧ x ≤ 9223372036854775807) : (rowText l).length ≤ 22 * l.length := by
  induction l with
  | nil => simp [rowText]
  | cons y r ih =>
    have h1 := Lib.itoa_length_le y (h y (by simp)).1 (h y (by simp)).2
    have h2 := ih fun x hx => h x (by simp [hx])
    rw [rowText]
    split
    · simp; omega
    · simp; omega
/-- A line: a word and the numbers behind it; what is no such line has no word and no number. -/
def lineP (s : List UInt8) : List UInt8 × List Int :=
  match numbers (Lib.cut s [32]).2.1 with
  | none => ([], [])
  | some l => if (Lib.cut s [32]).2.2 = true ∧ l = [] then ([], []) else if l.any (fun x => decide (x < 0)) then ([], []) else ((Lib.cut s [32]).1, l)
/-- The line of a number, counted from 1. -/
def lineOf (ls : List (List UInt8)) (k : Nat) : List UInt8 × List Int := if ls.length < k then ([], []) else lineP (ls.getD (k - 1) [])
theorem lineP_bd (s : List UInt8) : ∀ x ∈ (lineP s).2, 0 ≤ x ∧ x ≤ 1000000000000000 := by
  unfold lineP
  split
  · simp
  · rename_i l hl
    split
    · simp
    · split
      · simp
      · rename_i h1 h2
        intro x hx
        simp only [List.any_eq_true, not_exists, not_and, decide_eq_true_eq] at h2
        have := numbers_bd hl x hx
        have := h2 x hx
        omega
theorem lineP_len (s : List UInt8) : (lineP s).2.length ≤ s.length + 1 := by
  unfold lineP
  split
  · simp
  · rename_i l hl
    have := numbers_len hl
    have := (cut_len 32 s).2
    split
    · simp
    · split
      · simp
      · simp; omega
/-- A net: how many vertices; where each dart begins; the next one about; what it holds. -/
structure Net where
  n : Int
  tail : List Int
  next : List Int
  cap : List Int
def zero : Net := ⟨0, [], [], []⟩
abbrev Line := List UInt8 × List Int
def wNet : List UInt8 := [110, 101, 116]
def wEdge : List UInt8 := [101, 100, 103, 101]
def wTurn : List UInt8 := [116, 117, 114, 110]
def headE (l : Line) : Int := if l.1 ≠ wNet ∨ l.2.length ≠ 1 then 1 else if 60 < l.2.getD 0 0 then 2 else 0
def head (q : Net) (l : Line) : Net := { q with n := l.2.getD 0 0 }
def edgeE (q : Net) (l : Line) : Int :=
  if l.2.length ≠ 4 then 1 else if q.tail.length = 240 then 2
  else if q.n ≤ l.2.getD 0 0 ∨ q.n ≤ l.2.getD 1 0 then 3 else if 2147483648 < l.2.getD 2 0 ∨ 2147483648 < l.2.getD 3 0 then 4 else 0
def edge (q : Net) (l : Line) : Net := ⟨q.n, q.tail ++ [l.2.getD 0 0, l.2.getD 1 0], q.next ++ [-1, -1], q.cap ++ [l.2.getD 2 0, l.2.getD 3 0]⟩
/-- A number that is a dart of v's. -/
def dartOf (tail : List Int) (v x : Int) : Bool := decide (x < tail.length) && decide (tail.getD x.toNat 0 = v)
/-- The next darts behind k of the turn's numbers; none: a dart had one. -/
def turnTo (next nums : List Int) : Nat → Option (List Int)
  | 0 => some next
  | k + 1 => (turnTo next nums k).bind fun nx => if nx.getD (nums.getD k 0).toNat 0 = -1 then some (nx.set (nums.getD k 0).toNat (nums.getD ((k + 1) % nums.length) 0)) else none
def countOf (l : List Int) (x : Int) : Int := (l.filter fun y => decide (y = x)).length
def turnE (q : Net) (v : Int) (l : Line) : Int :=
  if l.1 ≠ wTurn then 1 else if l.2.all (dartOf q.tail v) = false then 5
  else if (turnTo q.next l.2 l.2.length).isNone then 6 else if (l.2.length : Int) ≠ countOf q.tail v then 6 else 0
def turn (q : Net) (l : Line) : Net := { q with next := (turnTo q.next l.2 l.2.length).getD [] }
theorem countOf_snoc (L : List Int) (k : Nat) (h : k < L.length) (x : Int) : countOf (L.take (k + 1)) x = countOf (L.take k) x + if L[k] = x then 1 else 0 := by
  unfold countOf
  rw [List.take_succ_eq_append_getElem h, List.filter_append]
  by_cases e : L[k] = x <;> simp [e]
theorem countOf_bd (L : List Int) (x : Int) : 0 ≤ countOf L x ∧ countOf L x ≤ L.length := by
  unfold countOf
  exact ⟨by omega, by have := List.length_filter_le (fun y => decide (y = x)) L; omega⟩
theorem turnTo_none {next nums : List Int} {k : Nat} (h : turnTo next nums k = none) (m : Nat) : turnTo next nums (k + m) = none := by
  induction m with
  | zero => exact h
  | succ m ih => rw [← Nat.add_assoc, turnTo, ih]; rfl
theorem turnTo_len {next nums : List Int} {k : Nat} {nx : List Int} (h : turnTo next nums k = some nx) : nx.length = next.length := by
  induction k generalizing nx with
  | zero => simp [turnTo] at h; subst h; rfl
  | succ k ih =>
    simp only [turnTo, Option.bind_eq_some_iff] at h
    obtain ⟨m, hm, h⟩ := h
    split at h
    · injection h with h; subst h; simp [ih hm]
    · cases h
theorem split_parts (z : UInt8) : ∀ (n : Nat) (l : List UInt8), l.length ≤ n → Lib.splitK [z] 0 (Lib.count l [z]) l = partsBy z l
  | n, l, hn => by
    by_cases h : Lib.index l [z] = -1
    · rw [Lib.count_miss h, cut_no z l h]; rfl
    · have hg := index1_ge z l
      have h0 : 0 ≤ Lib.index l [z] := by omega
      obtain ⟨h1, h2⟩ := cut_yes z l h0
      have hc := Lib.count_hit (s := l) (sub := [z]) (i := (Lib.index l [z]).toNat) (by simp) (by omega)
      match n, hn with
      | 0, hn => omega
      | n + 1, hn =>
        rw [hc, Nat.add_comm 1, Lib.splitK, if_neg (by simpa using h), h1]
        have := split_parts z n (l.drop ((Lib.index l [z]).toNat + 1)) (by simp; omega)
        simp only [List.length_cons, List.length_nil, Nat.zero_add, Nat.add_zero]
        rw [this]
theorem parts_size (z : UInt8) (l : List UInt8) : ∀ p ∈ partsBy z l, p.length ≤ l.length := by
  induction l with
  | nil => simp [partsBy]
  | cons c r ih =>
    unfold partsBy
    split
    · intro p hp
      rcases List.mem_cons.1 hp with rfl | hp
      · simp
      · have := ih p hp; simp; omega
    · split
      · intro p hp; simp at hp; subst hp; simp
      · rename_i q t hq
        rw [hq] at ih
        intro p hp
        rcases List.mem_cons.1 hp with rfl | hp
        · have := ih q (by simp); simp; omega
        · have := ih p (by simp [hp]); simp; omega
/-- What is told of a text: the net or none, the line, the error. -/
abbrev Res := Option Net × Nat × Int
def turnsFrom (ls : List (List UInt8)) : Nat → Net → Nat → Nat → Res
  | 0, q, _, k => if k ≤ ls.length then (none, k, 1) else (some q, 0, 0)
  | m + 1, q, v, k => if turnE q v (lineOf ls k) = 0 then turnsFrom ls m (turn q (lineOf ls k)) (v + 1) (k + 1) else (none, k, turnE q v (lineOf ls k))
def edgesFrom (ls : List (List UInt8)) : Nat → Net → Nat → Res
  | 0, q, k => turnsFrom ls q.n.toNat q 0 k
  | f + 1, q, k => if (lineOf ls k).1 = wEdge then (if edgeE q (lineOf ls k) = 0 then edgesFrom ls f (edge q (lineOf ls k)) (k + 1) else (none, k, edgeE q (lineOf ls k))) else turnsFrom ls q.n.toNat q 0 k
def parseL (ls : List (List UInt8)) : Res := if headE (lineOf ls 1) = 0 then edgesFrom ls ls.length (head zero (lineOf ls 1)) 2 else (none, 1, headE (lineOf ls 1))
/-- net.Parse. -/
def parse (s : List UInt8) : Res := if 8000 < s.length then (none, 1, 1) else parseL (partsBy 10 (Lib.trimSuffix s [10]))
end Go.Proofs.YtkmcfjkfoafkoaaDoor.Sp
