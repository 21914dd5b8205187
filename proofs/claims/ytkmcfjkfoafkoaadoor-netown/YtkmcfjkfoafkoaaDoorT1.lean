/- Lines that tell a net are read as that net: the text of headLine, edge lines, turn lines. -/
import Derived.Test.YtkmcfjkfoafkoaaDoorR8
namespace Go.Proofs.YtkmcfjkfoafkoaaDoor.Sp
open Go

def headLine (q : Net) : List UInt8 := wNet ++ 32 :: rowText [q.n]
def edgeRow (q : Net) (e : Nat) : List Int := [q.tail.getD (2 * e) 0, q.tail.getD (2 * e + 1) 0, q.cap.getD (2 * e) 0, q.cap.getD (2 * e + 1) 0]
def edgeLine (q : Net) (e : Nat) : List UInt8 := wEdge ++ 32 :: rowText (edgeRow q e)
def turnLine (l : List Int) : List UInt8 := if l = [] then wTurn else wTurn ++ 32 :: rowText l
/-- The lines of a net whose turns are told so. -/
def linesOf (q : Net) (ts : List (List Int)) : List (List UInt8) := headLine q :: ((List.range (q.tail.length / 2)).map (edgeLine q) ++ ts.map turnLine)
/-- Each line with its end. -/
def ended (ls : List (List UInt8)) : List UInt8 := ls.flatMap (· ++ [10])
/-- A vertex's darts in turn. -/
structure RoundOf (q : Net) (v : Nat) (l : List Int) : Prop where
  nodup : l.Nodup
  dart : ∀ x ∈ l, 0 ≤ x ∧ x < q.tail.length ∧ q.tail.getD x.toNat 0 = (v : Int)
  next : ∀ i, i < l.length → q.next.getD (l.getD i 0).toNat 0 = l.getD ((i + 1) % l.length) 0
  count : (l.length : Int) = countOf q.tail v
  all : ∀ d : Nat, d < q.tail.length → q.tail.getD d 0 = (v : Int) → (d : Int) ∈ l
/-- What W1 asks of a net's lists, turns aside. -/
structure Lists (q : Net) : Prop where
  n0 : 0 ≤ q.n
  n1 : q.n ≤ 60
  ev : q.tail.length % 2 = 0
  tl : q.tail.length ≤ 240
  nl : q.next.length = q.tail.length
  cl : q.cap.length = q.tail.length
  tb : ∀ x ∈ q.tail, 0 ≤ x ∧ x < q.n
  cb : ∀ x ∈ q.cap, 0 ≤ x ∧ x ≤ 2147483648

/- ---- bytes ---- -/
theorem rowText_no (z : UInt8) (hz : isDig z = false) (h45 : z ≠ 45) (h32 : z ≠ 32) (l : List Int) : ∀ c ∈ rowText l, c ≠ z := by
  induction l with
  | nil => simp [rowText]
  | cons x r ih =>
    intro c hc
    rw [rowText] at hc
    rcases List.mem_append.1 hc with hc | hc
    · exact itoa_no x z hz h45 c hc
    · split at hc
      · cases hc
      · rcases List.mem_cons.1 hc with rfl | hc
        · exact fun e => h32 e.symm
        · exact ih c hc
theorem turnLine_no (l : List Int) : ∀ c ∈ turnLine l, c ≠ 10 := by
  unfold turnLine
  have hw : ∀ c ∈ wTurn, c ≠ 10 := by decide
  split
  · exact hw
  · intro c hc
    rcases List.mem_append.1 hc with hc | hc
    · exact hw c hc
    · rcases List.mem_cons.1 hc with rfl | hc
      · decide
      · exact rowText_no 10 (by decide) (by decide) (by decide) l c hc
theorem word_no (w : List UInt8) (hw : ∀ c ∈ w, c ≠ 10) (l : List Int) : ∀ c ∈ w ++ 32 :: rowText l, c ≠ 10 := by
  intro c hc
  rcases List.mem_append.1 hc with hc | hc
  · exact hw c hc
  · rcases List.mem_cons.1 hc with rfl | hc
    · decide
    · exact rowText_no 10 (by decide) (by decide) (by decide) l c hc
theorem linesOf_no (q : Net) (ts : List (List Int)) : ∀ p ∈ linesOf q ts, ∀ c ∈ p, c ≠ 10 := by
  intro p hp
  unfold linesOf at hp
  rcases List.mem_cons.1 hp with rfl | hp
  · exact word_no wNet (by decide) _
  · rcases List.mem_append.1 hp with hp | hp
    · obtain ⟨e, -, rfl⟩ := List.mem_map.1 hp
      exact word_no wEdge (by decide) _
    · obtain ⟨l, -, rfl⟩ := List.mem_map.1 hp
      exact turnLine_no l
theorem turnLine_ne (l : List Int) : turnLine l ≠ [] := by
  unfold turnLine; split <;> simp [wTurn]
theorem linesOf_ne (q : Net) (ts : List (List Int)) : ∀ p ∈ linesOf q ts, p ≠ [] := by
  intro p hp
  unfold linesOf at hp
  rcases List.mem_cons.1 hp with rfl | hp
  · simp [headLine, wNet]
  · rcases List.mem_append.1 hp with hp | hp
    · obtain ⟨e, -, rfl⟩ := List.mem_map.1 hp
      simp [edgeLine, wEdge]
    · obtain ⟨l, -, rfl⟩ := List.mem_map.1 hp
      exact turnLine_ne l

/- ---- lines of a text ---- -/
theorem ended_cons (p : List UInt8) (r : List (List UInt8)) : ended (p :: r) = p ++ 10 :: ended r := by simp [ended]
/-- All but the last line's end. -/
theorem parts_ended (ls : List (List UInt8)) (hne : ls ≠ []) (h : ∀ p ∈ ls, ∀ c ∈ p, c ≠ 10) : partsBy 10 (ended ls).dropLast = ls := by
  induction ls with
  | nil => exact absurd rfl hne
  | cons p r ih =>
    rw [ended_cons]
    by_cases hr : r = []
    · subst hr
      simp only [ended, List.flatMap_nil]
      rw [List.dropLast_concat, parts_none 10 p (h p (by simp))]
    · have : ended r ≠ [] := by
        cases r with
        | nil => exact absurd rfl hr
        | cons a b => rw [ended_cons]; simp
      rw [List.dropLast_append_of_ne_nil (by simp), List.dropLast_cons_of_ne_nil this, parts_app 10 p _ (h p (by simp)), ih hr fun a ha => h a (by simp [ha])]
theorem ended_ne (ls : List (List UInt8)) (hne : ls ≠ []) : ended ls ≠ [] := by
  cases ls with
  | nil => exact absurd rfl hne
  | cons a b => rw [ended_cons]; simp
theorem ended_last (ls : List (List UInt8)) (hne : ls ≠ []) : ended ls = (ended ls).dropLast ++ [10] := by
  induction ls with
  | nil => exact absurd rfl hne
  | cons p r ih =>
    rw [ended_cons]
    by_cases hr : r = []
    · subst hr
      simp only [ended, List.flatMap_nil]
      rw [List.dropLast_concat]
    · rw [List.dropLast_append_of_ne_nil (by simp), List.dropLast_cons_of_ne_nil (ended_ne r hr)]
      conv => lhs; rw [ih hr]
      simp
theorem trim_ended (ls : List (List UInt8)) (hne : ls ≠ []) : Lib.trimSuffix (ended ls) [10] = (ended ls).dropLast := by
  unfold Lib.trimSuffix
  have h := ended_last ls hne
  have hs : Lib.hasSuffix (ended ls) [10] = true := by
    unfold Lib.hasSuffix
    rw [List.isSuffixOf_iff_suffix]
    exact ⟨_, h.symm⟩
  rw [hs, if_pos rfl]
  simp [List.dropLast_eq_take]
theorem partsBy_two (z : UInt8) (r : List UInt8) : 2 ≤ (partsBy z (r ++ [z])).length := by
  induction r with
  | nil => simp [partsBy]
  | cons c r ih =>
    rw [List.cons_append, partsBy]
    split
    · simp; omega
    · split
      · rename_i e; exact absurd e (partsBy_ne _ _)
      · rename_i e; rw [e] at ih; simpa using ih
/-- The text without its last byte ends in no line's end. -/
theorem trim_cut (ls : List (List UInt8)) (hne : ls ≠ []) (h : ∀ p ∈ ls, ∀ c ∈ p, c ≠ 10) (h0 : ∀ p ∈ ls, p ≠ []) : Lib.trimSuffix (ended ls).dropLast [10] = (ended ls).dropLast := by
  unfold Lib.trimSuffix
  have hs : Lib.hasSuffix (ended ls).dropLast [10] = false := by
    cases he : Lib.hasSuffix (ended ls).dropLast [10] with
    | false => rfl
    | true =>
      exfalso
      unfold Lib.hasSuffix at he
      rw [List.isSuffixOf_iff_suffix] at he
      obtain ⟨t, ht⟩ := he
      have hp := parts_ended ls hne h
      rw [← ht] at hp
      have hl : ∀ t : List UInt8, (partsBy 10 (t ++ [10])).getLast? = some [] := by
        intro t
        induction t with
        | nil => rfl
        | cons c r ih =>
          rw [List.cons_append, partsBy]
          split
          · rw [List.getLast?_cons, ih]; rfl
          · split
            · rename_i e; exact absurd e (partsBy_ne _ _)
            · rename_i p q e
              rw [e] at ih
              cases q with
              | nil =>
                simp at ih
                exfalso
                have := partsBy_two 10 r
                rw [e] at this
                simp at this
              | cons a b => simpa using ih
      have := hl t
      rw [hp] at this
      obtain ⟨m, hm⟩ := List.getLast?_eq_some_iff.1 this
      exact h0 [] (by rw [hm]; simp) rfl
  rw [hs]; rfl
end Go.Proofs.YtkmcfjkfoafkoaaDoor.Sp
