/- What the proof needs, part 3. -/
import Derived.Test.YtcdpgiklmonabaaL2
/- Nets as the law's Make grows them: what they are, as plain functions; that they are nets, and that their texts are short. -/
namespace Go.Proofs.Ytcdpgiklmonabaa.Sp
open Go

/-- So many edges, of the numbers. -/
def mkE (n : Int) (ns : List Int) : Nat → Net
  | 0 => ⟨n, [], [], []⟩
  | j + 1 => edgeN (mkE n ns j) (ns.getD (2 * j) 0 % 1099511627776 % n) (ns.getD (2 * j) 0 % 1099511627776 / 9 % n) (capOf (ns.getD (2 * j + 1) 0)) (capOf ((ns.getD (2 * j + 1) 0).tdiv 11))
/-- Where a dart is laid into a turn. -/
def mkK (ns : List Int) (d : Nat) (m : Nat) : Nat := if ns.length = 0 then 0 else ((ns.getD (d % ns.length) 0).tdiv 7 % ((m : Int) + 1)).toNat
def insAt (l : List Int) (k : Nat) (d : Int) : List Int := l.take k ++ d :: l.drop k
/-- A vertex's turn, of the first so many darts. -/
def mkL (ns tail : List Int) (v : Int) : Nat → List Int
  | 0 => []
  | d + 1 => if tail.getD d 0 = v then insAt (mkL ns tail v d) (mkK ns d (mkL ns tail v d).length) d else mkL ns tail v d
/-- So many vertices' turns. -/
def mkR (ns : List Int) (q : Net) : Nat → Net
  | 0 => q
  | v + 1 => roundN (mkR ns q v) (mkL ns q.tail v q.tail.length)
def edges (n : Int) (ns : List Int) : Nat := if n = 0 then 0 else min (ns.length / 2) 20
def make (size : Int) (ns : List Int) : Net := mkR ns (mkE (size % 9) ns (edges (size % 9) ns)) (size % 9).toNat

theorem mkE_lens (n : Int) (ns : List Int) (j : Nat) : (mkE n ns j).n = n ∧ (mkE n ns j).tail.length = 2 * j ∧ (mkE n ns j).next.length = 2 * j ∧ (mkE n ns j).cap.length = 2 * j := by
  induction j with
  | zero => exact ⟨rfl, rfl, rfl, rfl⟩
  | succ j ih => obtain ⟨a, b, c, d⟩ := ih; simp [mkE, edgeN, a, b, c, d]; omega
theorem mkE_bd (n : Int) (hn : 0 < n) (ns : List Int) (j : Nat) : (∀ x ∈ (mkE n ns j).tail, 0 ≤ x ∧ x < n) ∧ (∀ x ∈ (mkE n ns j).cap, 0 ≤ x ∧ x ≤ 2147483648) ∧ (∀ x ∈ (mkE n ns j).next, 0 ≤ x ∧ x < 2 * j) := by
  induction j with
  | zero => simp [mkE]
  | succ j ih =>
    obtain ⟨h1, h2, h3⟩ := ih
    have hl := (mkE_lens n ns j).2.1
    refine ⟨?_, ?_, ?_⟩
    · intro x hx
      simp only [mkE, edgeN, List.mem_append, List.mem_cons, List.not_mem_nil, or_false] at hx
      rcases hx with hx | rfl | rfl
      · exact h1 x hx
      · exact ⟨Int.emod_nonneg _ (by omega), Int.emod_lt_of_pos _ hn⟩
      · exact ⟨Int.emod_nonneg _ (by omega), Int.emod_lt_of_pos _ hn⟩
    · intro x hx
      simp only [mkE, edgeN, List.mem_append, List.mem_cons, List.not_mem_nil, or_false] at hx
      rcases hx with hx | rfl | rfl
      · exact h2 x hx
      · exact capOf_bd _
      · exact capOf_bd _
    · intro x hx
      simp only [mkE, edgeN, List.mem_append, List.mem_cons, List.not_mem_nil, or_false] at hx
      rcases hx with hx | rfl | rfl
      · have := h3 x hx; omega
      · omega
      · omega
theorem insAt_mem (l : List Int) (k : Nat) (d x : Int) : x ∈ insAt l k d ↔ x = d ∨ x ∈ l := by
  unfold insAt
  rw [List.mem_append, List.mem_cons]
  constructor
  · rintro (h | rfl | h)
    · exact .inr (List.mem_of_mem_take h)
    · exact .inl rfl
    · exact .inr (List.mem_of_mem_drop h)
  · rintro (rfl | h)
    · exact .inr (.inl rfl)
    · rw [← List.take_append_drop k l, List.mem_append] at h
      rcases h with h | h
      · exact .inl h
      · exact .inr (.inr h)
theorem insAt_perm (l : List Int) (k : Nat) (d : Int) : (insAt l k d).Perm (d :: l) := by
  unfold insAt
  have h := List.perm_middle (a := d) (l₁ := l.take k) (l₂ := l.drop k)
  rw [List.take_append_drop] at h
  exact h
theorem insAt_len (l : List Int) (k : Nat) (d : Int) : (insAt l k d).length = l.length + 1 := (insAt_perm l k d).length_eq
theorem mkL_mem (ns tail : List Int) (v : Int) (d : Nat) (x : Int) : x ∈ mkL ns tail v d ↔ ∃ e : Nat, e < d ∧ x = e ∧ tail.getD e 0 = v := by
  induction d with
  | zero => simp [mkL]
  | succ d ih =>
    rw [mkL]
    split
    · rename_i h
      rw [insAt_mem, ih]
      constructor
      · rintro (rfl | ⟨e, a, b, c⟩)
        · exact ⟨d, by omega, rfl, h⟩
        · exact ⟨e, by omega, b, c⟩
      · rintro ⟨e, a, b, c⟩
        by_cases he : e = d
        · exact .inl (by rw [b, he])
        · exact .inr ⟨e, by omega, b, c⟩
    · rename_i h
      rw [ih]
      constructor
      · rintro ⟨e, a, b, c⟩; exact ⟨e, by omega, b, c⟩
      · rintro ⟨e, a, b, c⟩
        by_cases he : e = d
        · exact absurd (he ▸ c) h
        · exact ⟨e, by omega, b, c⟩
theorem mkL_nodup (ns tail : List Int) (v : Int) (d : Nat) : (mkL ns tail v d).Nodup := by
  induction d with
  | zero => simp [mkL]
  | succ d ih =>
    rw [mkL]
    split
    · refine (insAt_perm _ _ _).symm.nodup (List.nodup_cons.2 ⟨?_, ih⟩)
      intro h
      obtain ⟨e, a, b, _⟩ := (mkL_mem ns tail v d _).1 h
      omega
    · exact ih
theorem mkL_count (ns tail : List Int) (v : Int) (d : Nat) (hd : d ≤ tail.length) : ((mkL ns tail v d).length : Int) = countOf (tail.take d) v := by
  induction d with
  | zero => simp [mkL, countOf]
  | succ d ih =>
    have hlt : d < tail.length := by omega
    rw [mkL, countOf_snoc tail d hlt, ← ih (by omega), getD_eq _ _ hlt]
    split
    · rw [insAt_len]; simp
    · simp
theorem mkL_len (ns tail : List Int) (v : Int) (d : Nat) : (mkL ns tail v d).length ≤ d := by
  induction d with
  | zero => simp [mkL]
  | succ d ih =>
    rw [mkL]
    split
    · rw [insAt_len]; omega
    · omega
theorem mkK_le (ns : List Int) (d m : Nat) : mkK ns d m ≤ m := by
  unfold mkK
  split
  · omega
  · have := Int.emod_lt_of_pos ((ns.getD (d % ns.length) 0).tdiv 7) (show (0 : Int) < (m : Int) + 1 by omega)
    omega
theorem layTo_other (nx l : List Int) (d : Nat) (hd : (d : Int) ∉ l) (h0 : ∀ x ∈ l, 0 ≤ x) (k : Nat) (hk : k ≤ l.length) : (layTo nx l k).getD d 0 = nx.getD d 0 := by
  induction k with
  | zero => rfl
  | succ k ih =>
    have hm : l.getD k 0 ∈ l := getD_mem (by omega)
    have hne : (l.getD k 0).toNat ≠ d := fun e => hd (by rw [← e, Int.toNat_of_nonneg (h0 _ hm)]; exact hm)
    rw [layTo, ← ih (by omega), List.getD_eq_getElem?_getD, List.getElem?_set, if_neg hne, ← List.getD_eq_getElem?_getD]
theorem layTo_at (nx l : List Int) (hn : l.Nodup) (h0 : ∀ x ∈ l, 0 ≤ x ∧ x < nx.length) (k : Nat) (hk : k ≤ l.length) (i : Nat) (hi : i < k) : (layTo nx l k).getD (l.getD i 0).toNat 0 = l.getD ((i + 1) % l.length) 0 := by
  induction k with
  | zero => omega
  | succ k ih =>
    have hm : l.getD k 0 ∈ l := getD_mem (by omega)
    have hmi : l.getD i 0 ∈ l := getD_mem (by omega)
    have b1 := h0 _ hm
    have b2 := h0 _ hmi
    rw [layTo, getD_set _ _ _ _ (by rw [layTo_len]; omega)]
    by_cases e : k = i
    · subst e; rw [if_pos rfl]
    · rw [if_neg, ih (by omega) (by omega)]
      intro he
      have he2 : l.getD k 0 = l.getD i 0 := by omega
      have hik : i < k := by omega
      have := not_mem_take l hn k (by omega)
      refine this ?_
      rw [he2, getD_eq _ _ (by omega)]
      exact List.mem_take_iff_getElem.2 ⟨i, by omega, rfl⟩
theorem layTo_bd (nx l : List Int) (m : Nat) (hx : ∀ x ∈ nx, 0 ≤ x ∧ x < m) (hl : ∀ x ∈ l, 0 ≤ x ∧ x < m) (k : Nat) (hk : k ≤ l.length) : ∀ x ∈ layTo nx l k, 0 ≤ x ∧ x < m := by
  induction k with
  | zero => exact hx
  | succ k ih =>
    intro x hm
    rw [layTo] at hm
    rcases List.mem_or_eq_of_mem_set hm with h | rfl
    · exact ih (by omega) x h
    · exact hl _ (getD_mem (Nat.mod_lt _ (by omega)))
theorem mkR_same (ns : List Int) (q : Net) (v : Nat) : (mkR ns q v).n = q.n ∧ (mkR ns q v).tail = q.tail ∧ (mkR ns q v).cap = q.cap ∧ (mkR ns q v).next.length = q.next.length := by
  induction v with
  | zero => exact ⟨rfl, rfl, rfl, rfl⟩
  | succ v ih => obtain ⟨a, b, c, d⟩ := ih; exact ⟨a, b, c, by simp [mkR, roundN, layTo_len, d]⟩
theorem mkR_next (ns : List Int) (q : Net) (hx : ∀ x ∈ q.next, 0 ≤ x ∧ x < q.tail.length) (v : Nat) : ∀ x ∈ (mkR ns q v).next, 0 ≤ x ∧ x < q.tail.length := by
  induction v with
  | zero => exact hx
  | succ v ih =>
    refine layTo_bd _ _ _ ih (fun x hm => ?_) _ (Nat.le_refl _)
    obtain ⟨e, a, b, _⟩ := (mkL_mem _ _ _ _ _).1 hm
    omega
theorem mkR_round (ns : List Int) (q : Net) (hl : q.next.length = q.tail.length) (v : Nat) : ∀ u : Nat, u < v → RoundOf (mkR ns q v) u (mkL ns q.tail u q.tail.length) := by
  induction v with
  | zero => intro u h; omega
  | succ v ih =>
    intro u hu
    obtain ⟨s1, s2, s3, s4⟩ := mkR_same ns q v
    obtain ⟨t1, t2, t3, t4⟩ := mkR_same ns q (v + 1)
    have hb : ∀ x ∈ mkL ns q.tail u q.tail.length, 0 ≤ x ∧ x < q.tail.length ∧ q.tail.getD x.toNat 0 = (u : Int) := fun x hm => by
      obtain ⟨e, a, b, c⟩ := (mkL_mem _ _ _ _ _).1 hm
      exact ⟨by omega, by omega, by rw [b, Int.toNat_natCast]; exact c⟩
    refine ⟨mkL_nodup _ _ _ _, by rw [t2]; exact hb, ?_, ?_, ?_⟩
    · intro i hi
      by_cases e : u = v
      · subst e
        exact layTo_at _ _ (mkL_nodup _ _ _ _) (fun x hm => by have := hb x hm; omega) _ (Nat.le_refl _) i hi
      · have h1 := (ih u (by omega)).next i hi
        rw [← h1]
        have hm : (mkL ns q.tail u q.tail.length).getD i 0 ∈ mkL ns q.tail u q.tail.length := getD_mem hi
        have hbi := hb _ hm
        refine layTo_other _ _ _ ?_ (fun x hm => ?_) _ (Nat.le_refl _)
        · intro hm2
          obtain ⟨e', a', b', c'⟩ := (mkL_mem _ _ _ _ _).1 hm2
          have : e' = ((mkL ns q.tail u q.tail.length).getD i 0).toNat := by omega
          rw [this, hbi.2.2] at c'
          omega
        · obtain ⟨e', a', b', c'⟩ := (mkL_mem _ _ _ _ _).1 hm
          omega
    · rw [t2]
      have := mkL_count ns q.tail u q.tail.length (Nat.le_refl _)
      rw [List.take_length] at this
      exact this
    · rw [t2]
      intro d hd ht
      exact (mkL_mem _ _ _ _ _).2 ⟨d, hd, rfl, ht⟩
theorem make_whole (size : Int) (ns : List Int) : Whole (make size ns) ∧ (make size ns).n ≤ 8 ∧ (make size ns).tail.length ≤ 40 := by
  have hn0 : 0 ≤ size % 9 := Int.emod_nonneg _ (by omega)
  have hn1 : size % 9 < 9 := Int.emod_lt_of_pos _ (by omega)
  unfold make
  generalize size % 9 = n at *
  have he : edges n ns ≤ 20 := by unfold edges; split <;> omega
  obtain ⟨a, b, c, d⟩ := mkE_lens n ns (edges n ns)
  have hb : (∀ x ∈ (mkE n ns (edges n ns)).tail, 0 ≤ x ∧ x < n) ∧ (∀ x ∈ (mkE n ns (edges n ns)).cap, 0 ≤ x ∧ x ≤ 2147483648) ∧ (∀ x ∈ (mkE n ns (edges n ns)).next, 0 ≤ x ∧ x < 2 * (edges n ns : Nat)) := by
    by_cases h : n = 0
    · have : edges n ns = 0 := by unfold edges; rw [if_pos h]
      rw [this]; simp [mkE]
    · exact mkE_bd n (by omega) ns _
  generalize edges n ns = j at *
  generalize mkE n ns j = q at *
  obtain ⟨s1, s2, s3, s4⟩ := mkR_same ns q n.toNat
  obtain ⟨b1, b2, b3⟩ := hb
  refine ⟨⟨?_, ?_, ?_⟩, by rw [s1, a]; omega, by rw [s2, b]; omega⟩
  · constructor
    all_goals first
      | (rw [s1, a]; omega)
      | (rw [s2, b]; omega)
      | (rw [s2, s4, b, c])
      | (rw [s2, s3, b, d])
      | (rw [s1, s2, a]; exact b1)
      | (rw [s3]; exact b2)
  · rw [s2]
    refine mkR_next ns q (fun x hx => ?_) _
    have := b3 x hx
    omega
  · intro v hv
    rw [s1, a] at hv
    exact ⟨_, mkR_round ns q (by omega) n.toNat v (by omega)⟩
end Go.Proofs.Ytcdpgiklmonabaa.Sp


