/- Next ones that are each one's once: from each dart on the way comes round. -/
import Derived.Test.YtnkkgeammohemabS13
namespace Go.Proofs.Ytnkkgeammohemab
open Go Go.RowKit

structure Sp.Perm (st : List Int) : Prop where
  bd : ∀ x ∈ st, 0 ≤ x ∧ x < (st.length : Int)
  inj : ∀ i j, i < st.length → j < st.length → st.getD i 0 = st.getD j 0 → i = j
theorem least_of {p : Nat → Prop} (h : ∃ n, p n) : ∃ n, p n ∧ ∀ m, p m → n ≤ m := by
  obtain ⟨n, hn⟩ := h
  induction n using Nat.strongRecOn with
  | _ n ih =>
    by_cases hm : ∃ m, m < n ∧ p m
    · obtain ⟨m, hlt, hp⟩ := hm
      exact ih m hlt hp
    · exact ⟨n, hn, fun m hp => Nat.le_of_not_lt fun hlt => hm ⟨m, hlt, hp⟩⟩
theorem Sp.Perm.back {st : List Int} (h : Sp.Perm st) {d : Nat} (hd : d < st.length) : ∀ i j, Sp.nth st d (i + j) = Sp.nth st d i → Sp.nth st d j = d
  | 0, j, e => by rw [Nat.zero_add] at e; exact e
  | i + 1, j, e => by
    refine Sp.Perm.back h hd i j ?_
    have b1 := Sp.nth_bd (d := (d : Int)) rfl h.bd (by omega) (by omega) (i + j)
    have b2 := Sp.nth_bd (d := (d : Int)) rfl h.bd (by omega) (by omega) i
    have e2 : st.getD (Sp.nth st d (i + j)).toNat 0 = st.getD (Sp.nth st d i).toNat 0 := by
      have : i + 1 + j = (i + j) + 1 := by omega
      rw [this] at e
      exact e
    have := h.inj _ _ (by omega) (by omega) e2
    omega
theorem Sp.Perm.twice {st : List Int} (h : Sp.Perm st) {d : Nat} (hd : d < st.length) : ∃ i j, i < j ∧ j ≤ st.length ∧ Sp.nth st d i = Sp.nth st d j := by
  apply Classical.byContradiction
  intro hno
  have hnd : (Sp.rounds st d (st.length + 1)).Nodup := by
    unfold List.Nodup
    rw [List.pairwise_iff_getElem]
    intro i j hi hj hij
    rw [Sp.rounds_len] at hi hj
    simp only [Sp.rounds, List.getElem_map, List.getElem_range]
    intro e
    exact hno ⟨i, j, hij, by omega, e⟩
  have hle := nodup_le st.length _ hnd (fun x hx => by
    obtain ⟨k, -, rfl⟩ := List.mem_map.1 hx
    exact Sp.nth_bd rfl h.bd (by omega) (by omega) k)
  rw [Sp.rounds_len] at hle
  omega
/-- From each dart on the way comes round. -/
theorem Sp.Perm.round {st : List Int} (h : Sp.Perm st) {d : Nat} (hd : d < st.length) : ∃ m, 1 ≤ m ∧ m ≤ st.length ∧ Sp.nth st d m = d ∧ ∀ i, 0 < i → i < m → Sp.nth st d i ≠ d := by
  obtain ⟨i, j, hij, hj, e⟩ := h.twice hd
  have e2 : Sp.nth st d (j - i) = d := h.back hd i (j - i) (by rw [show i + (j - i) = j by omega]; exact e.symm)
  obtain ⟨m, ⟨h1, h2⟩, h3⟩ := least_of (p := fun m => 1 ≤ m ∧ Sp.nth st d m = d) ⟨j - i, by omega, e2⟩
  refine ⟨m, h1, ?_, h2, fun k hk0 hk e3 => ?_⟩
  · have := h3 (j - i) ⟨by omega, e2⟩
    omega
  · have := h3 k ⟨by omega, e3⟩
    omega
theorem oth_inj {a b : Nat} (h : Sp.oth a = Sp.oth b) : a = b := by rw [← oth_oth a, h, oth_oth]
theorem Sp.Perm.behind {nx : List Int} (h : Sp.Perm nx) (hev : nx.length % 2 = 0) : Sp.Perm (Sp.behindL nx) := by
  refine ⟨?_, ?_⟩
  · rw [Sp.behindL_len]
    exact Sp.behindL_bd nx hev h.bd
  · intro i j hi hj e
    rw [Sp.behindL_len] at hi hj
    rw [Sp.behindL_get nx i hi, Sp.behindL_get nx j hj] at e
    exact oth_inj (h.inj _ _ (oth_lt hi hev) (oth_lt hj hev) e)
theorem getD_set_eq (l : List Int) (i j : Nat) (x : Int) (hj : j < l.length) : (l.set j x).getD i 0 = if i = j then x else l.getD i 0 := by
  by_cases h : i = j
  · subst h
    rw [if_pos rfl, List.getD_eq_getElem?_getD, List.getElem?_set_self hj]; rfl
  · rw [if_neg h, List.getD_eq_getElem?_getD, List.getElem?_set_ne (Ne.symm h), ← List.getD_eq_getElem?_getD]
/-- A dart that was its own next one, laid behind another. -/
theorem Sp.Perm.lay {l : List Int} (h : Sp.Perm l) (bh d : Nat) (hb : bh < l.length) (hd : d < l.length) (hfix : l.getD d 0 = (d : Int)) : Sp.Perm (Sp.layIn l bh d) := by
  have hlen : (Sp.layIn l bh d).length = l.length := by simp [Sp.layIn]
  have key : ∀ i, i < l.length → (Sp.layIn l bh d).getD i 0 = l.getD (if i = bh then d else if i = d then bh else i) 0 := by
    intro i hi
    unfold Sp.layIn
    rw [getD_set_eq _ _ _ _ (by rw [List.length_set]; exact hb), getD_set_eq _ _ _ _ hd]
    by_cases h1 : i = bh
    · rw [if_pos h1, if_pos h1, hfix]
    · rw [if_neg h1, if_neg h1]
      by_cases h2 : i = d
      · rw [if_pos h2, if_pos h2]
      · rw [if_neg h2, if_neg h2]
  have kb : ∀ i, i < l.length → (if i = bh then d else if i = d then bh else i) < l.length := by
    intro i hi
    split
    · exact hd
    · split
      · exact hb
      · exact hi
  refine ⟨?_, ?_⟩
  · intro x hx
    rw [hlen]
    obtain ⟨i, hi, rfl⟩ := List.mem_iff_getElem.1 hx
    rw [hlen] at hi
    rw [← Sp.getD_eq (Sp.layIn l bh d) i (by rw [hlen]; exact hi), key i hi]
    exact h.bd _ (Sp.getD_mem (kb i hi))
  · intro i j hi hj e
    rw [hlen] at hi hj
    rw [key i hi, key j hj] at e
    have := h.inj _ _ (kb i hi) (kb j hj) e
    split at this <;> split at this <;> (try split at this) <;> (try split at this) <;> omega
theorem Sp.Perm.add {l : List Int} (h : Sp.Perm l) : Sp.Perm (l ++ [(l.length : Int), ((l.length + 1 : Nat) : Int)]) := by
  have key : ∀ i, i < l.length + 2 → (l ++ [(l.length : Int), ((l.length + 1 : Nat) : Int)]).getD i 0 = if i < l.length then l.getD i 0 else (i : Int) := by
    intro i hi
    rw [List.getD_eq_getElem?_getD]
    by_cases h1 : i < l.length
    · rw [if_pos h1, List.getElem?_append_left h1, ← List.getD_eq_getElem?_getD]
    · rw [if_neg h1, List.getElem?_append_right (by omega)]
      have : i = l.length ∨ i = l.length + 1 := by omega
      rcases this with rfl | rfl
      · simp
      · simp
  have hlen : (l ++ [(l.length : Int), ((l.length + 1 : Nat) : Int)]).length = l.length + 2 := by simp
  have hold : ∀ i, i < l.length → 0 ≤ l.getD i 0 ∧ l.getD i 0 < (l.length : Int) := fun i hi => h.bd _ (Sp.getD_mem hi)
  refine ⟨?_, ?_⟩
  · intro x hx
    rw [hlen]
    rcases List.mem_append.1 hx with hx | hx
    · have := h.bd x hx; omega
    · simp only [List.mem_cons, List.not_mem_nil, or_false] at hx
      omega
  · intro i j hi hj e
    rw [hlen] at hi hj
    rw [key i hi, key j hj] at e
    by_cases h1 : i < l.length <;> by_cases h2 : j < l.length
    · rw [if_pos h1, if_pos h2] at e; exact h.inj _ _ h1 h2 e
    · rw [if_pos h1, if_neg h2] at e; have := hold i h1; omega
    · rw [if_neg h1, if_pos h2] at e; have := hold j h2; omega
    · rw [if_neg h1, if_neg h2] at e; omega
/-- How long the round from d on is. -/
def Sp.perGo (st : List Int) (d : Nat) : Nat → Nat → Nat
  | 0, m => m
  | f + 1, m => if Sp.nth st d m = d then m else Sp.perGo st d f (m + 1)
def Sp.per (st : List Int) (d : Nat) : Nat := Sp.perGo st d st.length 1
theorem Sp.perGo_eq (st : List Int) (d m : Nat) (h2 : Sp.nth st d m = d) (h3 : ∀ i, 0 < i → i < m → Sp.nth st d i ≠ d) : ∀ f i, 0 < i → i ≤ m → m < i + f → Sp.perGo st d f i = m
  | 0, i, _, h, h' => by omega
  | f + 1, i, h0, h, h' => by
    rw [Sp.perGo]
    by_cases e : i = m
    · subst e; rw [if_pos h2]
    · rw [if_neg (h3 i h0 (by omega))]
      exact Sp.perGo_eq st d m h2 h3 f (i + 1) (by omega) (by omega) (by omega)
theorem Sp.Perm.per {st : List Int} (h : Sp.Perm st) {d : Nat} (hd : d < st.length) : 1 ≤ Sp.per st d ∧ Sp.per st d ≤ st.length ∧ Sp.nth st d (Sp.per st d) = d ∧ ∀ i, 0 < i → i < Sp.per st d → Sp.nth st d i ≠ d := by
  obtain ⟨m, h1, h2, h3, h4⟩ := h.round hd
  have e : Sp.per st d = m := Sp.perGo_eq st d m h3 h4 st.length 1 (by omega) h1 (by omega)
  rw [e]
  exact ⟨h1, h2, h3, h4⟩
end Go.Proofs.Ytnkkgeammohemab


