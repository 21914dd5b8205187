/- A row of numbers that was told is read as it was. -/
import Derived.Test.YtkmcfjkfoafkoaaDoorR6
namespace Go.Proofs.YtkmcfjkfoafkoaaDoor
open Go

theorem ofNat_dig (d : Nat) (h : d < 10) : (UInt8.ofNat (48 + d)).toNat = 48 + d := UInt8.toNat_ofNat_of_lt' (by show 48 + d < 256; omega)
theorem isDig_of (d : Nat) (h : d < 10) : Sp.isDig (UInt8.ofNat (48 + d)) = true := by
  unfold Sp.isDig; rw [ofNat_dig d h]; simp; omega
theorem dec_ind {p : Nat → Prop} (h0 : ∀ u, u < 10 → p u) (h1 : ∀ u, 10 ≤ u → p (u / 10) → p u) : ∀ n u, u ≤ n → p u := by
  intro n
  induction n with
  | zero => intro u hu; exact h0 u (by omega)
  | succ n ih =>
    intro u hu
    by_cases h : u < 10
    · exact h0 u h
    · exact h1 u (by omega) (ih _ (by omega))
theorem dec_digs (u : Nat) : (Lib.decDigits u).all Sp.isDig = true := by
  refine dec_ind (p := fun u => (Lib.decDigits u).all Sp.isDig = true) (fun u h => ?_) (fun u h ih => ?_) u u (Nat.le_refl _)
  · rw [dec_one u h, List.all_cons, isDig_of u h]; rfl
  · rw [dec_step u h, List.all_append, ih, List.all_cons, isDig_of (u % 10) (by omega)]; rfl
theorem dec_ne (u : Nat) : Lib.decDigits u ≠ [] := by
  by_cases h : u < 10
  · rw [dec_one u h]; simp
  · rw [dec_step u (by omega)]; simp
theorem dec_head (u : Nat) (h : 1 ≤ u) : (Lib.decDigits u).head? ≠ some 48 := by
  revert h
  refine dec_ind (p := fun u => 1 ≤ u → (Lib.decDigits u).head? ≠ some 48) (fun u h h1 => ?_) (fun u h ih _ => ?_) u u (Nat.le_refl _)
  · rw [dec_one u h]
    intro e
    have e2 : UInt8.ofNat (48 + u) = 48 := by simpa using e
    have := congrArg UInt8.toNat e2
    rw [ofNat_dig u h] at this
    have h48 : (48 : UInt8).toNat = 48 := rfl
    omega
  · rw [dec_step u h]
    obtain ⟨c, r, hc⟩ : ∃ c r, Lib.decDigits (u / 10) = c :: r := List.exists_cons_of_ne_nil (dec_ne _)
    have := ih (by omega)
    rw [hc] at this ⊢
    simpa using this
theorem dec_fold (u : Nat) (h : u < 1000000000000000) : (Lib.decDigits u).foldl rstep (some 0) = some (u : Int) := by
  revert h
  refine dec_ind (p := fun u => u < 1000000000000000 → (Lib.decDigits u).foldl rstep (some 0) = some (u : Int)) (fun u h h1 => ?_) (fun u h ih h1 => ?_) u u (Nat.le_refl _)
  · rw [dec_one u h]
    simp only [List.foldl_cons, List.foldl_nil, rstep, Option.bind_some]
    rw [if_neg (by rw [isDig_of u h]; intro h2; rcases h2 with h2 | h2; cases h2; omega), ofNat_dig u h]
    congr 1; omega
  · rw [dec_step u h, List.foldl_append, ih (by omega)]
    simp only [List.foldl_cons, List.foldl_nil, rstep, Option.bind_some]
    rw [if_neg (by rw [isDig_of (u % 10) (by omega)]; intro h2; rcases h2 with h2 | h2; cases h2; omega), ofNat_dig (u % 10) (by omega)]
    congr 1; omega
theorem dec_no45 (u : Nat) : Lib.hasPrefix (Lib.decDigits u) [45] = false := by
  obtain ⟨c, r, hc⟩ : ∃ c r, Lib.decDigits u = c :: r := List.exists_cons_of_ne_nil (dec_ne u)
  have h := dec_digs u
  rw [hc, List.all_cons, Bool.and_eq_true] at h
  rw [hc]
  have : c ≠ 45 := by intro e; rw [e] at h; exact absurd h.1 (by decide)
  simp [Lib.hasPrefix, List.isPrefixOf]; exact fun e => this e.symm
theorem rnum_itoa (x : Int) (h0 : -1000000000000000 < x) (h1 : x < 1000000000000000) : rnum (Lib.itoa x) = some x := by
  by_cases hn : x < 0
  · obtain ⟨u, rfl⟩ : ∃ u : Nat, x = -(u : Int) := ⟨x.natAbs, by omega⟩
    rw [Lib.itoa_neg u (by omega)]
    have hp : Lib.hasPrefix (45 :: Lib.decDigits u) [45] = true := by simp [Lib.hasPrefix, List.isPrefixOf]
    have ht : Lib.decDigits u = Lib.trimPrefix (45 :: Lib.decDigits u) [45] := by unfold Lib.trimPrefix; rw [hp]; rfl
    have := (rnum_of ht hp (dec_ne u) (fun h => dec_head u (by omega) h.1)).2 u (dec_fold u (by omega))
    rw [this.2, if_pos (by omega), if_pos rfl]
  · obtain ⟨u, rfl⟩ : ∃ u : Nat, x = u := ⟨x.toNat, by omega⟩
    rw [Lib.itoa_nonneg]
    have hp := dec_no45 u
    have ht : Lib.decDigits u = Lib.trimPrefix (Lib.decDigits u) [45] := by unfold Lib.trimPrefix; rw [hp]; rfl
    have hh : ¬ ((Lib.decDigits u).head? = some 48 ∧ Lib.decDigits u ≠ [48]) := by
      by_cases hu : u = 0
      · subst hu; rw [dec_one 0 (by omega)]; simp
      · exact fun h => dec_head u (by omega) h.1
    have := (rnum_of ht hp (dec_ne u) hh).2 u (dec_fold u (by omega))
    rw [this.2, if_pos (by omega), if_neg (by simp)]
theorem parts_none (z : UInt8) (p : List UInt8) (h : ∀ c ∈ p, c ≠ z) : Sp.partsBy z p = [p] := by
  induction p with
  | nil => rfl
  | cons c r ih => rw [Sp.partsBy, if_neg (h c (by simp)), ih fun d hd => h d (by simp [hd])]
theorem parts_app (z : UInt8) (p r : List UInt8) (h : ∀ c ∈ p, c ≠ z) : Sp.partsBy z (p ++ z :: r) = p :: Sp.partsBy z r := by
  induction p with
  | nil => simp [Sp.partsBy]
  | cons c q ih =>
    rw [List.cons_append, Sp.partsBy, if_neg (h c (by simp)), ih fun d hd => h d (by simp [hd])]
theorem dig_ne (c : UInt8) (h : Sp.isDig c = true) (z : UInt8) (hz : Sp.isDig z = false) : c ≠ z := by
  intro e; rw [e, hz] at h; cases h
theorem itoa_no (x : Int) (z : UInt8) (hz : Sp.isDig z = false) (h45 : z ≠ 45) : ∀ c ∈ Lib.itoa x, c ≠ z := by
  intro c hc
  by_cases hn : x < 0
  · obtain ⟨u, rfl⟩ : ∃ u : Nat, x = -(u : Int) := ⟨x.natAbs, by omega⟩
    rw [Lib.itoa_neg u (by omega)] at hc
    rcases List.mem_cons.1 hc with rfl | hc
    · exact fun e => h45 e.symm
    · exact dig_ne c (List.all_eq_true.1 (dec_digs u) c hc) z hz
  · obtain ⟨u, rfl⟩ : ∃ u : Nat, x = u := ⟨x.toNat, by omega⟩
    rw [Lib.itoa_nonneg] at hc
    exact dig_ne c (List.all_eq_true.1 (dec_digs u) c hc) z hz
theorem itoa_ne (x : Int) : Lib.itoa x ≠ [] := by
  unfold Lib.itoa; split
  · simp
  · exact dec_ne _
theorem rowText_ne (x : Int) (r : List Int) : Sp.rowText (x :: r) ≠ [] := by
  rw [Sp.rowText]; simp [itoa_ne x]
theorem parts_row (x : Int) (r : List Int) : Sp.partsBy 32 (Sp.rowText (x :: r)) = (x :: r).map Lib.itoa := by
  induction r generalizing x with
  | nil => rw [Sp.rowText, if_pos rfl, List.append_nil, parts_none 32 _ (itoa_no x 32 (by decide) (by decide))]; rfl
  | cons y r ih =>
    rw [Sp.rowText, if_neg (by simp), parts_app 32 _ _ (itoa_no x 32 (by decide) (by decide)), ih]; rfl
theorem rnums_map (l : List Int) (h : ∀ x ∈ l, -1000000000000000 < x ∧ x < 1000000000000000) : rnums (l.map Lib.itoa) = some l := by
  induction l with
  | nil => rfl
  | cons x r ih =>
    rw [List.map_cons, rnums, rnum_itoa x (h x (by simp)).1 (h x (by simp)).2, ih fun y hy => h y (by simp [hy])]; rfl
/-- What was told is read as it was. -/
theorem row_rowText (l : List Int) (h : ∀ x ∈ l, -1000000000000000 < x ∧ x < 1000000000000000) : Sp.row (Sp.rowText l) = some l := by
  cases l with
  | nil => rw [row_eq]; rfl
  | cons x r => rw [row_eq, if_neg (rowText_ne x r), parts_row, rnums_map _ h]
end Go.Proofs.YtkmcfjkfoafkoaaDoor
