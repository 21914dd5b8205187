/- What the proof needs, part 12. -/
import Derived.WalkMore
import Derived.Test.YtoegjnolccabjaaL11
/- Keys by rank: the row, with a free place or without, and what it holds. -/
namespace Go.Proofs.Ytoegjnolccabjaa
open Go Go.RowKit

theorem Sp.ahead_no (k r k' r' : Int) : Sp.aheadB k r k' r' = false ↔ (r' < r ∨ (r = r' ∧ k' ≤ k)) := by
  simp only [Sp.aheadB, Bool.or_eq_false_iff, Bool.and_eq_false_iff, decide_eq_false_iff_not]; omega
theorem Sp.ahead_yes (k r k' r' : Int) : Sp.aheadB k r k' r' = true ↔ (r < r' ∨ (r = r' ∧ k < k')) := by
  simp only [Sp.aheadB, Bool.or_eq_true, Bool.and_eq_true, decide_eq_true_eq]

theorem Sp.stand_key (z : Nat → Int) (p k : Nat) (r : Int) (i : Nat) (hi : i < 300) : Sp.stand z p k r (i * 2) = if i = p then (k : Int) else z (i * 2) := by
  unfold Sp.stand Sp.upd
  rw [if_neg (by omega), if_neg (by omega)]
  by_cases h : i = p
  · rw [if_pos (by omega), if_pos h]
  · rw [if_neg (by omega), if_neg h]
theorem Sp.stand_rank (z : Nat → Int) (p k : Nat) (r : Int) (i : Nat) (hi : i < 300) : Sp.stand z p k r (i * 2 + 1) = if i = p then r else z (i * 2 + 1) := by
  unfold Sp.stand Sp.upd
  rw [if_neg (by omega)]
  by_cases h : i = p
  · rw [if_pos (by omega), if_pos h]
  · rw [if_neg (by omega), if_neg h, if_neg (by omega)]
theorem Sp.stand_many (z : Nat → Int) (p k : Nat) (r : Int) (hp : p < 300) : Sp.stand z p k r 600 = z 600 := by
  unfold Sp.stand Sp.upd
  rw [if_neg (by omega), if_neg (by omega), if_neg (by omega)]
theorem Sp.stand_place (z : Nat → Int) (p k : Nat) (r : Int) (j : Nat) (hp : p < 300) : Sp.stand z p k r (601 + j) = if j = k then (p : Int) + 1 else z (601 + j) := by
  unfold Sp.stand Sp.upd
  by_cases h : j = k
  · rw [if_pos (by omega), if_pos h]
  · rw [if_neg (by omega), if_neg h, if_neg (by omega), if_neg (by omega)]

/-- How many of the first keys there are. -/
def Sp.cntN (M : Nat → Option Int) : Nat → Nat
  | 0 => 0
  | N + 1 => Sp.cntN M N + if (M N).isSome then 1 else 0
def Sp.hcnt (M : Nat → Option Int) : Nat := Sp.cntN M 300
def Sp.put (M : Nat → Option Int) (k : Nat) (v : Option Int) : Nat → Option Int := fun j => if j = k then v else M j
theorem Sp.put_same (M : Nat → Option Int) (k : Nat) (v : Option Int) : Sp.put M k v k = v := by simp [Sp.put]
theorem Sp.put_other (M : Nat → Option Int) {k j : Nat} (v : Option Int) (h : j ≠ k) : Sp.put M k v j = M j := by simp [Sp.put, h]
theorem Sp.cntN_put (M : Nat → Option Int) (k : Nat) (v : Option Int) : ∀ N, Sp.cntN (Sp.put M k v) N + (if k < N ∧ (M k).isSome then 1 else 0) = Sp.cntN M N + (if k < N ∧ v.isSome then 1 else 0)
  | 0 => by simp [Sp.cntN]
  | N + 1 => by
    have ih := Sp.cntN_put M k v N
    simp only [Sp.cntN]
    rcases Nat.lt_trichotomy k N with h | h | h
    · rw [Sp.put_other _ _ (by omega)]
      have e1 : (k < N + 1 ∧ (M k).isSome = true) ↔ (k < N ∧ (M k).isSome = true) := ⟨fun x => ⟨h, x.2⟩, fun x => ⟨by omega, x.2⟩⟩
      have e2 : (k < N + 1 ∧ v.isSome = true) ↔ (k < N ∧ v.isSome = true) := ⟨fun x => ⟨h, x.2⟩, fun x => ⟨by omega, x.2⟩⟩
      simp only [e1, e2]
      omega
    · subst h
      rw [Sp.put_same]
      simp only [Nat.lt_irrefl, false_and, if_false, Nat.lt_succ_self, true_and] at ih ⊢
      omega
    · rw [Sp.put_other _ _ (by omega)]
      rw [if_neg (by omega), if_neg (by omega)] at ih
      rw [if_neg (c := k < N + 1 ∧ _) (by omega), if_neg (c := k < N + 1 ∧ _) (by omega)]
      omega
theorem Sp.cntN_le (M : Nat → Option Int) : ∀ N, Sp.cntN M N ≤ N
  | 0 => by simp [Sp.cntN]
  | N + 1 => by have := Sp.cntN_le M N; simp only [Sp.cntN]; split <;> omega
theorem Sp.hcnt_le (M : Nat → Option Int) : Sp.hcnt M ≤ 300 := Sp.cntN_le M 300
theorem Sp.hcnt_add (M : Nat → Option Int) (k : Nat) (r : Int) (hk : k < 300) (h : M k = none) : Sp.hcnt (Sp.put M k (some r)) = Sp.hcnt M + 1 := by
  have := Sp.cntN_put M k (some r) 300
  rw [h, if_neg (by simp), if_pos ⟨hk, rfl⟩] at this
  unfold Sp.hcnt; omega
theorem Sp.hcnt_anew (M : Nat → Option Int) (k : Nat) (r r' : Int) (hk : k < 300) (h : M k = some r') : Sp.hcnt (Sp.put M k (some r)) = Sp.hcnt M := by
  have := Sp.cntN_put M k (some r) 300
  rw [h, if_pos ⟨hk, rfl⟩, if_pos ⟨hk, rfl⟩] at this
  unfold Sp.hcnt; omega
theorem Sp.hcnt_drop (M : Nat → Option Int) (k : Nat) (r : Int) (hk : k < 300) (h : M k = some r) : Sp.hcnt (Sp.put M k none) + 1 = Sp.hcnt M := by
  have := Sp.cntN_put M k none 300
  rw [h, if_pos ⟨hk, rfl⟩, if_neg (by simp)] at this
  unfold Sp.hcnt; omega
theorem Sp.put_none (M : Nat → Option Int) (k : Nat) (h : M k = none) : Sp.put M k none = M := by
  funext j; unfold Sp.put; split
  · subst_vars; exact h.symm
  · rfl

/-- Item i of the row is ahead of item j. -/
def Sp.ah (z : Nat → Int) (i j : Nat) : Bool := Sp.aheadB (z (i * 2)) (z (i * 2 + 1)) (z (j * 2)) (z (j * 2 + 1))
/-- The row of n items that holds M. -/
structure Sp.HpI (z : Nat → Int) (M : Nat → Option Int) (n : Nat) : Prop where
  many : z 600 = (n : Int)
  le : n ≤ 300
  it : ∀ i, i < n → ∃ k : Nat, k < 300 ∧ z (i * 2) = (k : Int) ∧ z (601 + k) = (i : Int) + 1 ∧ M k = some (z (i * 2 + 1))
  pl : ∀ k, k < 300 → (z (601 + k) = 0 ∧ M k = none) ∨ ∃ i, i < n ∧ z (601 + k) = (i : Int) + 1 ∧ z (i * 2) = (k : Int)
  ord : ∀ i, 0 < i → i < n → Sp.ah z i ((i - 1) / 2) = false
  out : ∀ k, 300 ≤ k → M k = none
  cnt : n = Sp.hcnt M
/-- The same with place f free, for an item of key k, rank r. -/
structure Sp.HoI (z : Nat → Int) (M : Nat → Option Int) (n f k : Nat) (r : Int) : Prop where
  many : z 600 = (n : Int)
  le : n ≤ 300
  fn : f < n
  kl : k < 300
  mem : M k = some r
  it : ∀ i, i < n → i ≠ f → ∃ k' : Nat, k' < 300 ∧ k' ≠ k ∧ z (i * 2) = (k' : Int) ∧ z (601 + k') = (i : Int) + 1 ∧ M k' = some (z (i * 2 + 1))
  pl : ∀ k', k' < 300 → k' ≠ k → (z (601 + k') = 0 ∧ M k' = none) ∨ ∃ i, i < n ∧ i ≠ f ∧ z (601 + k') = (i : Int) + 1 ∧ z (i * 2) = (k' : Int)
  ord : ∀ i, 0 < i → i < n → i ≠ f → (i - 1) / 2 ≠ f → Sp.ah z i ((i - 1) / 2) = false
  gr : ∀ i, 0 < i → i < n → (i - 1) / 2 = f → 0 < f → Sp.ah z i ((f - 1) / 2) = false
  out : ∀ k, 300 ≤ k → M k = none
  cnt : n = Sp.hcnt M
/-- Behind the row nothing has turned. -/
def Sp.Up (n : Nat) (z z' : Nat → Int) : Prop := ∀ i, n ≤ i → i < 300 → z' (i * 2) = z (i * 2) ∧ z' (i * 2 + 1) = z (i * 2 + 1)
theorem Sp.Up.refl (n : Nat) (z : Nat → Int) : Sp.Up n z z := fun _ _ _ => ⟨rfl, rfl⟩
theorem Sp.Up.trans {n : Nat} {a b c : Nat → Int} (h : Sp.Up n a b) (k : Sp.Up n b c) : Sp.Up n a c := fun i h1 h2 => ⟨(k i h1 h2).1.trans (h i h1 h2).1, (k i h1 h2).2.trans (h i h1 h2).2⟩
theorem Sp.Up.stand {n : Nat} (z : Nat → Int) (p k : Nat) (r : Int) (hp : p < n) : Sp.Up n z (Sp.stand z p k r) := fun i h1 h2 => by
  rw [Sp.stand_key _ _ _ _ _ h2, Sp.stand_rank _ _ _ _ _ h2, if_neg (by omega), if_neg (by omega)]; exact ⟨rfl, rfl⟩
theorem Sp.ah_trans {z : Nat → Int} {i j k : Nat} (h : Sp.ah z i j = false) (h' : Sp.ah z j k = false) : Sp.ah z i k = false := by
  unfold Sp.ah at *
  rw [Sp.ahead_no] at *
  omega
theorem Sp.ah_stand {z : Nat → Int} {p k : Nat} {r : Int} {i j : Nat} (hi : i < 300) (hj : j < 300) (h1 : i ≠ p) (h2 : j ≠ p) : Sp.ah (Sp.stand z p k r) i j = Sp.ah z i j := by
  unfold Sp.ah
  rw [Sp.stand_key _ _ _ _ _ hi, Sp.stand_rank _ _ _ _ _ hi, Sp.stand_key _ _ _ _ _ hj, Sp.stand_rank _ _ _ _ _ hj, if_neg h1, if_neg h1, if_neg h2, if_neg h2]
theorem Sp.ah_standL {z : Nat → Int} {p c k : Nat} {j : Nat} (hp : p < 300) (hj : j < 300) (h2 : j ≠ p) (hk : z (c * 2) = (k : Int)) : Sp.ah (Sp.stand z p k (z (c * 2 + 1))) p j = Sp.ah z c j := by
  unfold Sp.ah
  rw [Sp.stand_key _ _ _ _ _ hp, Sp.stand_rank _ _ _ _ _ hp, Sp.stand_key _ _ _ _ _ hj, Sp.stand_rank _ _ _ _ _ hj, if_pos rfl, if_pos rfl, if_neg h2, if_neg h2, hk]
theorem Sp.ah_standR {z : Nat → Int} {p c k : Nat} {j : Nat} (hp : p < 300) (hj : j < 300) (h2 : j ≠ p) (hk : z (c * 2) = (k : Int)) : Sp.ah (Sp.stand z p k (z (c * 2 + 1))) j p = Sp.ah z j c := by
  unfold Sp.ah
  rw [Sp.stand_key _ _ _ _ _ hp, Sp.stand_rank _ _ _ _ _ hp, Sp.stand_key _ _ _ _ _ hj, Sp.stand_rank _ _ _ _ _ hj, if_pos rfl, if_pos rfl, if_neg h2, if_neg h2, hk]

/-- The item at c moves to the free place f: c is free. -/
theorem Sp.HoI.moved {z : Nat → Int} {M : Nat → Option Int} {n f k : Nat} {r : Int} (h : Sp.HoI z M n f k r) {c kc : Nat} (hc : c < n) (hcf : c ≠ f) (hkc : z (c * 2) = (kc : Int))
    (ord : ∀ i, 0 < i → i < n → i ≠ c → (i - 1) / 2 ≠ c → Sp.ah (Sp.stand z f kc (z (c * 2 + 1))) i ((i - 1) / 2) = false)
    (gr : ∀ i, 0 < i → i < n → (i - 1) / 2 = c → 0 < c → Sp.ah (Sp.stand z f kc (z (c * 2 + 1))) i ((c - 1) / 2) = false) :
    Sp.HoI (Sp.stand z f kc (z (c * 2 + 1))) M n c k r ∧ kc < 300 := by
  have hn := h.le
  have hf := h.fn
  obtain ⟨k1, hk1, hk1k, hz1, hp1, hm1⟩ := h.it c hc hcf
  obtain rfl : kc = k1 := by omega
  refine ⟨⟨by rw [Sp.stand_many _ _ _ _ (by omega)]; exact h.many, h.le, hc, h.kl, h.mem, fun i hi hic => ?_, fun k' hk' hkk => ?_, ord, gr, h.out, h.cnt⟩, hk1⟩
  · by_cases hif : i = f
    · subst hif
      refine ⟨kc, hk1, hk1k, ?_, ?_, ?_⟩
      · rw [Sp.stand_key _ _ _ _ _ (by omega), if_pos rfl]
      · rw [Sp.stand_place _ _ _ _ _ (by omega), if_pos rfl]
      · rw [Sp.stand_rank _ _ _ _ _ (by omega), if_pos rfl]; exact hm1
    · obtain ⟨k2, hk2, hk2k, hz2, hp2, hm2⟩ := h.it i hi hif
      have hne : k2 ≠ kc := fun e => by subst e; rw [hp1] at hp2; omega
      refine ⟨k2, hk2, hk2k, ?_, ?_, ?_⟩
      · rw [Sp.stand_key _ _ _ _ _ (by omega), if_neg hif]; exact hz2
      · rw [Sp.stand_place _ _ _ _ _ (by omega), if_neg hne]; exact hp2
      · rw [Sp.stand_rank _ _ _ _ _ (by omega), if_neg hif]; exact hm2
  · rw [Sp.stand_place _ _ _ _ _ (by omega)]
    by_cases hkk' : k' = kc
    · subst hkk'
      rw [if_pos rfl]
      exact .inr ⟨f, hf, fun e => hcf e.symm, rfl, by rw [Sp.stand_key _ _ _ _ _ (by omega), if_pos rfl]⟩
    · rw [if_neg hkk']
      rcases h.pl k' hk' hkk with h0 | ⟨i, hi, hif, hpi, hzi⟩
      · exact .inl h0
      · refine .inr ⟨i, hi, fun e => ?_, hpi, by rw [Sp.stand_key _ _ _ _ _ (by omega), if_neg hif]; exact hzi⟩
        subst e
        rw [hkc] at hzi
        omega
theorem Sp.HoI.rise {z : Nat → Int} {M : Nat → Option Int} {n f k : Nat} {r : Int} (h : Sp.HoI z M n f k r) {kc : Nat} (hf : 0 < f) (hkc : z ((f - 1) / 2 * 2) = (kc : Int)) :
    Sp.HoI (Sp.stand z f kc (z ((f - 1) / 2 * 2 + 1))) M n ((f - 1) / 2) k r ∧ kc < 300 := by
  have hn := h.le
  have hfn := h.fn
  refine h.moved (by omega) (by omega) hkc (fun i h0 hi hic hpc => ?_) (fun i h0 hi hpc hc0 => ?_)
  · by_cases hif : i = f
    · omega
    · by_cases hpf : (i - 1) / 2 = f
      · rw [hpf, Sp.ah_standR (by omega) (by omega) hif hkc]
        exact h.gr i h0 hi hpf hf
      · rw [Sp.ah_stand (by omega) (by omega) hif hpf]
        exact h.ord i h0 hi hif hpf
  · by_cases hif : i = f
    · subst hif
      rw [Sp.ah_standL (by omega) (by omega) (by omega) hkc]
      exact h.ord _ hc0 (by omega) (by omega) (by omega)
    · rw [Sp.ah_stand (by omega) (by omega) hif (by omega)]
      have h1 := h.ord i h0 hi hif (by omega)
      rw [hpc] at h1
      exact Sp.ah_trans h1 (h.ord _ hc0 (by omega) (by omega) (by omega))
theorem Sp.HoI.sink {z : Nat → Int} {M : Nat → Option Int} {n f k : Nat} {r : Int} (h : Sp.HoI z M n f k r) {c kc : Nat} (hc0 : 0 < c) (hcn : c < n) (hcf : (c - 1) / 2 = f) (hkc : z (c * 2) = (kc : Int))
    (hmin : ∀ i, 0 < i → i < n → (i - 1) / 2 = f → Sp.ah z i c = false) :
    Sp.HoI (Sp.stand z f kc (z (c * 2 + 1))) M n c k r ∧ kc < 300 := by
  have hn := h.le
  have hfn := h.fn
  refine h.moved hcn (by omega) hkc (fun i h0 hi hic hpc => ?_) (fun i h0 hi hpc _ => ?_)
  · by_cases hif : i = f
    · subst hif
      rw [Sp.ah_standL (by omega) (by omega) (by omega) hkc]
      exact h.gr c hc0 hcn hcf h0
    · by_cases hpf : (i - 1) / 2 = f
      · rw [hpf, Sp.ah_standR (by omega) (by omega) hif hkc]
        exact hmin i h0 hi hpf
      · rw [Sp.ah_stand (by omega) (by omega) hif hpf]
        exact h.ord i h0 hi hif hpf
  · rw [hcf, Sp.ah_standR (by omega) (by omega) (by omega) hkc]
    have := h.ord i h0 hi (by omega) (by omega)
    rw [hpc] at this
    exact this
/-- The item laid at the free place: the row has none any more. -/
theorem Sp.HoI.shut {z : Nat → Int} {M : Nat → Option Int} {n f k : Nat} {r : Int} (h : Sp.HoI z M n f k r)
    (hup : 0 < f → Sp.aheadB (k : Int) r (z ((f - 1) / 2 * 2)) (z ((f - 1) / 2 * 2 + 1)) = false)
    (hdn : ∀ i, 0 < i → i < n → (i - 1) / 2 = f → Sp.aheadB (z (i * 2)) (z (i * 2 + 1)) (k : Int) r = false) : Sp.HpI (Sp.stand z f k r) M n := by
  have hn := h.le
  have hf := h.fn
  refine ⟨by rw [Sp.stand_many _ _ _ _ (by omega)]; exact h.many, h.le, fun i hi => ?_, fun k' hk' => ?_, fun i h0 hi => ?_, h.out, h.cnt⟩
  · by_cases hif : i = f
    · subst hif
      refine ⟨k, h.kl, ?_, ?_, ?_⟩
      · rw [Sp.stand_key _ _ _ _ _ (by omega), if_pos rfl]
      · rw [Sp.stand_place _ _ _ _ _ (by omega), if_pos rfl]
      · rw [Sp.stand_rank _ _ _ _ _ (by omega), if_pos rfl]; exact h.mem
    · obtain ⟨k2, hk2, hk2k, hz2, hp2, hm2⟩ := h.it i hi hif
      refine ⟨k2, hk2, ?_, ?_, ?_⟩
      · rw [Sp.stand_key _ _ _ _ _ (by omega), if_neg hif]; exact hz2
      · rw [Sp.stand_place _ _ _ _ _ (by omega), if_neg hk2k]; exact hp2
      · rw [Sp.stand_rank _ _ _ _ _ (by omega), if_neg hif]; exact hm2
  · rw [Sp.stand_place _ _ _ _ _ (by omega)]
    by_cases hkk : k' = k
    · rw [if_pos hkk]
      exact .inr ⟨f, hf, rfl, by rw [Sp.stand_key _ _ _ _ _ (by omega), if_pos rfl, hkk]⟩
    · rw [if_neg hkk]
      rcases h.pl k' hk' hkk with h0 | ⟨i, hi, hif, hpi, hzi⟩
      · exact .inl h0
      · exact .inr ⟨i, hi, hpi, by rw [Sp.stand_key _ _ _ _ _ (by omega), if_neg hif]; exact hzi⟩
  · by_cases hif : i = f
    · subst hif
      unfold Sp.ah
      rw [Sp.stand_key _ _ _ _ _ (by omega), Sp.stand_rank _ _ _ _ _ (by omega), Sp.stand_key _ _ _ _ _ (by omega), Sp.stand_rank _ _ _ _ _ (by omega), if_pos rfl, if_pos rfl, if_neg (by omega), if_neg (by omega)]
      exact hup h0
    · by_cases hpf : (i - 1) / 2 = f
      · unfold Sp.ah
        rw [hpf, Sp.stand_key _ _ _ _ _ (by omega), Sp.stand_rank _ _ _ _ _ (by omega), Sp.stand_key _ _ _ _ _ (by omega), Sp.stand_rank _ _ _ _ _ (by omega), if_neg hif, if_neg hif, if_pos rfl, if_pos rfl]
        exact hdn i h0 hi hpf
      · rw [Sp.ah_stand (by omega) (by omega) hif hpf]
        exact h.ord i h0 hi hif hpf
end Go.Proofs.Ytoegjnolccabjaa


/- Package heap: rise. -/
namespace Go.Proofs.Ytoegjnolccabjaa
open Go Go.RowKit

theorem hcell_lt {w : World} {b j : Nat} {v : Value} (h : w.cell? ⟨b, j, none⟩ = some v) : b < w.heap.size := by
  rcases Nat.lt_or_ge b w.heap.size with h1 | h1
  · exact h1
  · simp [World.cell?, Array.getElem?_eq_none h1] at h
set_option maxRecDepth 100000 in
set_option maxHeartbeats 4000000 in
theorem rise_any (z : Nat → Int) (M : Nat → Option Int) (b n f k : Nat) (r : Int) (w : World) (h : HpAt w b z) (hi : Sp.HoI z M n f k r) :
    Calls Try.prog 97 #[.pointer (some ⟨b, 0, none⟩), .int .i64 (f : Int), .agg #[.int .i64 (k : Int), .int .i64 r]] w fun e w' => ∃ (f' : Nat) (z' : Nat → Int), e = .returned (.int .i64 (f' : Int)) ∧ But b w w' ∧ HpAt w' b z' ∧ Sp.HoI z' M n f' k r ∧ Sp.Up n z z' ∧ (0 < f' → Sp.aheadB (k : Int) r (z' ((f' - 1) / 2 * 2)) (z' ((f' - 1) / 2 * 2 + 1)) = false) := by
  have hb := h.lt
  have hfn := hi.fn
  have hnl := hi.le
  have HI0 : Hid (But b (w.alloc (.cells #[.int .i64 (k : Int), .int .i64 r] 103)) (w.alloc (.cells #[.int .i64 (k : Int), .int .i64 r] 103)) ∧ HpAt (w.alloc (.cells #[.int .i64 (k : Int), .int .i64 r] 103)) b z ∧ Sp.HoI z M n f k r ∧ Sp.Up n z z) := hide ⟨But.refl _ _, h.alloc _, hi, Sp.Up.refl _ _⟩
  have HX : Hid (∀ wr, But b (w.alloc (.cells #[.int .i64 (k : Int), .int .i64 r] 103)) wr → wr.cell? ⟨w.heap.size, 0, none⟩ = some (.int .i64 (k : Int)) ∧ wr.cell? ⟨w.heap.size, 1, none⟩ = some (.int .i64 r) ∧ But b w wr) := hide fun wr hw => by
    obtain ⟨x0, x1⟩ := item_new w (.int .i64 (k : Int)) (.int .i64 r)
    exact ⟨(hw.cell (by simp) (by show w.heap.size ≠ b; omega)).trans x0, (hw.cell (by simp) (by show w.heap.size ≠ b; omega)).trans x1, ((But.refl b w).alloc _).trans hw⟩
  obtain ⟨P, hP⟩ : ∃ P : Ending → World → Prop, P = fun e w' => ∃ (f' : Nat) (z' : Nat → Int), e = .returned (.int .i64 (f' : Int)) ∧ But b w w' ∧ HpAt w' b z' ∧ Sp.HoI z' M n f' k r ∧ Sp.Up n z z' ∧ (0 < f' → Sp.aheadB (k : Int) r (z' ((f' - 1) / 2 * 2)) (z' ((f' - 1) / 2 * 2 + 1)) = false) := ⟨_, rfl⟩
  rw [← hP]
  have HP := hide hP
  clear hP h hi
  go_enter Try.func97, Try.ntmps97
  go_wp2
  generalize w.alloc (.cells #[.int .i64 (k : Int), .int .i64 r] 103) = W1 at *
  go_loopg [1] f (fun g s1 wr => ∃ (f : Nat) (z' : Nat → Int), f ≤ g ∧ f < n ∧ s1 = .int .i64 (f : Int) ∧ Hid (But b W1 wr ∧ HpAt wr b z' ∧ Sp.HoI z' M n f k r ∧ Sp.Up n z z'))
  case atStart => exact ⟨f, z, Nat.le_refl _, hfn, rfl, HI0⟩
  case round =>
    clear HI0 hfn
    clear f
    obtain ⟨f, z', hfg, hfn, rfl, HI⟩ := hrel
    obtain ⟨x0, x1, hbw⟩ := unhide HX wr (unhide HI).1
    have HBW := hide hbw
    clear hbw
    by_cases h0 : f = 0
    · subst h0
      go_wp2
      rw [unhide HP]
      exact ⟨0, z', rfl, unhide HBW, (unhide HI).2.1, (unhide HI).2.2.1, (unhide HI).2.2.2, by omega⟩
    · obtain ⟨a, ha⟩ : ∃ a, (f - 1) / 2 = a := ⟨_, rfl⟩
      have ha' : (f : Int) - 1 = ((f - 1 : Nat) : Int) := by omega
      have hq : ((f : Int) - 1).tdiv 2 = (a : Int) := by rw [ha', ← ha]; rfl
      have h0' : 0 < (f : Int) := by omega
      have haI : (a : Int) < 300 := by omega
      obtain ⟨kc, hkl, hkk, hzk, -, -⟩ := (unhide HI).2.2.1.it a (by omega) (by omega)
      have c0 := (unhide HI).2.1.cell (j := a * 2) (by omega)
      have c1 := (unhide HI).2.1.cell (j := a * 2 + 1) (by omega)
      rw [hzk] at c0
      have HC : Hid (∀ w', Below wr.heap.size wr w' → w'.cell? ⟨w.heap.size, 0, none⟩ = some (.int .i64 (k : Int)) ∧ w'.cell? ⟨w.heap.size, 1, none⟩ = some (.int .i64 r) ∧ w'.cell? ⟨b, a * 2, none⟩ = some (.int .i64 (kc : Int)) ∧ w'.cell? ⟨b, a * 2 + 1, none⟩ = some (.int .i64 (z' (a * 2 + 1)))) := hide fun w' hb => by
        have hbl := (unhide HI).2.1.lt
        have hwl : w.heap.size < wr.heap.size := by
          have := x0
          exact hcell_lt this
        exact ⟨(hb.cell hwl).trans x0, (hb.cell hwl).trans x1, (hb.cell hbl).trans c0, (hb.cell hbl).trans c1⟩
      have HK := hide (show (z' (a * 2) = (kc : Int) ∧ kc < 300 ∧ (f - 1) / 2 = a) from ⟨hzk, hkl, ha⟩)
      generalize hrc : z' (a * 2 + 1) = rc at *
      have HRC := hide hrc
      clear hrc
      have hbr : Below wr.heap.size wr wr.drew := (Below.refl _ _).drew
      clear ha ha' hzk hkk
      by_cases hR : Sp.aheadB (k : Int) r (kc : Int) rc = true
      · obtain ⟨g', rfl⟩ : ∃ g', gk = g' + 1 := ⟨gk - 1, by omega⟩
        have HA := hide (show ∀ w', Calls Try.prog 100 #[.agg #[.int .i64 (k : Int), .int .i64 r], .agg #[.int .i64 (kc : Int), .int .i64 rc]] w' fun e w'' => e = .returned (.bool true) ∧ Below w'.heap.size w' w'' from fun w' => by have := ahead_any (k : Int) r (kc : Int) rc w'; rw [hR] at this; exact this)
        clear hR
        go_upto_region 3 with fail
        clear x0 x1 c0 c1
        go_region_held3 (fun w' => w'.cell? ⟨w.heap.size, 0, none⟩ = some (.int .i64 (k : Int)) ∧ w'.cell? ⟨w.heap.size, 1, none⟩ = some (.int .i64 r) ∧ w'.cell? ⟨b, a * 2, none⟩ = some (.int .i64 (kc : Int)) ∧ w'.cell? ⟨b, a * 2 + 1, none⟩ = some (.int .i64 rc))
          (first
            | exact unhide HC _ hb8
            | exact unhide HC _ hbr)
          (first
            | (go_at_call 100
               refine (unhide HA _).mono ?_
               rintro e w8 ⟨rfl, hl8⟩
               have hb8 : Below wr.heap.size wr w8 := hbr.trans hl8))
        all_goals
          obtain ⟨x0, x1, c0, c1⟩ := unhide HC _ hb8
          go_wp2_with fail
          refine (stand_any z' b f kc rc w8 ((unhide HI).2.1.below hb8) (by omega) hkl).mono ?_
          rintro e w9 ⟨rfl, hbut9, hat9⟩
          have HN := hide (unhide HI).2.2.1
          have hN := ((unhide HI).2.2.1).rise (kc := kc) (by omega) (by rw [(unhide HK).2.2]; exact (unhide HK).1)
          rw [(unhide HK).2.2, unhide HRC] at hN
          have HF : Hid (But b W1 w9 ∧ HpAt w9 b (Sp.stand z' f kc rc) ∧ Sp.HoI (Sp.stand z' f kc rc) M n a k r ∧ Sp.Up n z (Sp.stand z' f kc rc)) := hide ⟨((unhide HI).1.trans (But.of hb8)).trans hbut9, hat9, hN.1, (unhide HI).2.2.2.trans (Sp.Up.stand _ _ _ _ hfn)⟩
          clear hbut9 hat9 hN HN HI HC x0 x1 c0 c1
          go_wp2
          go_roundg g'
          case rel => exact ⟨a, _, by have := (unhide HK).2.2; omega, by have := (unhide HK).2.2; omega, rfl, HF⟩
          case measure => omega
      · have hR' : Sp.aheadB (k : Int) r (kc : Int) rc = false := by simpa using hR
        have HA := hide (show ∀ w', Calls Try.prog 100 #[.agg #[.int .i64 (k : Int), .int .i64 r], .agg #[.int .i64 (kc : Int), .int .i64 rc]] w' fun e w'' => e = .returned (.bool false) ∧ Below w'.heap.size w' w'' from fun w' => by have := ahead_any (k : Int) r (kc : Int) rc w'; rw [hR'] at this; exact this)
        have HR := hide hR'
        clear hR hR'
        go_upto_region 3 with fail
        clear x0 x1 c0 c1
        go_region_held3 (fun w' => w'.cell? ⟨w.heap.size, 0, none⟩ = some (.int .i64 (k : Int)) ∧ w'.cell? ⟨w.heap.size, 1, none⟩ = some (.int .i64 r) ∧ w'.cell? ⟨b, a * 2, none⟩ = some (.int .i64 (kc : Int)) ∧ w'.cell? ⟨b, a * 2 + 1, none⟩ = some (.int .i64 rc))
          (first
            | exact unhide HC _ hb8
            | exact unhide HC _ hbr)
          (first
            | (go_at_call 100
               refine (unhide HA _).mono ?_
               rintro e w8 ⟨rfl, hl8⟩
               have hb8 : Below wr.heap.size wr w8 := hbr.trans hl8))
        all_goals
          have HF : Hid (But b w w8 ∧ HpAt w8 b z' ∧ Sp.HoI z' M n f k r ∧ Sp.Up n z z') := hide ⟨(unhide HBW).trans (But.of hb8), (unhide HI).2.1.below hb8, (unhide HI).2.2.1, (unhide HI).2.2.2⟩
          clear HC HI
          go_wp2
          rw [unhide HP]
          exact ⟨f, z', rfl, (unhide HF).1, (unhide HF).2.1, (unhide HF).2.2.1, (unhide HF).2.2.2, fun _ => by rw [(unhide HK).2.2, (unhide HK).1, unhide HRC]; exact unhide HR⟩
end Go.Proofs.Ytoegjnolccabjaa


/- Package heap: sink. -/
namespace Go.Proofs.Ytoegjnolccabjaa
open Go Go.RowKit

set_option maxRecDepth 100000 in
set_option maxHeartbeats 8000000 in
theorem sink_any (z : Nat → Int) (M : Nat → Option Int) (b n f k : Nat) (r : Int) (w : World) (h : HpAt w b z) (hi : Sp.HoI z M n f k r) (hu : 0 < f → Sp.aheadB (k : Int) r (z ((f - 1) / 2 * 2)) (z ((f - 1) / 2 * 2 + 1)) = false) :
    Calls Try.prog 98 #[.pointer (some ⟨b, 0, none⟩), .int .i64 (f : Int), .agg #[.int .i64 (k : Int), .int .i64 r]] w fun e w' => ∃ (f' : Nat) (z' : Nat → Int), e = .returned (.int .i64 (f' : Int)) ∧ But b w w' ∧ HpAt w' b z' ∧ Sp.HoI z' M n f' k r ∧ Sp.Up n z z' ∧ (0 < f' → Sp.aheadB (k : Int) r (z' ((f' - 1) / 2 * 2)) (z' ((f' - 1) / 2 * 2 + 1)) = false) ∧ (∀ i, 0 < i → i < n → (i - 1) / 2 = f' → Sp.aheadB (z' (i * 2)) (z' (i * 2 + 1)) (k : Int) r = false) := by
  have hb := h.lt
  have hfn := hi.fn
  have hnl := hi.le
  have HI0 : Hid (But b (w.alloc (.cells #[.int .i64 (k : Int), .int .i64 r] 103)) (w.alloc (.cells #[.int .i64 (k : Int), .int .i64 r] 103)) ∧ HpAt (w.alloc (.cells #[.int .i64 (k : Int), .int .i64 r] 103)) b z ∧ Sp.HoI z M n f k r ∧ Sp.Up n z z ∧ (0 < f → Sp.aheadB (k : Int) r (z ((f - 1) / 2 * 2)) (z ((f - 1) / 2 * 2 + 1)) = false)) := hide ⟨But.refl _ _, h.alloc _, hi, Sp.Up.refl _ _, hu⟩
  have HX : Hid (∀ wr, But b (w.alloc (.cells #[.int .i64 (k : Int), .int .i64 r] 103)) wr → wr.cell? ⟨w.heap.size, 0, none⟩ = some (.int .i64 (k : Int)) ∧ wr.cell? ⟨w.heap.size, 1, none⟩ = some (.int .i64 r) ∧ But b w wr) := hide fun wr hw => by
    obtain ⟨x0, x1⟩ := item_new w (.int .i64 (k : Int)) (.int .i64 r)
    exact ⟨(hw.cell (by simp) (by show w.heap.size ≠ b; omega)).trans x0, (hw.cell (by simp) (by show w.heap.size ≠ b; omega)).trans x1, ((But.refl b w).alloc _).trans hw⟩
  obtain ⟨P, hP⟩ : ∃ P : Ending → World → Prop, P = fun e w' => ∃ (f' : Nat) (z' : Nat → Int), e = .returned (.int .i64 (f' : Int)) ∧ But b w w' ∧ HpAt w' b z' ∧ Sp.HoI z' M n f' k r ∧ Sp.Up n z z' ∧ (0 < f' → Sp.aheadB (k : Int) r (z' ((f' - 1) / 2 * 2)) (z' ((f' - 1) / 2 * 2 + 1)) = false) ∧ (∀ i, 0 < i → i < n → (i - 1) / 2 = f' → Sp.aheadB (z' (i * 2)) (z' (i * 2 + 1)) (k : Int) r = false) := ⟨_, rfl⟩
  rw [← hP]
  have HP := hide hP
  clear hP h hi hu
  go_enter Try.func98, Try.ntmps98
  go_wp2
  generalize w.alloc (.cells #[.int .i64 (k : Int), .int .i64 r] 103) = W1 at *
  go_step3
  go_wp2
  go_step3
  go_wp2
  go_loopg [1] (n - f) (fun g s1 wr => ∃ (f : Nat) (z' : Nat → Int), n ≤ f + g ∧ f < n ∧ s1 = .int .i64 (f : Int) ∧ Hid (But b W1 wr ∧ HpAt wr b z' ∧ Sp.HoI z' M n f k r ∧ Sp.Up n z z' ∧ (0 < f → Sp.aheadB (k : Int) r (z' ((f - 1) / 2 * 2)) (z' ((f - 1) / 2 * 2 + 1)) = false)))
  case atStart => exact ⟨f, z, by omega, hfn, rfl, HI0⟩
  case round =>
    clear HI0 hfn
    clear f
    obtain ⟨f, z', hfg, hfn, rfl, HI⟩ := hrel
    obtain ⟨x0, x1, hbw⟩ := unhide HX wr (unhide HI).1
    have HBW := hide hbw
    clear hbw
    obtain ⟨c, hc⟩ : ∃ c, 2 * f + 1 = c := ⟨_, rfl⟩
    have hq1 : 2 * (f : Int) + 1 = (c : Int) := by omega
    have m0 := (unhide HI).2.1.cell (j := 600) (by omega)
    rw [(unhide HI).2.2.1.many] at m0
    have HC0 := hide hc
    by_cases hcn : n ≤ c
    · have hcnI : (n : Int) ≤ (c : Int) := by omega
      have HF : Hid (But b w wr ∧ HpAt wr b z' ∧ Sp.HoI z' M n f k r ∧ Sp.Up n z z' ∧ (0 < f → Sp.aheadB (k : Int) r (z' ((f - 1) / 2 * 2)) (z' ((f - 1) / 2 * 2 + 1)) = false)) := hide ⟨unhide HBW, (unhide HI).2⟩
      clear hc HI
      go_wp2
      rw [unhide HP]
      exact ⟨f, z', rfl, (unhide HF).1, (unhide HF).2.1, (unhide HF).2.2.1, (unhide HF).2.2.2.1, (unhide HF).2.2.2.2, fun i h0 hi hp => by have := unhide HC0; omega⟩
    · obtain ⟨d, hd⟩ : ∃ d, c + 1 = d := ⟨_, rfl⟩
      have hq2 : (c : Int) + 1 = (d : Int) := by omega
      have hwd : IntKind.i64.wrap (d : Int) = (d : Int) := by rw [IntKind.wrap_i64]; omega
      have HD0 := hide hd
      have hcnI : (c : Int) < (n : Int) := by omega
      obtain ⟨kc, hkc, hkk, hzc, -, -⟩ := (unhide HI).2.2.1.it c (by omega) (by omega)
      have c0 := (unhide HI).2.1.cell (j := c * 2) (by omega)
      have c1 := (unhide HI).2.1.cell (j := c * 2 + 1) (by omega)
      rw [hzc] at c0
      have hbl := (unhide HI).2.1.lt
      have hwl : w.heap.size < wr.heap.size := hcell_lt x0
      have hbr : Below wr.heap.size wr wr.drew := (Below.refl _ _).drew
      by_cases hdn : n ≤ d
      · have hdnI : decide ((d : Int) < (n : Int)) = false := decide_eq_false (by omega)
        have hdnN : decide (d < n) = false := decide_eq_false (by omega)
        have hmin : ∀ i, 0 < i → i < n → (i - 1) / 2 = f → Sp.ah z' i c = false := fun i h0 hi hp => by
          obtain rfl : i = c := by omega
          unfold Sp.ah; rw [Sp.ahead_no]; omega
        have HC : Hid (∀ w', Below wr.heap.size wr w' → w'.cell? ⟨w.heap.size, 0, none⟩ = some (.int .i64 (k : Int)) ∧ w'.cell? ⟨w.heap.size, 1, none⟩ = some (.int .i64 r) ∧ w'.cell? ⟨b, c * 2, none⟩ = some (.int .i64 (kc : Int)) ∧ w'.cell? ⟨b, c * 2 + 1, none⟩ = some (.int .i64 (z' (c * 2 + 1)))) := hide fun w' hb => ⟨(hb.cell hwl).trans x0, (hb.cell hwl).trans x1, (hb.cell hbl).trans c0, (hb.cell hbl).trans c1⟩
        have HE := hide (And.intro hmin (And.intro hzc hkc))
        have HN : Hid ((c - 1) / 2 = f ∧ 0 < c) := hide (by omega)
        obtain ⟨rc, hrc⟩ : ∃ rc, z' (c * 2 + 1) = rc := ⟨_, rfl⟩
        rw [hrc] at HC
        have HRC := hide hrc
        clear hmin hrc hzc hc hd c0 c1 x0 x1 hdn hcn hkk
        have hcI : (c : Int) < 300 := by omega
        go_upto_region 3 with fail
        go_quiet (fail)
        clear m0
        have hbq : Below wr.heap.size wr (wr.drewN nq) := ⟨rfl, rfl, rfl, Nat.le_refl _, fun _ _ => rfl⟩
        generalize wr.drewN nq = wq at *
        have HG : Hid (∀ w', Below wr.heap.size wr w' → w'.cell? ⟨w.heap.size, 0, none⟩ = some (.int .i64 (k : Int)) ∧ w'.cell? ⟨w.heap.size, 1, none⟩ = some (.int .i64 r) ∧ w'.cell? ⟨b, c * 2, none⟩ = some (.int .i64 (kc : Int)) ∧ w'.cell? ⟨b, c * 2 + 1, none⟩ = some (.int .i64 rc)) := hide fun w' hb => unhide HC _ hb
        have hbW : Below wr.heap.size wr wq.drew := hbq.drew
        clear HC
        by_cases hR : Sp.aheadB (kc : Int) rc (k : Int) r = true
        · obtain ⟨g', rfl⟩ : ∃ g', gk = g' + 1 := ⟨gk - 1, by omega⟩
          have HA := hide (show ∀ w', Calls Try.prog 100 #[.agg #[.int .i64 (kc : Int), .int .i64 rc], .agg #[.int .i64 (k : Int), .int .i64 r]] w' fun e w'' => e = .returned (.bool true) ∧ Below w'.heap.size w' w'' from fun w' => by have := ahead_any (kc : Int) rc (k : Int) r w'; rw [hR] at this; exact this)
          have HR := hide hR
          clear hR
          go_upto_region 5 with fail
          go_region_held3 (fun w' => w'.cell? ⟨w.heap.size, 0, none⟩ = some (.int .i64 (k : Int)) ∧ w'.cell? ⟨w.heap.size, 1, none⟩ = some (.int .i64 r) ∧ w'.cell? ⟨b, c * 2, none⟩ = some (.int .i64 (kc : Int)) ∧ w'.cell? ⟨b, c * 2 + 1, none⟩ = some (.int .i64 rc))
            (first
              | exact unhide HG _ hb9
              | exact unhide HG _ hbW)
            (first
              | (go_at_call 100
                 refine (unhide HA _).mono ?_
                 rintro e w9 ⟨rfl, hl9⟩
                 have hb9 : Below wr.heap.size wr w9 := hbW.trans (hl9.mono hbW.size)))
          all_goals
            obtain ⟨x0, x1, e0, e1⟩ := unhide HG _ hb9
            go_wp2_with fail
            refine (stand_any z' b f kc rc w9 ((unhide HI).2.1.below hb9) (by omega) (unhide HE).2.2).mono ?_
            rintro e w10 ⟨rfl, hbut9, hat9⟩
            have hN := ((unhide HI).2.2.1).sink (c := c) (kc := kc) (unhide HN).2 (by omega) (unhide HN).1 (unhide HE).2.1 (unhide HE).1
            rw [unhide HRC] at hN
            have HF : Hid (But b W1 w10 ∧ HpAt w10 b (Sp.stand z' f kc rc) ∧ Sp.HoI (Sp.stand z' f kc rc) M n c k r ∧ Sp.Up n z (Sp.stand z' f kc rc) ∧ (0 < c → Sp.aheadB (k : Int) r (Sp.stand z' f kc rc ((c - 1) / 2 * 2)) (Sp.stand z' f kc rc ((c - 1) / 2 * 2 + 1)) = false)) := hide ⟨((unhide HI).1.trans (But.of hb9)).trans hbut9, hat9, hN.1, (unhide HI).2.2.2.1.trans (Sp.Up.stand _ _ _ _ hfn), fun _ => by
              have hR := unhide HR
              rw [(unhide HN).1, Sp.stand_key _ _ _ _ _ (by omega), Sp.stand_rank _ _ _ _ _ (by omega), if_pos rfl, if_pos rfl, Sp.ahead_no]
              rw [Sp.ahead_yes] at hR
              omega⟩
            clear hbut9 hat9 hN HI HG x0 x1 e0 e1
            go_wp2
            go_roundg g'
            case rel => exact ⟨c, _, by have := unhide HN; omega, by omega, rfl, HF⟩
            case measure => omega
        · have hR' : Sp.aheadB (kc : Int) rc (k : Int) r = false := by simpa using hR
          have HA := hide (show ∀ w', Calls Try.prog 100 #[.agg #[.int .i64 (kc : Int), .int .i64 rc], .agg #[.int .i64 (k : Int), .int .i64 r]] w' fun e w'' => e = .returned (.bool false) ∧ Below w'.heap.size w' w'' from fun w' => by have := ahead_any (kc : Int) rc (k : Int) r w'; rw [hR'] at this; exact this)
          have HR := hide hR'
          clear hR hR'
          go_upto_region 5 with fail
          go_region_held3 (fun w' => w'.cell? ⟨w.heap.size, 0, none⟩ = some (.int .i64 (k : Int)) ∧ w'.cell? ⟨w.heap.size, 1, none⟩ = some (.int .i64 r) ∧ w'.cell? ⟨b, c * 2, none⟩ = some (.int .i64 (kc : Int)) ∧ w'.cell? ⟨b, c * 2 + 1, none⟩ = some (.int .i64 rc))
            (first
              | exact unhide HG _ hb9
              | exact unhide HG _ hbW)
            (first
              | (go_at_call 100
                 refine (unhide HA _).mono ?_
                 rintro e w9 ⟨rfl, hl9⟩
                 have hb9 : Below wr.heap.size wr w9 := hbW.trans (hl9.mono hbW.size)))
          all_goals
            have HF : Hid (But b w w9 ∧ HpAt w9 b z' ∧ Sp.HoI z' M n f k r ∧ Sp.Up n z z' ∧ (0 < f → Sp.aheadB (k : Int) r (z' ((f - 1) / 2 * 2)) (z' ((f - 1) / 2 * 2 + 1)) = false)) := hide ⟨(unhide HBW).trans (But.of hb9), (unhide HI).2.1.below hb9, (unhide HI).2.2⟩
            clear HG HI
            go_wp2
            rw [unhide HP]
            exact ⟨f, z', rfl, (unhide HF).1, (unhide HF).2.1, (unhide HF).2.2.1, (unhide HF).2.2.2.1, (unhide HF).2.2.2.2, fun i h0 hi hp => by
              have h1 := (unhide HE).1 i h0 hi hp
              have h2 := unhide HR
              unfold Sp.ah at h1
              rw [(unhide HE).2.1, unhide HRC] at h1
              rw [Sp.ahead_no] at *
              omega⟩
      · have hdnI : (d : Int) < (n : Int) := by omega
        obtain ⟨kd, hkd, hkk', hzd, -, -⟩ := (unhide HI).2.2.1.it d (by omega) (by omega)
        have d0 := (unhide HI).2.1.cell (j := d * 2) (by omega)
        have d1 := (unhide HI).2.1.cell (j := d * 2 + 1) (by omega)
        rw [hzd] at d0
        have HC : Hid (∀ w', Below wr.heap.size wr w' → w'.cell? ⟨b, 600, none⟩ = some (.int .i64 (n : Int)) ∧ w'.cell? ⟨w.heap.size, 0, none⟩ = some (.int .i64 (k : Int)) ∧ w'.cell? ⟨w.heap.size, 1, none⟩ = some (.int .i64 r) ∧ w'.cell? ⟨b, c * 2, none⟩ = some (.int .i64 (kc : Int)) ∧ w'.cell? ⟨b, c * 2 + 1, none⟩ = some (.int .i64 (z' (c * 2 + 1))) ∧ w'.cell? ⟨b, d * 2, none⟩ = some (.int .i64 (kd : Int)) ∧ w'.cell? ⟨b, d * 2 + 1, none⟩ = some (.int .i64 (z' (d * 2 + 1)))) := hide fun w' hb => ⟨(hb.cell hbl).trans m0, (hb.cell hwl).trans x0, (hb.cell hwl).trans x1, (hb.cell hbl).trans c0, (hb.cell hbl).trans c1, (hb.cell hbl).trans d0, (hb.cell hbl).trans d1⟩
        by_cases hT : Sp.aheadB (kd : Int) (z' (d * 2 + 1)) (kc : Int) (z' (c * 2 + 1)) = true
        · have hmin : ∀ i, 0 < i → i < n → (i - 1) / 2 = f → Sp.ah z' i d = false := fun i h0 hi hp => by
            have hi2 : i = c ∨ i = d := by omega
            rw [Sp.ahead_yes] at hT
            unfold Sp.ah; rw [Sp.ahead_no]
            rcases hi2 with rfl | rfl
            · rw [hzc, hzd]; omega
            · omega
          have HE := hide (And.intro hmin (And.intro hzd hkd))
          have HN : Hid ((d - 1) / 2 = f ∧ 0 < d) := hide (by omega)
          have HA1 := hide (show ∀ w', Calls Try.prog 100 #[.agg #[.int .i64 (kd : Int), .int .i64 (z' (d * 2 + 1))], .agg #[.int .i64 (kc : Int), .int .i64 (z' (c * 2 + 1))]] w' fun e w'' => e = .returned (.bool true) ∧ Below w'.heap.size w' w'' from fun w' => by have := ahead_any (kd : Int) (z' (d * 2 + 1)) (kc : Int) (z' (c * 2 + 1)) w'; rw [hT] at this; exact this)
          clear hT  hmin hzc hzd hc hd c0 c1 d0 d1 x0 x1 hdn hcn hkk hkk'
          obtain ⟨rc, hrc⟩ : ∃ rc, z' (c * 2 + 1) = rc := ⟨_, rfl⟩
          obtain ⟨rd, hrd⟩ : ∃ rd, z' (d * 2 + 1) = rd := ⟨_, rfl⟩
          rw [hrc, hrd] at HC HA1
          have HRC := hide hrc
          have HRD := hide hrd
          clear hrc hrd
          have hcI : (c : Int) < 300 := by omega
          have hdI : (d : Int) < 300 := by omega
          go_upto_region 3 with fail
          clear m0
          go_region_held3 (fun w' => w'.cell? ⟨b, 600, none⟩ = some (.int .i64 (n : Int)) ∧ w'.cell? ⟨b, c * 2, none⟩ = some (.int .i64 (kc : Int)) ∧ w'.cell? ⟨b, c * 2 + 1, none⟩ = some (.int .i64 rc) ∧ w'.cell? ⟨b, d * 2, none⟩ = some (.int .i64 (kd : Int)) ∧ w'.cell? ⟨b, d * 2 + 1, none⟩ = some (.int .i64 rd))
            (first
              | exact ⟨(unhide HC _ hb8).1, (unhide HC _ hb8).2.2.2⟩
              | exact ⟨(unhide HC _ hbr).1, (unhide HC _ hbr).2.2.2⟩)
            (first
              | (go_at_call 100
                 refine (unhide HA1 _).mono ?_
                 rintro e w8 ⟨rfl, hl8⟩
                 have hb8 : Below wr.heap.size wr w8 := hbr.trans hl8))
          all_goals
            have HG : Hid (∀ w', Below wr.heap.size wr w' → w'.cell? ⟨w.heap.size, 0, none⟩ = some (.int .i64 (k : Int)) ∧ w'.cell? ⟨w.heap.size, 1, none⟩ = some (.int .i64 r) ∧ w'.cell? ⟨b, d * 2, none⟩ = some (.int .i64 (kd : Int)) ∧ w'.cell? ⟨b, d * 2 + 1, none⟩ = some (.int .i64 rd)) := hide fun w' hb => ⟨(unhide HC _ hb).2.1, (unhide HC _ hb).2.2.1, (unhide HC _ hb).2.2.2.2.2⟩
            have hbW : Below wr.heap.size wr w8.drew := hb8.drew
            clear HC
            by_cases hR : Sp.aheadB (kd : Int) rd (k : Int) r = true
            · obtain ⟨g', rfl⟩ : ∃ g', gk = g' + 1 := ⟨gk - 1, by omega⟩
              have HA := hide (show ∀ w', Calls Try.prog 100 #[.agg #[.int .i64 (kd : Int), .int .i64 rd], .agg #[.int .i64 (k : Int), .int .i64 r]] w' fun e w'' => e = .returned (.bool true) ∧ Below w'.heap.size w' w'' from fun w' => by have := ahead_any (kd : Int) rd (k : Int) r w'; rw [hR] at this; exact this)
              have HR := hide hR
              clear hR
              go_upto_region 5 with fail
              go_region_held3 (fun w' => w'.cell? ⟨w.heap.size, 0, none⟩ = some (.int .i64 (k : Int)) ∧ w'.cell? ⟨w.heap.size, 1, none⟩ = some (.int .i64 r) ∧ w'.cell? ⟨b, d * 2, none⟩ = some (.int .i64 (kd : Int)) ∧ w'.cell? ⟨b, d * 2 + 1, none⟩ = some (.int .i64 rd))
                (first
                  | exact unhide HG _ hb9
                  | exact unhide HG _ hbW)
                (first
                  | (go_at_call 100
                     refine (unhide HA _).mono ?_
                     rintro e w9 ⟨rfl, hl9⟩
                     have hb9 : Below wr.heap.size wr w9 := hbW.trans (hl9.mono hbW.size)))
              all_goals
                obtain ⟨x0, x1, e0, e1⟩ := unhide HG _ hb9
                go_wp2_with fail
                refine (stand_any z' b f kd rd w9 ((unhide HI).2.1.below hb9) (by omega) (unhide HE).2.2).mono ?_
                rintro e w10 ⟨rfl, hbut9, hat9⟩
                have hN := ((unhide HI).2.2.1).sink (c := d) (kc := kd) (unhide HN).2 (by omega) (unhide HN).1 (unhide HE).2.1 (unhide HE).1
                rw [unhide HRD] at hN
                have HF : Hid (But b W1 w10 ∧ HpAt w10 b (Sp.stand z' f kd rd) ∧ Sp.HoI (Sp.stand z' f kd rd) M n d k r ∧ Sp.Up n z (Sp.stand z' f kd rd) ∧ (0 < d → Sp.aheadB (k : Int) r (Sp.stand z' f kd rd ((d - 1) / 2 * 2)) (Sp.stand z' f kd rd ((d - 1) / 2 * 2 + 1)) = false)) := hide ⟨((unhide HI).1.trans (But.of hb9)).trans hbut9, hat9, hN.1, (unhide HI).2.2.2.1.trans (Sp.Up.stand _ _ _ _ hfn), fun _ => by
                  have hR := unhide HR
                  rw [(unhide HN).1, Sp.stand_key _ _ _ _ _ (by omega), Sp.stand_rank _ _ _ _ _ (by omega), if_pos rfl, if_pos rfl, Sp.ahead_no]
                  rw [Sp.ahead_yes] at hR
                  omega⟩
                clear hbut9 hat9 hN HI HG x0 x1 e0 e1
                go_wp2
                go_roundg g'
                case rel => exact ⟨d, _, by have := unhide HN; omega, by omega, rfl, HF⟩
                case measure => omega
            · have hR' : Sp.aheadB (kd : Int) rd (k : Int) r = false := by simpa using hR
              have HA := hide (show ∀ w', Calls Try.prog 100 #[.agg #[.int .i64 (kd : Int), .int .i64 rd], .agg #[.int .i64 (k : Int), .int .i64 r]] w' fun e w'' => e = .returned (.bool false) ∧ Below w'.heap.size w' w'' from fun w' => by have := ahead_any (kd : Int) rd (k : Int) r w'; rw [hR'] at this; exact this)
              have HR := hide hR'
              clear hR hR'
              go_upto_region 5 with fail
              go_region_held3 (fun w' => w'.cell? ⟨w.heap.size, 0, none⟩ = some (.int .i64 (k : Int)) ∧ w'.cell? ⟨w.heap.size, 1, none⟩ = some (.int .i64 r) ∧ w'.cell? ⟨b, d * 2, none⟩ = some (.int .i64 (kd : Int)) ∧ w'.cell? ⟨b, d * 2 + 1, none⟩ = some (.int .i64 rd))
                (first
                  | exact unhide HG _ hb9
                  | exact unhide HG _ hbW)
                (first
                  | (go_at_call 100
                     refine (unhide HA _).mono ?_
                     rintro e w9 ⟨rfl, hl9⟩
                     have hb9 : Below wr.heap.size wr w9 := hbW.trans (hl9.mono hbW.size)))
              all_goals
                have HF : Hid (But b w w9 ∧ HpAt w9 b z' ∧ Sp.HoI z' M n f k r ∧ Sp.Up n z z' ∧ (0 < f → Sp.aheadB (k : Int) r (z' ((f - 1) / 2 * 2)) (z' ((f - 1) / 2 * 2 + 1)) = false)) := hide ⟨(unhide HBW).trans (But.of hb9), (unhide HI).2.1.below hb9, (unhide HI).2.2⟩
                clear HG HI
                go_wp2
                rw [unhide HP]
                exact ⟨f, z', rfl, (unhide HF).1, (unhide HF).2.1, (unhide HF).2.2.1, (unhide HF).2.2.2.1, (unhide HF).2.2.2.2, fun i h0 hi hp => by
                  have h1 := (unhide HE).1 i h0 hi hp
                  have h2 := unhide HR
                  unfold Sp.ah at h1
                  rw [(unhide HE).2.1, unhide HRD] at h1
                  rw [Sp.ahead_no] at *
                  omega⟩
        · have hT' : Sp.aheadB (kd : Int) (z' (d * 2 + 1)) (kc : Int) (z' (c * 2 + 1)) = false := by simpa using hT
          have hmin : ∀ i, 0 < i → i < n → (i - 1) / 2 = f → Sp.ah z' i c = false := fun i h0 hi hp => by
            have hi2 : i = c ∨ i = d := by omega
            unfold Sp.ah
            rcases hi2 with rfl | rfl
            · rw [Sp.ahead_no]; omega
            · rw [hzc, hzd]; exact hT'
          have HE := hide (And.intro hmin (And.intro hzc hkc))
          have HN : Hid ((c - 1) / 2 = f ∧ 0 < c) := hide (by omega)
          have HA1 := hide (show ∀ w', Calls Try.prog 100 #[.agg #[.int .i64 (kd : Int), .int .i64 (z' (d * 2 + 1))], .agg #[.int .i64 (kc : Int), .int .i64 (z' (c * 2 + 1))]] w' fun e w'' => e = .returned (.bool false) ∧ Below w'.heap.size w' w'' from fun w' => by have := ahead_any (kd : Int) (z' (d * 2 + 1)) (kc : Int) (z' (c * 2 + 1)) w'; rw [hT'] at this; exact this)
          clear hT hT' hmin hzc hzd hc hd c0 c1 d0 d1 x0 x1 hdn hcn hkk hkk'
          obtain ⟨rc, hrc⟩ : ∃ rc, z' (c * 2 + 1) = rc := ⟨_, rfl⟩
          obtain ⟨rd, hrd⟩ : ∃ rd, z' (d * 2 + 1) = rd := ⟨_, rfl⟩
          rw [hrc, hrd] at HC HA1
          have HRC := hide hrc
          have HRD := hide hrd
          clear hrc hrd
          have hcI : (c : Int) < 300 := by omega
          have hdI : (d : Int) < 300 := by omega
          go_upto_region 3 with fail
          clear m0
          go_region_held3 (fun w' => w'.cell? ⟨b, 600, none⟩ = some (.int .i64 (n : Int)) ∧ w'.cell? ⟨b, c * 2, none⟩ = some (.int .i64 (kc : Int)) ∧ w'.cell? ⟨b, c * 2 + 1, none⟩ = some (.int .i64 rc) ∧ w'.cell? ⟨b, d * 2, none⟩ = some (.int .i64 (kd : Int)) ∧ w'.cell? ⟨b, d * 2 + 1, none⟩ = some (.int .i64 rd))
            (first
              | exact ⟨(unhide HC _ hb8).1, (unhide HC _ hb8).2.2.2⟩
              | exact ⟨(unhide HC _ hbr).1, (unhide HC _ hbr).2.2.2⟩)
            (first
              | (go_at_call 100
                 refine (unhide HA1 _).mono ?_
                 rintro e w8 ⟨rfl, hl8⟩
                 have hb8 : Below wr.heap.size wr w8 := hbr.trans hl8))
          all_goals
            have HG : Hid (∀ w', Below wr.heap.size wr w' → w'.cell? ⟨w.heap.size, 0, none⟩ = some (.int .i64 (k : Int)) ∧ w'.cell? ⟨w.heap.size, 1, none⟩ = some (.int .i64 r) ∧ w'.cell? ⟨b, c * 2, none⟩ = some (.int .i64 (kc : Int)) ∧ w'.cell? ⟨b, c * 2 + 1, none⟩ = some (.int .i64 rc)) := hide fun w' hb => ⟨(unhide HC _ hb).2.1, (unhide HC _ hb).2.2.1, (unhide HC _ hb).2.2.2.1, (unhide HC _ hb).2.2.2.2.1⟩
            have hbW : Below wr.heap.size wr w8.drew := hb8.drew
            clear HC
            by_cases hR : Sp.aheadB (kc : Int) rc (k : Int) r = true
            · obtain ⟨g', rfl⟩ : ∃ g', gk = g' + 1 := ⟨gk - 1, by omega⟩
              have HA := hide (show ∀ w', Calls Try.prog 100 #[.agg #[.int .i64 (kc : Int), .int .i64 rc], .agg #[.int .i64 (k : Int), .int .i64 r]] w' fun e w'' => e = .returned (.bool true) ∧ Below w'.heap.size w' w'' from fun w' => by have := ahead_any (kc : Int) rc (k : Int) r w'; rw [hR] at this; exact this)
              have HR := hide hR
              clear hR
              go_upto_region 5 with fail
              go_region_held3 (fun w' => w'.cell? ⟨w.heap.size, 0, none⟩ = some (.int .i64 (k : Int)) ∧ w'.cell? ⟨w.heap.size, 1, none⟩ = some (.int .i64 r) ∧ w'.cell? ⟨b, c * 2, none⟩ = some (.int .i64 (kc : Int)) ∧ w'.cell? ⟨b, c * 2 + 1, none⟩ = some (.int .i64 rc))
                (first
                  | exact unhide HG _ hb9
                  | exact unhide HG _ hbW)
                (first
                  | (go_at_call 100
                     refine (unhide HA _).mono ?_
                     rintro e w9 ⟨rfl, hl9⟩
                     have hb9 : Below wr.heap.size wr w9 := hbW.trans (hl9.mono hbW.size)))
              all_goals
                obtain ⟨x0, x1, e0, e1⟩ := unhide HG _ hb9
                go_wp2_with fail
                refine (stand_any z' b f kc rc w9 ((unhide HI).2.1.below hb9) (by omega) (unhide HE).2.2).mono ?_
                rintro e w10 ⟨rfl, hbut9, hat9⟩
                have hN := ((unhide HI).2.2.1).sink (c := c) (kc := kc) (unhide HN).2 (by omega) (unhide HN).1 (unhide HE).2.1 (unhide HE).1
                rw [unhide HRC] at hN
                have HF : Hid (But b W1 w10 ∧ HpAt w10 b (Sp.stand z' f kc rc) ∧ Sp.HoI (Sp.stand z' f kc rc) M n c k r ∧ Sp.Up n z (Sp.stand z' f kc rc) ∧ (0 < c → Sp.aheadB (k : Int) r (Sp.stand z' f kc rc ((c - 1) / 2 * 2)) (Sp.stand z' f kc rc ((c - 1) / 2 * 2 + 1)) = false)) := hide ⟨((unhide HI).1.trans (But.of hb9)).trans hbut9, hat9, hN.1, (unhide HI).2.2.2.1.trans (Sp.Up.stand _ _ _ _ hfn), fun _ => by
                  have hR := unhide HR
                  rw [(unhide HN).1, Sp.stand_key _ _ _ _ _ (by omega), Sp.stand_rank _ _ _ _ _ (by omega), if_pos rfl, if_pos rfl, Sp.ahead_no]
                  rw [Sp.ahead_yes] at hR
                  omega⟩
                clear hbut9 hat9 hN HI HG x0 x1 e0 e1
                go_wp2
                go_roundg g'
                case rel => exact ⟨c, _, by have := unhide HN; omega, by omega, rfl, HF⟩
                case measure => omega
            · have hR' : Sp.aheadB (kc : Int) rc (k : Int) r = false := by simpa using hR
              have HA := hide (show ∀ w', Calls Try.prog 100 #[.agg #[.int .i64 (kc : Int), .int .i64 rc], .agg #[.int .i64 (k : Int), .int .i64 r]] w' fun e w'' => e = .returned (.bool false) ∧ Below w'.heap.size w' w'' from fun w' => by have := ahead_any (kc : Int) rc (k : Int) r w'; rw [hR'] at this; exact this)
              have HR := hide hR'
              clear hR hR'
              go_upto_region 5 with fail
              go_region_held3 (fun w' => w'.cell? ⟨w.heap.size, 0, none⟩ = some (.int .i64 (k : Int)) ∧ w'.cell? ⟨w.heap.size, 1, none⟩ = some (.int .i64 r) ∧ w'.cell? ⟨b, c * 2, none⟩ = some (.int .i64 (kc : Int)) ∧ w'.cell? ⟨b, c * 2 + 1, none⟩ = some (.int .i64 rc))
                (first
                  | exact unhide HG _ hb9
                  | exact unhide HG _ hbW)
                (first
                  | (go_at_call 100
                     refine (unhide HA _).mono ?_
                     rintro e w9 ⟨rfl, hl9⟩
                     have hb9 : Below wr.heap.size wr w9 := hbW.trans (hl9.mono hbW.size)))
              all_goals
                have HF : Hid (But b w w9 ∧ HpAt w9 b z' ∧ Sp.HoI z' M n f k r ∧ Sp.Up n z z' ∧ (0 < f → Sp.aheadB (k : Int) r (z' ((f - 1) / 2 * 2)) (z' ((f - 1) / 2 * 2 + 1)) = false)) := hide ⟨(unhide HBW).trans (But.of hb9), (unhide HI).2.1.below hb9, (unhide HI).2.2⟩
                clear HG HI
                go_wp2
                rw [unhide HP]
                exact ⟨f, z', rfl, (unhide HF).1, (unhide HF).2.1, (unhide HF).2.2.1, (unhide HF).2.2.2.1, (unhide HF).2.2.2.2, fun i h0 hi hp => by
                  have h1 := (unhide HE).1 i h0 hi hp
                  have h2 := unhide HR
                  unfold Sp.ah at h1
                  rw [(unhide HE).2.1, unhide HRC] at h1
                  rw [Sp.ahead_no] at *
                  omega⟩
end Go.Proofs.Ytoegjnolccabjaa


/- Package heap: settle, find. -/
namespace Go.Proofs.Ytoegjnolccabjaa
open Go Go.RowKit

set_option maxRecDepth 100000 in
set_option maxHeartbeats 4000000 in
theorem settle_any (z : Nat → Int) (M : Nat → Option Int) (b n f k : Nat) (r : Int) (w : World) (h : HpAt w b z) (hi : Sp.HoI z M n f k r) :
    Calls Try.prog 89 #[.pointer (some ⟨b, 0, none⟩), .int .i64 (f : Int), .agg #[.int .i64 (k : Int), .int .i64 r]] w fun e w' => ∃ (z' : Nat → Int), e = .returned (.tuple #[]) ∧ But b w w' ∧ HpAt w' b z' ∧ Sp.HpI z' M n ∧ Sp.Up n z z' := by
  have hb := h.lt
  have hnl := hi.le
  have HI0 : Hid (HpAt (w.alloc (.cells #[.int .i64 (k : Int), .int .i64 r] 103)) b z ∧ Sp.HoI z M n f k r) := hide ⟨h.alloc _, hi⟩
  have HX : Hid (∀ wr, But b (w.alloc (.cells #[.int .i64 (k : Int), .int .i64 r] 103)) wr → wr.cell? ⟨w.heap.size, 0, none⟩ = some (.int .i64 (k : Int)) ∧ wr.cell? ⟨w.heap.size, 1, none⟩ = some (.int .i64 r) ∧ But b w wr) := hide fun wr hw => by
    obtain ⟨x0, x1⟩ := item_new w (.int .i64 (k : Int)) (.int .i64 r)
    exact ⟨(hw.cell (by simp) (by show w.heap.size ≠ b; omega)).trans x0, (hw.cell (by simp) (by show w.heap.size ≠ b; omega)).trans x1, ((But.refl b w).alloc _).trans hw⟩
  obtain ⟨P, hP⟩ : ∃ P : Ending → World → Prop, P = fun e w' => ∃ (z' : Nat → Int), e = .returned (.tuple #[]) ∧ But b w w' ∧ HpAt w' b z' ∧ Sp.HpI z' M n ∧ Sp.Up n z z' := ⟨_, rfl⟩
  rw [← hP]
  have HP := hide hP
  obtain ⟨x0, x1, -⟩ := unhide HX _ (But.refl _ _)
  clear hP h hi
  go_enter Try.func89, Try.ntmps89
  go_wp2_with fail
  generalize w.alloc (.cells #[.int .i64 (k : Int), .int .i64 r] 103) = W1 at *
  refine (rise_any z M b n f k r W1 (unhide HI0).1 (unhide HI0).2).mono ?_
  rintro e w2 ⟨f2, z2, rfl, hb2, ha2, hi2, hu2, hp2⟩
  obtain ⟨y0, y1, -⟩ := unhide HX _ hb2
  have H2 := hide (And.intro hb2 (And.intro ha2 (And.intro hi2 (And.intro hu2 hp2))))
  clear hb2 ha2 hi2 hu2 hp2 x0 x1
  go_wp2_with fail
  refine (sink_any z2 M b n f2 k r w2 (unhide H2).2.1 (unhide H2).2.2.1 (unhide H2).2.2.2.2).mono ?_
  rintro e w3 ⟨f3, z3, rfl, hb3, ha3, hi3, hu3, hp3, hd3⟩
  have hb3' := (unhide H2).1.trans hb3
  obtain ⟨x0, x1, hbw⟩ := unhide HX _ hb3'
  have H3 := hide (And.intro hbw (And.intro ha3 (And.intro hi3 (And.intro ((unhide H2).2.2.2.1.trans hu3) (And.intro hp3 hd3)))))
  have hf3 := hi3.fn
  have hk3 := hi3.kl
  clear hb3 hb3' ha3 hi3 hu3 hp3 hd3 hbw y0 y1 H2
  go_wp2_with fail
  refine (stand_any z3 b f3 k r w3 (unhide H3).2.1 (by omega) hk3).mono ?_
  rintro e w4 ⟨rfl, hb4, ha4⟩
  have HF : Hid (But b w w4 ∧ HpAt w4 b (Sp.stand z3 f3 k r) ∧ Sp.HpI (Sp.stand z3 f3 k r) M n ∧ Sp.Up n z (Sp.stand z3 f3 k r)) := hide ⟨(unhide H3).1.trans hb4, ha4, (unhide H3).2.2.1.shut (unhide H3).2.2.2.2.1 (unhide H3).2.2.2.2.2, (unhide H3).2.2.2.1.trans (Sp.Up.stand _ _ _ _ hf3)⟩
  clear hb4 ha4 H3
  go_wp2
  go_end0
  rw [unhide HP]
  exact ⟨_, rfl, unhide HF⟩

/-- Where a key is. -/
def Sp.findB (z : Nat → Int) (k : Int) : Bool := decide (0 ≤ k ∧ k < 300 ∧ z (601 + k.toNat) ≠ 0)
def Sp.findP (z : Nat → Int) (k : Int) : Int := if Sp.findB z k = true then z (601 + k.toNat) - 1 else 0
set_option maxRecDepth 100000 in
set_option maxHeartbeats 4000000 in
theorem find_any (z : Nat → Int) (b : Nat) (k : Int) (w : World) (h : HpAt w b z) (hz : ∀ j, j < 300 → 0 ≤ z (601 + j) ∧ z (601 + j) ≤ 300) :
    Calls Try.prog 88 #[.pointer (some ⟨b, 0, none⟩), .int .i64 k] w fun e w' => e = .returned (.tuple #[.int .i64 (Sp.findP z k), .bool (Sp.findB z k)]) ∧ w' = w := by
  by_cases hk : 0 ≤ k ∧ k < 300
  · obtain ⟨j, rfl⟩ : ∃ j : Nat, k = (j : Int) := ⟨k.toNat, by omega⟩
    have hjI : (j : Int) < 300 := hk.2
    have hK := isKey_any (j : Int) w
    rw [decide_eq_true hk] at hK
    have HK := hide hK
    have c0 := h.cell (j := 601 + j) (by omega)
    have hzj := hz j (by omega)
    by_cases h0 : z (601 + j) = 0
    · have HR : Hid (Sp.findB z (j : Int) = false ∧ Sp.findP z (j : Int) = 0) := hide (by
        have : Sp.findB z (j : Int) = false := by simp [Sp.findB, h0]
        exact ⟨this, by simp [Sp.findP, this]⟩)
      rw [h0] at c0
      generalize Sp.findB z (j : Int) = RB at *
      generalize Sp.findP z (j : Int) = RP at *
      clear hK hk hz h hzj h0
      go_enter Try.func88, Try.ntmps88
      go_wp2_with fail
      go_at_call 87
      refine (unhide HK).mono ?_
      rintro e w' ⟨rfl, hw'⟩
      have := hw'.symm
      subst this
      go_wp2
      go_ret2
      exact ⟨by rw [(unhide HR).1, (unhide HR).2]; rfl, rfl⟩
    · have HR : Hid (Sp.findB z (j : Int) = true ∧ Sp.findP z (j : Int) = z (601 + j) - 1) := hide (by
        have : Sp.findB z (j : Int) = true := by simp [Sp.findB, h0]; omega
        exact ⟨this, by simp [Sp.findP, this]⟩)
      generalize z (601 + j) = zj at *
      have e0 : (zj == 0) = false := by simpa using h0
      generalize Sp.findB z (j : Int) = RB at *
      generalize Sp.findP z (j : Int) = RP at *
      clear hK hk hz h
      go_enter Try.func88, Try.ntmps88
      go_wp2_with fail
      go_at_call 87
      refine (unhide HK).mono ?_
      rintro e w' ⟨rfl, hw'⟩
      have := hw'.symm
      subst this
      go_wp2
      go_ret2
      exact ⟨by rw [(unhide HR).1, (unhide HR).2]; rfl, rfl⟩
  · have hK := isKey_any k w
    rw [decide_eq_false hk] at hK
    have HK := hide hK
    have HR : Hid (Sp.findB z k = false ∧ Sp.findP z k = 0) := hide (by
      have : Sp.findB z k = false := by simp only [Sp.findB, decide_eq_false_iff_not]; omega
      exact ⟨this, by simp [Sp.findP, this]⟩)
    generalize Sp.findB z k = RB at *
    generalize Sp.findP z k = RP at *
    clear hK hk hz h
    go_enter Try.func88, Try.ntmps88
    go_wp2_with fail
    go_at_call 87
    refine (unhide HK).mono ?_
    rintro e w' ⟨rfl, hw'⟩
    have := hw'.symm
    subst this
    go_wp2
    go_ret2
    exact ⟨by rw [(unhide HR).1, (unhide HR).2]; rfl, rfl⟩
end Go.Proofs.Ytoegjnolccabjaa


/- Keys by rank: what a heap holds; put, dropped. -/
namespace Go.Proofs.Ytoegjnolccabjaa
open Go Go.RowKit

theorem Sp.HpI.congr {z z' : Nat → Int} {M : Nat → Option Int} {n : Nat} (h : Sp.HpI z M n) (h0 : z' 600 = z 600) (h1 : ∀ k, k < 300 → z' (601 + k) = z (601 + k)) (h2 : ∀ i, i < n → z' (i * 2) = z (i * 2) ∧ z' (i * 2 + 1) = z (i * 2 + 1)) : Sp.HpI z' M n := by
  refine ⟨by rw [h0]; exact h.many, h.le, fun i hi => ?_, fun k hk => ?_, fun i hi0 hi => ?_, h.out, h.cnt⟩
  · obtain ⟨k, hk, a, b, c⟩ := h.it i hi
    exact ⟨k, hk, by rw [(h2 i hi).1]; exact a, by rw [h1 k hk]; exact b, by rw [(h2 i hi).2]; exact c⟩
  · rw [h1 k hk]
    rcases h.pl k hk with a | ⟨i, hi, a, b⟩
    · exact .inl a
    · exact .inr ⟨i, hi, a, by rw [(h2 i hi).1]; exact b⟩
  · unfold Sp.ah
    rw [(h2 i hi).1, (h2 i hi).2, (h2 _ (by omega)).1, (h2 _ (by omega)).2]
    exact h.ord i hi0 hi
/-- Behind the row all is nothing. -/
def Sp.Wiped (z : Nat → Int) (n : Nat) : Prop := ∀ i, n ≤ i → i < 300 → z (i * 2) = 0 ∧ z (i * 2 + 1) = 0
/-- A heap that holds M. -/
def HpIs (w : World) (b : Nat) (M : Nat → Option Int) : Prop := ∃ z, HpAt w b z ∧ Sp.HpI z M (Sp.hcnt M) ∧ Sp.Wiped z (Sp.hcnt M)
theorem HpIs.lt {w : World} {b : Nat} {M : Nat → Option Int} (h : HpIs w b M) : b < w.heap.size := by
  obtain ⟨z, h, -⟩ := h; exact h.lt
theorem HpIs.below {w w' : World} {b : Nat} {M : Nat → Option Int} (h : HpIs w b M) (hb : Below w.heap.size w w') : HpIs w' b M := by
  obtain ⟨z, h, h2⟩ := h; exact ⟨z, h.below hb, h2⟩
theorem HpIs.of_block {w w' : World} {b : Nat} {M : Nat → Option Int} (h : HpIs w b M) (e : w'.heap[b]? = w.heap[b]?) : HpIs w' b M := by
  obtain ⟨z, h, h2⟩ := h; exact ⟨z, h.of_block e, h2⟩
theorem Sp.HpI.places {z : Nat → Int} {M : Nat → Option Int} {n : Nat} (h : Sp.HpI z M n) : ∀ j, j < 300 → 0 ≤ z (601 + j) ∧ z (601 + j) ≤ 300 := fun j hj => by
  have := h.le
  rcases h.pl j hj with ⟨a, -⟩ | ⟨i, hi, a, -⟩ <;> rw [a] <;> omega
theorem Sp.HpI.inj {z : Nat → Int} {M : Nat → Option Int} {n : Nat} (h : Sp.HpI z M n) {i j : Nat} (hi : i < n) (hj : j < n) (e : z (i * 2) = z (j * 2)) : i = j := by
  obtain ⟨k, hk, a, b, -⟩ := h.it i hi
  obtain ⟨k', hk', a', b', -⟩ := h.it j hj
  have : k = k' := by omega
  subst this
  omega
/-- A key that is there is put anew: its place is free for it. -/
theorem Sp.HpI.anew {z : Nat → Int} {M : Nat → Option Int} {n f k : Nat} (h : Sp.HpI z M n) (hf : f < n) (hk : k < 300) (hz : z (f * 2) = (k : Int)) (r : Int) : Sp.HoI z (Sp.put M k (some r)) n f k r := by
  obtain ⟨k0, hk0, a0, b0, c0⟩ := h.it f hf
  obtain rfl : k = k0 := by omega
  refine ⟨h.many, h.le, hf, hk, Sp.put_same _ _ _, fun i hi hif => ?_, fun k' hk' hkk => ?_, fun i h0 hi _ _ => h.ord i h0 hi, fun i h0 hi hp hf0 => ?_, fun k' hk' => ?_, ?_⟩
  · obtain ⟨k1, hk1, a1, b1, c1⟩ := h.it i hi
    have hne : k1 ≠ k := fun e => hif (h.inj hi hf (by rw [a1, hz, e]))
    exact ⟨k1, hk1, hne, a1, b1, by rw [Sp.put_other _ _ hne]; exact c1⟩
  · rw [Sp.put_other _ _ hkk]
    rcases h.pl k' hk' with a | ⟨i, hi, a, b⟩
    · exact .inl a
    · exact .inr ⟨i, hi, fun e => by subst e; omega, a, b⟩
  · have := h.ord i h0 hi
    rw [hp] at this
    exact Sp.ah_trans this (h.ord f hf0 hf)
  · rw [Sp.put_other _ _ (by omega)]; exact h.out k' hk'
  · rw [Sp.hcnt_anew M k r _ hk c0]; exact h.cnt
/-- A new key: a place behind the row is free for it. -/
theorem Sp.HpI.new {z : Nat → Int} {M : Nat → Option Int} {n k : Nat} (h : Sp.HpI z M n) (hk : k < 300) (hm : M k = none) (r : Int) : Sp.HoI (Sp.upd z 600 ((n : Int) + 1)) (Sp.put M k (some r)) (n + 1) n k r := by
  have hc := Sp.hcnt_add M k r hk hm
  have hle := Sp.hcnt_le (Sp.put M k (some r))
  have hcn := h.cnt
  have e1 : ∀ i, i < 300 → Sp.upd z 600 ((n : Int) + 1) (i * 2) = z (i * 2) ∧ Sp.upd z 600 ((n : Int) + 1) (i * 2 + 1) = z (i * 2 + 1) := fun i hi => ⟨Sp.upd_other _ _ (by omega), Sp.upd_other _ _ (by omega)⟩
  have e2 : ∀ j, Sp.upd z 600 ((n : Int) + 1) (601 + j) = z (601 + j) := fun j => Sp.upd_other _ _ (by omega)
  refine ⟨by rw [Sp.upd_same]; rfl, by omega, by omega, hk, Sp.put_same _ _ _, fun i hi hif => ?_, fun k' hk' hkk => ?_, fun i h0 hi hin hp => ?_, fun i h0 hi hp hf0 => by omega, fun k' hk' => ?_, by omega⟩
  · obtain ⟨k1, hk1, a1, b1, c1⟩ := h.it i (by omega)
    have hne : k1 ≠ k := fun e => by subst e; rw [hm] at c1; cases c1
    exact ⟨k1, hk1, hne, by rw [(e1 i (by omega)).1]; exact a1, by rw [e2]; exact b1, by rw [Sp.put_other _ _ hne, (e1 i (by omega)).2]; exact c1⟩
  · rw [Sp.put_other _ _ hkk, e2]
    rcases h.pl k' hk' with a | ⟨i, hi, a, b⟩
    · exact .inl a
    · exact .inr ⟨i, by omega, by omega, a, by rw [(e1 i (by omega)).1]; exact b⟩
  · unfold Sp.ah
    rw [(e1 i (by omega)).1, (e1 i (by omega)).2, (e1 _ (by omega)).1, (e1 _ (by omega)).2]
    exact h.ord i h0 (by omega)
  · rw [Sp.put_other _ _ (by omega)]; exact h.out k' hk'
/-- The row without its last item, the one at p taken away: place p is free for the last. -/
theorem Sp.HpI.less {z : Nat → Int} {M : Nat → Option Int} {m p kp km : Nat} (h : Sp.HpI z M (m + 1)) (hp : p < m) (hzp : z (p * 2) = (kp : Int)) (hzm : z (m * 2) = (km : Int)) :
    Sp.HoI (Sp.upd (Sp.upd z 600 (m : Int)) (601 + kp) 0) (Sp.put M kp none) m p km (z (m * 2 + 1)) := by
  have hle := h.le
  obtain ⟨k0, hk0, a0, b0, c0⟩ := h.it p (by omega)
  obtain rfl : kp = k0 := by omega
  obtain ⟨k1, hk1, a1, b1, c1⟩ := h.it m (by omega)
  obtain rfl : km = k1 := by omega
  have hne : km ≠ kp := fun e => by subst e; omega
  have e0 : ∀ i, i < 300 → Sp.upd (Sp.upd z 600 (m : Int)) (601 + kp) 0 (i * 2) = z (i * 2) ∧ Sp.upd (Sp.upd z 600 (m : Int)) (601 + kp) 0 (i * 2 + 1) = z (i * 2 + 1) := fun i hi => ⟨by rw [Sp.upd_other _ _ (by omega), Sp.upd_other _ _ (by omega)], by rw [Sp.upd_other _ _ (by omega), Sp.upd_other _ _ (by omega)]⟩
  have e2 : ∀ j, j ≠ kp → Sp.upd (Sp.upd z 600 (m : Int)) (601 + kp) 0 (601 + j) = z (601 + j) := fun j hj => by rw [Sp.upd_other _ _ (by omega), Sp.upd_other _ _ (by omega)]
  refine ⟨by rw [Sp.upd_other _ _ (by omega), Sp.upd_same], by omega, hp, hk1, by rw [Sp.put_other _ _ hne]; exact c1, fun i hi hif => ?_, fun k' hk' hkk => ?_, fun i h0 hi hin hpp => ?_, fun i h0 hi hpp hf0 => ?_, fun k' hk' => ?_, ?_⟩
  · obtain ⟨k2, hk2, a2, b2, c2⟩ := h.it i (by omega)
    have n1 : k2 ≠ km := fun e => by subst e; omega
    have n2 : k2 ≠ kp := fun e => by subst e; omega
    exact ⟨k2, hk2, n1, by rw [(e0 i (by omega)).1]; exact a2, by rw [e2 _ n2]; exact b2, by rw [Sp.put_other _ _ n2, (e0 i (by omega)).2]; exact c2⟩
  · by_cases hkp : k' = kp
    · subst hkp
      exact .inl ⟨Sp.upd_same _ _ _, Sp.put_same _ _ _⟩
    · rw [e2 _ hkp, Sp.put_other _ _ hkp]
      rcases h.pl k' hk' with a | ⟨i, hi, a, b⟩
      · exact .inl a
      · have n1 : i ≠ m := fun e => by subst e; omega
        have n2 : i ≠ p := fun e => by subst e; omega
        exact .inr ⟨i, by omega, n2, a, by rw [(e0 i (by omega)).1]; exact b⟩
  · unfold Sp.ah
    rw [(e0 i (by omega)).1, (e0 i (by omega)).2, (e0 _ (by omega)).1, (e0 _ (by omega)).2]
    exact h.ord i h0 (by omega)
  · have h1 := h.ord i h0 (by omega)
    rw [hpp] at h1
    have h2 := Sp.ah_trans h1 (h.ord p hf0 (by omega))
    unfold Sp.ah at *
    rw [(e0 i (by omega)).1, (e0 i (by omega)).2, (e0 _ (by omega)).1, (e0 _ (by omega)).2]
    exact h2
  · rw [Sp.put_other _ _ (by omega)]; exact h.out k' hk'
  · have := Sp.hcnt_drop M kp _ hk0 c0
    have := h.cnt
    omega
theorem Sp.HpI.last {z : Nat → Int} {M : Nat → Option Int} {m kp : Nat} (h : Sp.HpI z M (m + 1)) (hzp : z (m * 2) = (kp : Int)) :
    Sp.HpI (Sp.upd (Sp.upd z 600 (m : Int)) (601 + kp) 0) (Sp.put M kp none) m := by
  have hle := h.le
  obtain ⟨k0, hk0, a0, b0, c0⟩ := h.it m (by omega)
  obtain rfl : kp = k0 := by omega
  have e0 : ∀ i, i < 300 → Sp.upd (Sp.upd z 600 (m : Int)) (601 + kp) 0 (i * 2) = z (i * 2) ∧ Sp.upd (Sp.upd z 600 (m : Int)) (601 + kp) 0 (i * 2 + 1) = z (i * 2 + 1) := fun i hi => ⟨by rw [Sp.upd_other _ _ (by omega), Sp.upd_other _ _ (by omega)], by rw [Sp.upd_other _ _ (by omega), Sp.upd_other _ _ (by omega)]⟩
  have e2 : ∀ j, j ≠ kp → Sp.upd (Sp.upd z 600 (m : Int)) (601 + kp) 0 (601 + j) = z (601 + j) := fun j hj => by rw [Sp.upd_other _ _ (by omega), Sp.upd_other _ _ (by omega)]
  refine ⟨by rw [Sp.upd_other _ _ (by omega), Sp.upd_same], by omega, fun i hi => ?_, fun k' hk' => ?_, fun i h0 hi => ?_, fun k' hk' => ?_, ?_⟩
  · obtain ⟨k2, hk2, a2, b2, c2⟩ := h.it i (by omega)
    have n2 : k2 ≠ kp := fun e => by subst e; omega
    exact ⟨k2, hk2, by rw [(e0 i (by omega)).1]; exact a2, by rw [e2 _ n2]; exact b2, by rw [Sp.put_other _ _ n2, (e0 i (by omega)).2]; exact c2⟩
  · by_cases hkp : k' = kp
    · subst hkp
      exact .inl ⟨Sp.upd_same _ _ _, Sp.put_same _ _ _⟩
    · rw [e2 _ hkp, Sp.put_other _ _ hkp]
      rcases h.pl k' hk' with a | ⟨i, hi, a, b⟩
      · exact .inl a
      · have n1 : i ≠ m := fun e => by subst e; omega
        exact .inr ⟨i, by omega, a, by rw [(e0 i (by omega)).1]; exact b⟩
  · unfold Sp.ah
    rw [(e0 i (by omega)).1, (e0 i (by omega)).2, (e0 _ (by omega)).1, (e0 _ (by omega)).2]
    exact h.ord i h0 (by omega)
  · rw [Sp.put_other _ _ (by omega)]; exact h.out k' hk'
  · have := Sp.hcnt_drop M kp _ hk0 c0
    have := h.cnt
    omega
/-- The first item is ahead of all others. -/
theorem Sp.HpI.first {z : Nat → Int} {M : Nat → Option Int} {n : Nat} (h : Sp.HpI z M n) : ∀ i, i < n → Sp.ah z i 0 = false := by
  intro i
  induction i using Nat.strongRecOn with
  | ind i ih =>
    intro hi
    by_cases h0 : i = 0
    · subst h0; unfold Sp.ah; rw [Sp.ahead_no]; omega
    · exact Sp.ah_trans (h.ord i (by omega) hi) (ih _ (by omega) (by omega))
end Go.Proofs.Ytoegjnolccabjaa


