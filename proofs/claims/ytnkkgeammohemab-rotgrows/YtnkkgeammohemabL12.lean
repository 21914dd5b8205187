/- What the proof needs, part 12. -/
import Derived.Test.YtnkkgeammohemabL11
/- What the program's Parts tells: labels numbered by their first ones, that tell the pieces apart. -/
namespace Go.Proofs.Ytnkkgeammohemab
open Go Go.RowKit

/-- Labels laid so far, by whatever tells places apart. -/
structure Sp.NSt (L : Nat) (E : Nat → Nat → Prop) (d : Nat) (of : List Int) (k : Nat) : Prop where
  len : of.length = L
  bd : ∀ i, i < L → of.getD i 0 = -1 ∨ (0 ≤ of.getD i 0 ∧ of.getD i 0 < (k : Int))
  done : ∀ i, i < d → 0 ≤ of.getD i 0
  inv : ∀ i j, i < L → j < L → E i j → of.getD i 0 = of.getD j 0
  sep : ∀ i j, i < L → j < L → 0 ≤ of.getD i 0 → of.getD i 0 = of.getD j 0 → E i j
  rg : ∀ i, i < d → ∀ c, 0 ≤ c → c < of.getD i 0 → ∃ j, j < i ∧ of.getD j 0 = c
  on : ∀ c : Nat, c < k → ∃ i, i < d ∧ of.getD i 0 = (c : Int)
theorem Sp.NSt.first (L : Nat) (E : Nat → Nat → Prop) : Sp.NSt L E 0 (List.replicate L (-1)) 0 := by
  refine ⟨by simp, fun i hi => .inl (getD_rep _ _ _ hi), fun i hi => by omega, fun i j hi hj _ => by rw [getD_rep _ _ _ hi, getD_rep _ _ _ hj], fun i j hi hj h => ?_, fun i hi => by omega, fun c hc => by omega⟩
  rw [getD_rep _ _ _ hi] at h
  omega
theorem Sp.NSt.old {L : Nat} {E : Nat → Nat → Prop} {d k : Nat} {of : List Int} (h : Sp.NSt L E d of k) (hd : d < L) (h0 : of.getD d 0 ≠ -1) : Sp.NSt L E (d + 1) of k := by
  have h0' : 0 ≤ of.getD d 0 ∧ of.getD d 0 < (k : Int) := by
    rcases h.bd d hd with e | e
    · exact absurd e h0
    · exact e
  refine ⟨h.len, h.bd, fun i hi => ?_, h.inv, h.sep, fun i hi c c0 c1 => ?_, fun c hc => ?_⟩
  · rcases Nat.lt_or_ge i d with h1 | h1
    · exact h.done i h1
    · rw [show i = d by omega]; exact h0'.1
  · rcases Nat.lt_or_ge i d with h1 | h1
    · exact h.rg i h1 c c0 c1
    · rw [show i = d by omega] at c1 ⊢
      obtain ⟨j, h2, h3⟩ := h.on c.toNat (by omega)
      exact ⟨j, h2, by rw [h3]; omega⟩
  · obtain ⟨i, h1, h2⟩ := h.on c hc
    exact ⟨i, by omega, h2⟩
theorem Sp.NSt.new {L : Nat} {E : Nat → Nat → Prop} {d k : Nat} {of of' : List Int} (h : Sp.NSt L E d of k) (hr : ∀ i, E i i) (hs : ∀ i j, i < L → j < L → E i j → E j i) (ht : ∀ i j l, E i j → E j l → E i l) (hd : d < L) (h0 : of.getD d 0 = -1) (hl : of'.length = L)
    (hE : ∀ i, i < L → E d i → of'.getD i 0 = (k : Int)) (hN : ∀ i, i < L → ¬ E d i → of'.getD i 0 = of.getD i 0) : Sp.NSt L E (d + 1) of' (k + 1) := by
  have hget : ∀ i, i < L → (E d i ∧ of'.getD i 0 = (k : Int) ∧ of.getD i 0 = -1) ∨ (¬ E d i ∧ of'.getD i 0 = of.getD i 0) := by
    intro i hi
    by_cases ho : E d i
    · exact .inl ⟨ho, hE i hi ho, by rw [← h.inv d i hd hi ho]; exact h0⟩
    · exact .inr ⟨ho, hN i hi ho⟩
  have hdk : of'.getD d 0 = (k : Int) := hE d hd (hr d)
  refine ⟨hl, fun i hi => ?_, fun i hi => ?_, fun i j hi hj e => ?_, fun i j hi hj hn e => ?_, fun i hi c c0 c1 => ?_, fun c hc => ?_⟩
  · rcases hget i hi with ⟨-, e, -⟩ | ⟨-, e⟩
    · right; rw [e]; omega
    · rw [e]; rcases h.bd i hi with e1 | e1
      · exact .inl e1
      · exact .inr ⟨e1.1, by omega⟩
  · rcases Nat.lt_or_ge i d with h1 | h1
    · rcases hget i (by omega) with ⟨-, e, -⟩ | ⟨-, e⟩
      · rw [e]; omega
      · rw [e]; exact h.done i h1
    · rw [show i = d by omega, hdk]; omega
  · rcases hget i hi with ⟨o, e1, -⟩ | ⟨o, e1⟩ <;> rcases hget j hj with ⟨o', e2, -⟩ | ⟨o', e2⟩
    · rw [e1, e2]
    · exact absurd (ht _ _ _ o e) o'
    · exact absurd (ht _ _ _ o' (hs i j hi hj e)) o
    · rw [e1, e2]; exact h.inv i j hi hj e
  · rcases hget i hi with ⟨o, e1, -⟩ | ⟨o, e1⟩ <;> rcases hget j hj with ⟨o', e2, -⟩ | ⟨o', e2⟩
    · exact ht _ _ _ (hs d i hd hi o) o'
    · rw [e1, e2] at e
      rcases h.bd j hj with e3 | e3 <;> omega
    · rw [e1, e2] at e
      rcases h.bd i hi with e3 | e3 <;> omega
    · rw [e1, e2] at e
      rw [e1] at hn
      exact h.sep i j hi hj hn e
  · rcases Nat.lt_or_ge i d with h1 | h1
    · rcases hget i (by omega) with ⟨-, -, e⟩ | ⟨-, e⟩
      · have := h.done i h1; omega
      · rw [e] at c1
        obtain ⟨j, h2, h3⟩ := h.rg i h1 c c0 c1
        refine ⟨j, h2, ?_⟩
        rcases hget j (by omega) with ⟨-, -, e'⟩ | ⟨-, e'⟩
        · omega
        · rw [e', h3]
    · rw [show i = d by omega] at c1 ⊢
      rw [hdk] at c1
      obtain ⟨j, h2, h3⟩ := h.on c.toNat (by omega)
      refine ⟨j, h2, ?_⟩
      rcases hget j (by omega) with ⟨-, -, e'⟩ | ⟨-, e'⟩
      · omega
      · rw [e', h3]; omega
  · by_cases hk : c = k
    · exact ⟨d, by omega, by rw [hdk, hk]⟩
    · obtain ⟨i, h1, h2⟩ := h.on c (by omega)
      refine ⟨i, by omega, ?_⟩
      rcases hget i (by omega) with ⟨-, -, e'⟩ | ⟨-, e'⟩
      · omega
      · rw [e', h2]
theorem Sp.NSt.num {L : Nat} {E : Nat → Nat → Prop} {of : List Int} {k : Nat} (h : Sp.NSt L E L of k) : Sp.Num of k := by
  refine ⟨⟨fun i hi => h.done i (by rw [← h.len]; exact hi), fun i hi => h.rg i (by rw [← h.len]; exact hi)⟩, fun i hi => ?_, fun c hc => ?_⟩
  · rw [h.len] at hi
    have := h.done i hi
    rcases h.bd i hi with e | e <;> omega
  · obtain ⟨i, h1, h2⟩ := h.on c hc
    exact ⟨i, by rw [h.len]; exact h1, h2⟩
theorem Sp.NSt.uniq {L : Nat} {E : Nat → Nat → Prop} {of of' : List Int} {k k' : Nat} (h : Sp.NSt L E L of k) (h' : Sp.NSt L E L of' k') : of = of' ∧ k = k' := by
  have e : of = of' := Sp.RG.uniq h.num.rg h'.num.rg (by rw [h.len, h'.len]) (fun i j hi hj => by
    rw [h.len] at hi hj
    constructor
    · intro e; exact h'.inv i j hi hj (h.sep i j hi hj (h.done i hi) e)
    · intro e; exact h.inv i j hi hj (h'.sep i j hi hj (h'.done i hi) e))
  refine ⟨e, ?_⟩
  subst e
  exact h.num.count h'.num
theorem Sp.Reach.trans {tl : List Int} {u v z : Int} (h : Sp.Reach tl u v) (h' : Sp.Reach tl v z) : Sp.Reach tl u z :=
  h'.ind (p := fun z => Sp.Reach tl u z) h (fun _ hd _ ih => ih.step hd)
theorem Sp.Reach.symm {tl : List Int} (hev : tl.length % 2 = 0) {u v : Int} (h : Sp.Reach tl u v) : Sp.Reach tl v u := by
  refine h.ind (p := fun v => Sp.Reach tl v u) (.refl _) (fun d hd _ ih => ?_)
  have ho := oth_lt hd hev
  have h1 : Sp.Reach tl (tl.getD (Sp.oth d) 0) (tl.getD (Sp.oth (Sp.oth d)) 0) := (Sp.Reach.refl _).step ho
  rw [oth_oth] at h1
  exact h1.trans ih
theorem Sp.Reach.bd {tl : List Int} {n : Int} (ht : ∀ x ∈ tl, 0 ≤ x ∧ x < n) (hev : tl.length % 2 = 0) {u v : Int} (hu : 0 ≤ u ∧ u < n) (h : Sp.Reach tl u v) : 0 ≤ v ∧ v < n :=
  h.ind (p := fun v => 0 ≤ v ∧ v < n) hu (fun _ hd _ _ => ht _ (Sp.getD_mem (oth_lt hd hev)))
/-- One piece on the way: who was found. -/
structure Sp.FI (tl of0 : List Int) (N : Nat) (v p : Int) (of fd : List Int) : Prop where
  len : of.length = N
  fit : RFit N fd
  lab : ∀ w : Nat, w < N → of.getD w 0 = if (w : Int) ∈ fd then p else of0.getD w 0
  rch : ∀ x ∈ fd, Sp.Reach tl v x
theorem Sp.FI.stay {tl of0 : List Int} {N : Nat} {v p : Int} {of fd of' fd' : List Int} (h : Sp.FI tl of0 N v p of fd) (h' : Sp.FI tl of0 N v p of' fd') (hp : p ≠ -1) (hs : ∀ x ∈ fd, x ∈ fd') {w : Nat} (hw : w < N) (hn : of.getD w 0 ≠ -1) : of'.getD w 0 ≠ -1 := by
  rw [h'.lab w hw]
  split
  · exact hp
  · rename_i hm
    rw [h.lab w hw, if_neg (fun h2 => hm (hs _ h2))] at hn
    exact hn
theorem Sp.spread_ok {tl of0 : List Int} {N : Nat} {v p : Int} (hp : p ≠ -1) (ht : ∀ x ∈ tl, 0 ≤ x ∧ x < (N : Int)) (hev : tl.length % 2 = 0) (f : Int) :
    ∀ c d of fd, d + c = tl.length → Sp.FI tl of0 N v p of fd → f ∈ fd →
      Sp.FI tl of0 N v p (Sp.spreadGo tl f p c d of fd).1 (Sp.spreadGo tl f p c d of fd).2 ∧ (∃ m, (Sp.spreadGo tl f p c d of fd).2 = fd ++ m) ∧ ∀ d', d ≤ d' → d' < tl.length → tl.getD d' 0 = f → (Sp.spreadGo tl f p c d of fd).1.getD (tl.getD (Sp.oth d') 0).toNat 0 ≠ -1
  | 0, d, of, fd, hd, h, _ => ⟨h, ⟨[], by simp [Sp.spreadGo]⟩, fun d' h1 h2 => by omega⟩
  | c + 1, d, of, fd, hd, h, hf => by
    have hdl : d < tl.length := by omega
    have hh := ht _ (Sp.getD_mem (oth_lt hdl hev))
    have hhN : (tl.getD (Sp.oth d) 0).toNat < N := by omega
    have hcast : (((tl.getD (Sp.oth d) 0).toNat : Nat) : Int) = tl.getD (Sp.oth d) 0 := by omega
    rw [Sp.spreadGo]
    by_cases hc : tl.getD d 0 = f ∧ of.getD (tl.getD (Sp.oth d) 0).toNat 0 = -1
    · rw [if_pos hc]
      have hnm : ¬ tl.getD (Sp.oth d) 0 ∈ fd := fun hm => by
        have e := h.lab _ hhN
        rw [hcast, if_pos hm, hc.2] at e
        exact hp e.symm
      have hfit := h.fit.snoc (tl.getD (Sp.oth d) 0).toNat hhN (by rw [hcast]; exact hnm)
      rw [hcast] at hfit
      have h' : Sp.FI tl of0 N v p (of.set (tl.getD (Sp.oth d) 0).toNat p) (fd ++ [tl.getD (Sp.oth d) 0]) := by
        refine ⟨by rw [List.length_set]; exact h.len, hfit, fun w hw => ?_, fun x hx => ?_⟩
        · rw [getD_set_eq _ _ _ _ (by rw [h.len]; exact hhN)]
          by_cases e : w = (tl.getD (Sp.oth d) 0).toNat
          · rw [if_pos e, if_pos (List.mem_append_right _ (by rw [e, hcast]; simp))]
          · rw [if_neg e, h.lab w hw]
            by_cases hm : (w : Int) ∈ fd
            · rw [if_pos hm, if_pos (List.mem_append_left _ hm)]
            · rw [if_neg hm, if_neg (fun h2 => by
                rcases List.mem_append.1 h2 with h3 | h3
                · exact hm h3
                · rw [List.mem_singleton] at h3
                  omega)]
        · rcases List.mem_append.1 hx with h3 | h3
          · exact h.rch x h3
          · rw [List.mem_singleton] at h3
            rw [h3]
            refine Sp.Reach.step ?_ hdl
            rw [hc.1]
            exact h.rch f hf
      obtain ⟨r1, ⟨m, r2⟩, r3⟩ := Sp.spread_ok hp ht hev f c (d + 1) _ _ (by omega) h' (List.mem_append_left _ hf)
      refine ⟨r1, ⟨[tl.getD (Sp.oth d) 0] ++ m, by rw [r2, List.append_assoc]⟩, fun d' h1 h2 h3 => ?_⟩
      rcases Nat.lt_or_ge d d' with h4 | h4
      · exact r3 d' (by omega) h2 h3
      · rw [show d' = d by omega]
        rw [r1.lab _ hhN, if_pos (by rw [r2, hcast]; exact List.mem_append_left _ (List.mem_append_right _ (by simp)))]
        exact hp
    · rw [if_neg hc]
      obtain ⟨r1, ⟨m, r2⟩, r3⟩ := Sp.spread_ok hp ht hev f c (d + 1) of fd (by omega) h hf
      refine ⟨r1, ⟨m, r2⟩, fun d' h1 h2 h3 => ?_⟩
      rcases Nat.lt_or_ge d d' with h4 | h4
      · exact r3 d' (by omega) h2 h3
      · rw [show d' = d by omega] at h3 ⊢
        exact h.stay r1 hp (fun x hx => by rw [r2]; exact List.mem_append_left _ hx) hhN (fun e => hc ⟨h3, e⟩)
theorem Sp.flood_ok {tl of0 : List Int} {N : Nat} {v p : Int} (hp : p ≠ -1) (ht : ∀ x ∈ tl, 0 ≤ x ∧ x < (N : Int)) (hev : tl.length % 2 = 0) :
    ∀ g i of fd, i + g = N + 1 → i ≤ fd.length → Sp.FI tl of0 N v p of fd → (∀ j, j < i → ∀ d, d < tl.length → tl.getD d 0 = fd.getD j 0 → of.getD (tl.getD (Sp.oth d) 0).toNat 0 ≠ -1) →
      ∃ fd', Sp.FI tl of0 N v p (Sp.floodGo tl p g i of fd) fd' ∧ (∀ x ∈ fd, x ∈ fd') ∧ ∀ x ∈ fd', ∀ d, d < tl.length → tl.getD d 0 = x → (Sp.floodGo tl p g i of fd).getD (tl.getD (Sp.oth d) 0).toNat 0 ≠ -1
  | 0, i, of, fd, hi, hl, h, _ => by have := h.fit.le; omega
  | g + 1, i, of, fd, hi, hl, h, hd => by
    rw [Sp.floodGo]
    by_cases hc : i < fd.length
    · rw [if_pos hc]
      obtain ⟨r1, ⟨m, r2⟩, r3⟩ := Sp.spread_ok hp ht hev (fd.getD i 0) tl.length 0 of fd (by omega) h (Sp.getD_mem hc)
      obtain ⟨fd', s1, s2, s3⟩ := Sp.flood_ok hp ht hev g (i + 1) _ _ (by omega) (by rw [r2, List.length_append]; omega) r1 (fun j hj d hdl e => by
        have hg : (Sp.spreadGo tl (fd.getD i 0) p tl.length 0 of fd).2.getD j 0 = fd.getD j 0 := by
          rw [r2, List.getD_eq_getElem?_getD, List.getElem?_append_left (by omega), ← List.getD_eq_getElem?_getD]
        rw [hg] at e
        rcases Nat.lt_or_ge j i with h1 | h1
        · refine h.stay r1 hp (fun x hx => by rw [r2]; exact List.mem_append_left _ hx) ?_ (hd j h1 d hdl e)
          have := ht _ (Sp.getD_mem (oth_lt hdl hev))
          omega
        · rw [show j = i by omega] at e
          exact r3 d (Nat.zero_le _) hdl e)
      exact ⟨fd', s1, fun x hx => s2 x (by rw [r2]; exact List.mem_append_left _ hx), s3⟩
    · rw [if_neg hc]
      refine ⟨fd, h, fun _ hx => hx, fun x hx d hdl e => ?_⟩
      obtain ⟨j, hj, ej⟩ := List.mem_iff_getElem.1 hx
      exact hd j (by omega) d hdl (by rw [e, Sp.getD_eq _ _ hj, ej])
/-- One piece whole. -/
theorem Sp.flood_all {tl of0 : List Int} {N : Nat} {v : Nat} {p : Int} (hp : p ≠ -1) (ht : ∀ x ∈ tl, 0 ≤ x ∧ x < (N : Int)) (hev : tl.length % 2 = 0) (hl : of0.length = N) (hv : v < N) (h0 : of0.getD v 0 = -1)
    (hin : ∀ i j : Nat, i < N → j < N → Sp.Reach tl i j → of0.getD i 0 = of0.getD j 0) :
    (Sp.floodGo tl p (N + 1) 0 (of0.set v p) [(v : Int)]).length = N ∧ ∀ w : Nat, w < N → (Sp.Reach tl v w → (Sp.floodGo tl p (N + 1) 0 (of0.set v p) [(v : Int)]).getD w 0 = p) ∧ (¬ Sp.Reach tl v w → (Sp.floodGo tl p (N + 1) 0 (of0.set v p) [(v : Int)]).getD w 0 = of0.getD w 0) := by
  have hfi : Sp.FI tl of0 N v p (of0.set v p) [(v : Int)] := by
    refine ⟨by rw [List.length_set]; exact hl, ⟨by simp, fun x hx => by rw [List.mem_singleton] at hx; omega⟩, fun w hw => ?_, fun x hx => by rw [List.mem_singleton] at hx; rw [hx]; exact .refl _⟩
    rw [getD_set_eq _ _ _ _ (by omega)]
    by_cases e : w = v
    · rw [if_pos e, if_pos (by rw [e]; simp)]
    · rw [if_neg e, if_neg (by rw [List.mem_singleton]; omega)]
  obtain ⟨fd', s1, s2, s3⟩ := Sp.flood_ok hp ht hev (N + 1) 0 (of0.set v p) [(v : Int)] (by omega) (by simp) hfi (fun j hj => by omega)
  generalize Sp.floodGo tl p (N + 1) 0 (of0.set v p) [(v : Int)] = R at *
  have hmem : ∀ x, Sp.Reach tl v x → x ∈ fd' := fun x hx => by
    refine hx.ind (p := fun x => x ∈ fd') (s2 _ (by simp)) (fun d hd hr ih => ?_)
    have hb := ht _ (Sp.getD_mem (oth_lt hd hev))
    have hne := s3 _ ih d hd rfl
    have hN : (tl.getD (Sp.oth d) 0).toNat < N := by omega
    have hcast : (((tl.getD (Sp.oth d) 0).toNat : Nat) : Int) = tl.getD (Sp.oth d) 0 := by omega
    rw [s1.lab _ hN, hcast] at hne
    by_cases hm : tl.getD (Sp.oth d) 0 ∈ fd'
    · exact hm
    · rw [if_neg hm] at hne
      have e := hin v _ hv hN (by rw [hcast]; exact hr.step hd)
      exact absurd (by rw [← e]; exact h0) hne
  refine ⟨s1.len, fun w hw => ⟨fun hr => ?_, fun hr => ?_⟩⟩
  · rw [s1.lab w hw, if_pos (hmem _ hr)]
  · rw [s1.lab w hw, if_neg (fun hm => hr (s1.rch _ hm))]
theorem Sp.partsGo_st {tl : List Int} {N : Nat} (ht : ∀ x ∈ tl, 0 ≤ x ∧ x < (N : Int)) (hev : tl.length % 2 = 0) : ∀ c v of p, v + c = N → Sp.NSt N (fun i j => Sp.Reach tl i j) v of p → Sp.NSt N (fun i j => Sp.Reach tl i j) N (Sp.partsGo tl N c v of p).1 (Sp.partsGo tl N c v of p).2
  | 0, v, of, p, hv, h => by have e : N = v := by omega
                             subst e; exact h
  | c + 1, v, of, p, hv, h => by
    rw [Sp.partsGo]
    by_cases h0 : of.getD v 0 = -1
    · rw [if_pos h0]
      obtain ⟨f1, f2⟩ := Sp.flood_all (p := (p : Int)) (by omega) ht hev h.len (show v < N by omega) h0 h.inv
      exact Sp.partsGo_st ht hev c (v + 1) _ (p + 1) (by omega) (h.new (fun i => .refl _) (fun i j _ _ hr => hr.symm hev) (fun i j l h1 h2 => h1.trans h2) (by omega) h0 f1 (fun i hi hr => (f2 i hi).1 hr) (fun i hi hr => (f2 i hi).2 hr))
    · rw [if_neg h0]
      exact Sp.partsGo_st ht hev c (v + 1) of p (by omega) (h.old (by omega) h0)
/-- What Parts tells. -/
theorem Sp.pieces_st {q : Sp.Net} (hn : 0 ≤ q.n) (ht : ∀ x ∈ q.tail, 0 ≤ x ∧ x < q.n) (hev : q.tail.length % 2 = 0) : Sp.NSt q.n.toNat (fun i j => Sp.Reach q.tail i j) q.n.toNat (Sp.pieces q).1 (Sp.pieces q).2 := by
  unfold Sp.pieces
  exact Sp.partsGo_st (fun x hx => by have := ht x hx; omega) hev _ 0 _ 0 (by omega) (Sp.NSt.first _ _)
theorem Sp.pieces_one {q : Sp.Net} (hn : 1 ≤ q.n) (ht : ∀ x ∈ q.tail, 0 ≤ x ∧ x < q.n) (hev : q.tail.length % 2 = 0) (hc : ∀ v, 0 ≤ v → v < q.n → Sp.Reach q.tail 0 v) : (Sp.pieces q).2 = 1 := by
  have h := Sp.pieces_st (by omega) ht hev
  generalize (Sp.pieces q).1 = of at h
  generalize (Sp.pieces q).2 = k at h ⊢
  have e0 : of.getD 0 0 = 0 := by
    have h1 := h.num.rg.nn 0 (by rw [h.len]; omega)
    rcases Int.lt_or_le 0 (of.getD 0 0) with h2 | h2
    · obtain ⟨j, h3, -⟩ := h.num.rg.sm 0 (by rw [h.len]; omega) 0 (Int.le_refl _) h2
      omega
    · omega
  have hpos : 0 < k := by
    have := h.num.lt 0 (by rw [h.len]; omega)
    omega
  rcases Nat.lt_or_ge 1 k with h1 | h1
  · obtain ⟨i, h2, h3⟩ := h.num.on 1 h1
    rw [h.len] at h2
    have h4 := h.inv 0 i (by omega) h2 (hc i (by omega) (by omega))
    omega
  · omega
end Go.Proofs.Ytnkkgeammohemab


/- What the reference's Parts comes to: the same as the program's. -/
namespace Go.Proofs.Ytnkkgeammohemab
open Go Go.RowKit

def isum : List Int → Int
  | [] => 0
  | a :: t => a + isum t
theorem isum_set : ∀ (l : List Int) (i : Nat) (x : Int), i < l.length → isum (l.set i x) = isum l - l.getD i 0 + x
  | [], _, _, h => by simp at h
  | a :: t, 0, x, _ => by
    show x + isum t = a + isum t - a + x
    omega
  | a :: t, i + 1, x, h => by
    show a + isum (t.set i x) = a + isum t - t.getD i 0 + x
    rw [isum_set t i x (by simpa using h)]
    omega
theorem isum_nn : ∀ (l : List Int), (∀ x ∈ l, 0 ≤ x) → 0 ≤ isum l
  | [], _ => Int.le_refl _
  | a :: t, h => by
    have h1 := h a (by simp)
    have h2 := isum_nn t (fun x hx => h x (by simp [hx]))
    show 0 ≤ a + isum t
    omega
theorem isum_le (b : Nat) : ∀ (l : List Int), (∀ x ∈ l, x ≤ (b : Int)) → isum l ≤ ((l.length * b : Nat) : Int)
  | [], _ => by simp [isum]
  | a :: t, h => by
    have h1 := h a (by simp)
    have h2 := isum_le b t (fun x hx => h x (by simp [hx]))
    show a + isum t ≤ (((t.length + 1) * b : Nat) : Int)
    rw [Nat.succ_mul]
    omega
/-- Each vertex's label: one that is reached, no greater. -/
structure Sp.RInv (tl of : List Int) (N : Nat) : Prop where
  len : of.length = N
  bd : ∀ v, v < N → 0 ≤ of.getD v 0 ∧ of.getD v 0 ≤ (v : Int)
  rch : ∀ v : Nat, v < N → Sp.Reach tl v (of.getD v 0)
theorem Sp.RInv.nn {tl of : List Int} {N : Nat} (h : Sp.RInv tl of N) : 0 ≤ isum of := isum_nn of fun x hx => by
  obtain ⟨i, hi, rfl⟩ := List.mem_iff_getElem.1 hx
  rw [← Sp.getD_eq]
  exact (h.bd i (by rw [← h.len]; exact hi)).1
theorem Sp.RInv.le {tl of : List Int} {N : Nat} (h : Sp.RInv tl of N) : isum of ≤ ((N * N : Nat) : Int) := by
  have := isum_le N of fun x hx => by
    obtain ⟨i, hi, rfl⟩ := List.mem_iff_getElem.1 hx
    rw [← Sp.getD_eq]
    have hi' : i < N := by rw [← h.len]; exact hi
    have := (h.bd i hi').2
    omega
  rw [h.len] at this
  exact this
theorem Sp.RInv.set {tl of : List Int} {N : Nat} (h : Sp.RInv tl of N) (ht : ∀ x ∈ tl, 0 ≤ x ∧ x < (N : Int)) (hev : tl.length % 2 = 0) {d : Nat} (hd : d < tl.length) (hlt : of.getD (tl.getD d 0).toNat 0 < of.getD (tl.getD (Sp.oth d) 0).toNat 0) :
    Sp.RInv tl (of.set (tl.getD (Sp.oth d) 0).toNat (of.getD (tl.getD d 0).toNat 0)) N ∧ isum (of.set (tl.getD (Sp.oth d) 0).toNat (of.getD (tl.getD d 0).toNat 0)) < isum of := by
  have ho := oth_lt hd hev
  have ha := ht _ (Sp.getD_mem hd)
  have hb := ht _ (Sp.getD_mem ho)
  have haN : (tl.getD d 0).toNat < N := by omega
  have hbN : (tl.getD (Sp.oth d) 0).toNat < N := by omega
  have hba : Sp.Reach tl (tl.getD (Sp.oth d) 0) (tl.getD d 0) := by
    have h1 : Sp.Reach tl (tl.getD (Sp.oth d) 0) (tl.getD (Sp.oth (Sp.oth d)) 0) := (Sp.Reach.refl _).step ho
    rw [oth_oth] at h1
    exact h1
  refine ⟨⟨by rw [List.length_set]; exact h.len, fun v hv => ?_, fun v hv => ?_⟩, ?_⟩
  · rw [getD_set_eq _ _ _ _ (by rw [h.len]; exact hbN)]
    by_cases e : v = (tl.getD (Sp.oth d) 0).toNat
    · rw [if_pos e]
      have h1 := h.bd _ haN
      have h2 := h.bd _ hbN
      omega
    · rw [if_neg e]
      exact h.bd v hv
  · rw [getD_set_eq _ _ _ _ (by rw [h.len]; exact hbN)]
    by_cases e : v = (tl.getD (Sp.oth d) 0).toNat
    · rw [if_pos e, show (v : Int) = tl.getD (Sp.oth d) 0 by omega]
      have h1 := h.rch _ haN
      rw [show (((tl.getD d 0).toNat : Nat) : Int) = tl.getD d 0 by omega] at h1
      exact hba.trans h1
    · rw [if_neg e]
      exact h.rch v hv
  · rw [isum_set _ _ _ (by rw [h.len]; exact hbN)]
    omega
/-- No dart leads to a greater label. -/
def Sp.Still (tl of : List Int) (n : Nat) : Prop := ∀ d, d < n → of.getD (tl.getD (Sp.oth d) 0).toNat 0 ≤ of.getD (tl.getD d 0).toNat 0
theorem Sp.Still.reach {tl of : List Int} (h : Sp.Still tl of tl.length) (hev : tl.length % 2 = 0) {u v : Int} (hr : Sp.Reach tl u v) : of.getD u.toNat 0 = of.getD v.toNat 0 := by
  refine hr.ind (p := fun v => of.getD u.toNat 0 = of.getD v.toNat 0) rfl (fun d hd _ ih => ?_)
  have h1 := h d hd
  have h2 := h (Sp.oth d) (oth_lt hd hev)
  rw [oth_oth] at h2
  omega
/-- The numbers, laid so far. -/
structure Sp.NumS (of num : List Int) (N v k : Nat) : Prop where
  len : num.length = N
  bd : ∀ i, i < v → 0 ≤ num.getD i 0 ∧ num.getD i 0 < (k : Int)
  same : ∀ i j, i < v → j < v → (num.getD i 0 = num.getD j 0 ↔ of.getD i 0 = of.getD j 0)
  rg : ∀ i, i < v → ∀ c, 0 ≤ c → c < num.getD i 0 → ∃ j, j < i ∧ num.getD j 0 = c
  on : ∀ c : Nat, c < k → ∃ i, i < v ∧ num.getD i 0 = (c : Int)
theorem Sp.NumS.first (of : List Int) (N : Nat) : Sp.NumS of (List.replicate N 0) N 0 0 := ⟨by simp, fun i hi => by omega, fun i j hi => by omega, fun i hi => by omega, fun c hc => by omega⟩
theorem Sp.NumS.new {tl of num : List Int} {N v k : Nat} (h : Sp.NumS of num N v k) (hi : Sp.RInv tl of N) (hv : v < N) (he : of.getD v 0 = (v : Int)) : Sp.NumS of (num.set v (k : Int)) N (v + 1) (k + 1) := by
  have hg : ∀ i, (num.set v (k : Int)).getD i 0 = if i = v then (k : Int) else num.getD i 0 := fun i => getD_set_eq num i v k (by rw [h.len]; exact hv)
  have hne : ∀ i, i < v → of.getD i 0 ≠ of.getD v 0 := fun i h1 => by have := (hi.bd i (by omega)).2; omega
  refine ⟨by rw [List.length_set]; exact h.len, fun i h1 => ?_, fun i j h1 h2 => ?_, fun i h1 c c0 c1 => ?_, fun c hc => ?_⟩
  · rw [hg]
    split
    · omega
    · have := h.bd i (by omega); omega
  · rw [hg, hg]
    by_cases e1 : i = v <;> by_cases e2 : j = v
    · rw [if_pos e1, if_pos e2, e1, e2]; exact ⟨fun _ => rfl, fun _ => rfl⟩
    · rw [if_pos e1, if_neg e2, e1]
      have := h.bd j (by omega)
      have := hne j (by omega)
      exact ⟨fun e => by omega, fun e => absurd e.symm this⟩
    · rw [if_neg e1, if_pos e2, e2]
      have := h.bd i (by omega)
      have := hne i (by omega)
      exact ⟨fun e => by omega, fun e => absurd e this⟩
    · rw [if_neg e1, if_neg e2]; exact h.same i j (by omega) (by omega)
  · rw [hg] at c1
    by_cases e1 : i = v
    · rw [if_pos e1] at c1
      obtain ⟨j, h2, h3⟩ := h.on c.toNat (by omega)
      exact ⟨j, by omega, by rw [hg, if_neg (by omega), h3]; omega⟩
    · rw [if_neg e1] at c1
      obtain ⟨j, h2, h3⟩ := h.rg i (by omega) c c0 c1
      exact ⟨j, h2, by rw [hg, if_neg (by omega)]; exact h3⟩
  · by_cases e : c = k
    · exact ⟨v, by omega, by rw [hg, if_pos rfl, e]⟩
    · obtain ⟨i, h2, h3⟩ := h.on c (by omega)
      exact ⟨i, by omega, by rw [hg, if_neg (by omega)]; exact h3⟩
theorem Sp.NumS.old {tl of num : List Int} {N v k u : Nat} (h : Sp.NumS of num N v k) (hi : Sp.RInv tl of N) (hs : Sp.Still tl of tl.length) (hev : tl.length % 2 = 0) (hv : v < N) (hu : of.getD v 0 = (u : Int)) (hne : u ≠ v) : u < v ∧ Sp.NumS of (num.set v (num.getD u 0)) N (v + 1) k := by
  have huv : u < v := by have := (hi.bd v hv).2; omega
  have he : of.getD u 0 = of.getD v 0 := by
    have h1 := hs.reach hev (hi.rch v hv)
    rw [hu, Int.toNat_natCast, Int.toNat_natCast] at h1
    exact h1.symm
  have hg : ∀ i, (num.set v (num.getD u 0)).getD i 0 = if i = v then num.getD u 0 else num.getD i 0 := fun i => getD_set_eq num i v _ (by rw [h.len]; exact hv)
  refine ⟨huv, by rw [List.length_set]; exact h.len, fun i h1 => ?_, fun i j h1 h2 => ?_, fun i h1 c c0 c1 => ?_, fun c hc => ?_⟩
  · rw [hg]
    split
    · exact h.bd u huv
    · exact h.bd i (by omega)
  · rw [hg, hg]
    by_cases e1 : i = v <;> by_cases e2 : j = v
    · rw [if_pos e1, if_pos e2, e1, e2]; exact ⟨fun _ => rfl, fun _ => rfl⟩
    · rw [if_pos e1, if_neg e2, e1, ← he]; exact h.same u j huv (by omega)
    · rw [if_neg e1, if_pos e2, e2, ← he]; exact h.same i u (by omega) huv
    · rw [if_neg e1, if_neg e2]; exact h.same i j (by omega) (by omega)
  · rw [hg] at c1
    by_cases e1 : i = v
    · rw [if_pos e1] at c1
      obtain ⟨j, h2, h3⟩ := h.rg u huv c c0 c1
      exact ⟨j, by omega, by rw [hg, if_neg (by omega)]; exact h3⟩
    · rw [if_neg e1] at c1
      obtain ⟨j, h2, h3⟩ := h.rg i (by omega) c c0 c1
      exact ⟨j, h2, by rw [hg, if_neg (by omega)]; exact h3⟩
  · obtain ⟨i, h2, h3⟩ := h.on c hc
    exact ⟨i, by omega, by rw [hg, if_neg (by omega)]; exact h3⟩
theorem Sp.NumS.last {tl of num : List Int} {N k : Nat} (h : Sp.NumS of num N N k) (hi : Sp.RInv tl of N) (hs : Sp.Still tl of tl.length) (hev : tl.length % 2 = 0) : Sp.NSt N (fun i j => Sp.Reach tl i j) N num k := by
  refine ⟨h.len, fun i hi' => .inr (h.bd i hi'), fun i hi' => (h.bd i hi').1, fun i j h1 h2 hr => ?_, fun i j h1 h2 _ e => ?_, h.rg, h.on⟩
  · refine (h.same i j h1 h2).2 ?_
    have := hs.reach hev hr
    rw [Int.toNat_natCast, Int.toNat_natCast] at this
    exact this
  · have e2 := (h.same i j h1 h2).1 e
    have a1 := hi.rch i h1
    have a2 := hi.rch j h2
    rw [← e2] at a2
    exact a1.trans (a2.symm hev)
/-- The labels at first: each vertex its own. -/
theorem Sp.RInv.first {tl of : List Int} {N : Nat} (hl : of.length = N) (h : ∀ v, v < N → of.getD v 0 = (v : Int)) : Sp.RInv tl of N :=
  ⟨hl, fun v hv => by rw [h v hv]; omega, fun v hv => by rw [h v hv]; exact .refl _⟩
end Go.Proofs.Ytnkkgeammohemab


/- The walk of the second reference's Parts. -/
namespace Go.Proofs.Ytnkkgeammohemab
open Go Go.RowKit

theorem range_set (n j : Nat) (hj : j < n) : (((List.range j).map fun v : Nat => (v : Int)) ++ List.replicate (n - j) 0).set j (j : Int) = ((List.range (j + 1)).map fun v : Nat => (v : Int)) ++ List.replicate (n - (j + 1)) 0 := by
  rw [List.set_append_right _ _ (by simp), List.range_succ, List.map_append, List.append_assoc]
  congr 1
  obtain ⟨m, hm⟩ : ∃ m, n - j = m + 1 := ⟨n - j - 1, by omega⟩
  rw [hm, show n - (j + 1) = m by omega, List.replicate_succ]
  simp
theorem range_getD (n v : Nat) (hv : v < n) : ((List.range n).map fun v : Nat => (v : Int)).getD v 0 = (v : Int) := by
  rw [Sp.getD_eq _ _ (by simpa using hv)]
  simp
theorem PKeep.far {B O N : Nat} {W wr : World} {of : List Int} (h : PKeep B O N W wr of) {g : Nat} (hg : O < g) (i : Nat) (x : Value) : PKeep B O N W (wr.setCell ⟨g, i, none⟩ x) of := by
  have hge := h.ge
  exact ⟨h.len, own_but h.own ((ButRow.refl g wr).setCell i x) (fun e => by injection e with e; have e' : O = g := e; omega), h.bel.setCell (by show B ≤ g; omega) _, by simpa using h.lt, h.ge⟩
set_option maxRecDepth 100000 in
set_option maxHeartbeats 4000000 in
theorem parts2_any (q : Sp.Net) (v tv nv cv : Value) (w : World) (hv : NetI w v q tv nv cv) (hw : Sp.walkB q = true) :
    Calls Try.prog 41 #[v] w fun e w' => ∃ fv, e = .returned (.tuple #[fv, .int .i64 (((Sp.pieces q).2 : Nat) : Int)]) ∧ OwnI w' w.heap.size fv (Sp.pieces q).1 ∧ Below w.heap.size w w' := by
  have hq := walkQ hw
  have hv' := hv
  obtain ⟨rfl, h1, h2, h3⟩ := hv
  obtain ⟨ta, tc, rfl, htc, htm⟩ := h1.form
  obtain ⟨na, nc, rfl, -, -⟩ := h2.form
  obtain ⟨ca, cc, rfl, -, -⟩ := h3.form
  clear h1 h2 h3
  obtain ⟨N, hN⟩ : ∃ N : Nat, q.n = (N : Int) := ⟨q.n.toNat, by have := hq.n0; omega⟩
  have hN60 : N ≤ 60 := by have := hq.n1; omega
  have HPS := hide (Sp.pieces_st hq.n0 hq.tb hq.ev)
  rw [hN, Int.toNat_natCast] at HPS
  have HBX := hide (box_new w q.n (.slice ta q.tail.length tc) (.slice na q.next.length nc) (.slice ca q.cap.length cc))
  obtain ⟨W1, hW1⟩ : ∃ W1, W1 = w.alloc (.cells #[.int .i64 q.n, .slice ta q.tail.length tc, .slice na q.next.length nc, .slice ca q.cap.length cc] 25) := ⟨_, rfl⟩
  rw [← hW1] at HBX
  have hb1 : Below w.heap.size w W1 := by rw [hW1]; exact (Below.refl _ w).alloc (Nat.le_refl _) _
  have hs1 : W1.heap.size = w.heap.size + 1 := by rw [hW1]; simp
  have HW : Hid (∀ w', Below (w.heap.size + 1) W1 w' → Below w.heap.size w w') := hide fun w' hb => hb1.trans (hb.mono (by omega))
  have HS1 := hide hs1
  have HV : Hid (∀ w', Below (w.heap.size + 1) W1 w' → NetI w' (.agg #[.int .i64 q.n, .slice ta q.tail.length tc, .slice na q.next.length nc, .slice ca q.cap.length cc]) q (.slice ta q.tail.length tc) (.slice na q.next.length nc) (.slice ca q.cap.length cc)) := hide fun w' hb => by
    have hb0 := unhide HW w' hb
    exact ⟨rfl, hv'.tail.below hb0, hv'.next.below hb0, hv'.cap.below hb0⟩
  have HQ := hide hq
  have HTb : Hid (∀ x ∈ q.tail, 0 ≤ x ∧ x < (N : Int)) := hide (by rw [← hN]; exact hq.tb)
  obtain ⟨P, hP⟩ : ∃ P : Ending → World → Prop, P = fun e w' => ∃ fv, e = .returned (.tuple #[fv, .int .i64 (((Sp.pieces q).2 : Nat) : Int)]) ∧ OwnI w' w.heap.size fv (Sp.pieces q).1 ∧ Below w.heap.size w w' := ⟨_, rfl⟩
  rw [← hP]
  have HP := hide hP
  clear hP
  rw [hN] at HBX HV hW1 ⊢
  obtain ⟨x0, x1, x2, x3, -⟩ := unhide HBX W1 (Below.refl _ _)
  have HHd := hide (fun (y : Nat) w' (hy : y < q.tail.length) (hb : Below (w.heap.size + 1) W1 w') => head2_any q _ _ _ _ y w' (unhide HV w' hb) hy hq.ev hq.big)
  have HTc := hide (fun w' (hb : Below (w.heap.size + 1) W1 w') => (unhide HV w' hb).tail)
  have hb240 := hq.big
  generalize hln : q.tail.length = ln at *
  have Hln := hide hln
  clear hb1 hs1 hv' hq hN hln
  subst hW1
  go_enter Try.func41, Try.ntmps41
  go_wp2_with (at_make; refine wpList_mk rfl _ _ rfl (w.heap.size + 1) N rfl rfl (by omega) (by simp) ?_)
  intro w5 hown5 hb5 hlt5
  clear x0 x1 x2 x3
  generalize w.alloc (.cells #[.int .i64 (N : Int), .slice ta ln tc, .slice na q.next.length nc, .slice ca q.cap.length cc] 25) = W1 at *
  have HK0 : Hid (PKeep (w.heap.size + 1) (w.heap.size + 1) N W1 w5 (List.replicate N 0)) := hide ⟨List.length_replicate, hown5, hb5, by have := (hown5.lt (w.heap.size + 1) rfl).2; exact this, Nat.le_refl _⟩
  clear hown5 hb5 hlt5
  obtain ⟨x0, -, -, -, -⟩ := unhide HBX w5 (unhide HK0).bel
  go_wp2
  go_loopg [5] N (fun g i wr => ∃ j : Nat, j + g = N ∧ i = .int .i64 (j : Int) ∧ Hid (PKeep (w.heap.size + 1) (w.heap.size + 1) N W1 wr (((List.range j).map fun v : Nat => (v : Int)) ++ List.replicate (N - j) 0)))
  case atStart => exact ⟨0, by omega, rfl, by simpa using HK0⟩
  case round =>
    obtain ⟨j, hjg, rfl, HJ⟩ := hrel
    obtain ⟨x0, x1, x2, x3, -⟩ := unhide HBX wr (unhide HJ).bel
    cases gk with
    | succ g' =>
      have hjN : j < N := by omega
      have hjI : (j : Int) < (N : Int) := by omega
      have c1 := own_cell (unhide HJ).own j (by rw [(unhide HJ).len]; exact hjN)
      have f1 := own_frozen (unhide HJ).own j
      generalize (((List.range j).map fun v : Nat => (v : Int)) ++ List.replicate (N - j) 0)[j]'_ = z at *
      have HJ2 := hide ((unhide HJ).set j (j : Int))
      rw [range_set N j hjN] at HJ2
      clear HK0 HJ
      go_wp2
      go_roundg g'
      case rel => exact ⟨j + 1, by omega, by go_num, HJ2⟩
      case measure => omega
    | zero =>
      have hje : j = N := by omega
      rw [hje] at HJ ⊢
      rw [Nat.sub_self, List.replicate_zero, List.append_nil] at HJ
      have HI0 : Hid (Sp.RInv q.tail ((List.range N).map fun v : Nat => (v : Int)) N) := hide (Sp.RInv.first (by simp) fun v hv => range_getD N v hv)
      clear hje hjg HK0 x1 x2 x3
      generalize ((List.range N).map fun v : Nat => (v : Int)) = of0 at *
      have hG : isum of0 < (3601 : Nat) := by
        have h1 := (unhide HI0).le
        have h2 : N * N ≤ 60 * 60 := Nat.mul_le_mul hN60 hN60
        omega
      go_wp2_with fail
      go_loopg [6] 3601 (fun g s6 wr => ∃ (b : Bool) (of : List Int), s6 = .bool b ∧ Hid (PKeep (w.heap.size + 1) (w.heap.size + 1) N W1 wr of ∧ Sp.RInv q.tail of N ∧ (b = true → isum of < (g : Int)) ∧ (b = false → Sp.Still q.tail of ln)))
      case atStart => exact ⟨true, of0, rfl, hide ⟨unhide HJ, unhide HI0, fun _ => hG, fun h => by cases h⟩⟩
      case round =>
        obtain ⟨b, of, rfl, HO⟩ := hrel
        clear HJ HI0 hG
        cases b with
        | true =>
          cases gk with
          | zero =>
            have h1 := (unhide HO).2.2.1 rfl
            have h2 := (unhide HO).2.1.nn
            omega
          | succ g' =>
            have hsO := (unhide HO).2.2.1 rfl
            go_wp2_with fail
            go_loopg [6, 7] ln (fun g s6 s7 wr => ∃ (d : Nat) (b : Bool) (of' : List Int), d + g = ln ∧ s7 = .int .i64 (d : Int) ∧ s6 = .bool b ∧ Hid (PKeep (w.heap.size + 1) (w.heap.size + 1) N W1 wr of' ∧ Sp.RInv q.tail of' N ∧ isum of' ≤ isum of ∧ (b = true → isum of' < isum of) ∧ (b = false → Sp.Still q.tail of' d)))
            case atStart => exact ⟨0, false, of, by omega, rfl, rfl, hide ⟨(unhide HO).1, (unhide HO).2.1, Int.le_refl _, (fun h => by cases h), fun _ d hd => by omega⟩⟩
            case round =>
              obtain ⟨d, b, of', hdg, rfl, rfl, HD⟩ := hrel
              obtain ⟨x0, x1, x2, x3, -⟩ := unhide HBX wr (unhide HD).1.bel
              cases gk with
              | zero =>
                have hde : d = ln := by omega
                rw [hde] at HD ⊢
                clear hde hdg
                have HR : Hid (PKeep (w.heap.size + 1) (w.heap.size + 1) N W1 wr of' ∧ Sp.RInv q.tail of' N ∧ (b = true → isum of' < (g' : Int)) ∧ (b = false → Sp.Still q.tail of' ln)) := hide ⟨(unhide HD).1, (unhide HD).2.1, fun hb => by have := (unhide HD).2.2.2.1 hb; omega, (unhide HD).2.2.2.2⟩
                clear HD HO hsO x0 x2 x3
                go_wp2
                go_roundg g'
                case rel => exact ⟨b, of', rfl, HR⟩
                case measure => omega
              | succ g2 =>
                have hdl : d < ln := by omega
                have hdI : (d : Int) < (ln : Int) := by omega
                have hdt : d < q.tail.length := by rw [unhide Hln]; exact hdl
                have hot : Sp.oth d < q.tail.length := oth_lt hdt (unhide HQ).ev
                have hA := unhide HTb _ (Sp.getD_mem hdt)
                have hB := unhide HTb _ (Sp.getD_mem hot)
                have HSet := hide (fun h => (unhide HD).2.1.set (unhide HTb) (unhide HQ).ev hdt h)
                obtain ⟨A, hAe⟩ : ∃ A : Nat, q.tail.getD d 0 = (A : Int) := ⟨(q.tail.getD d 0).toNat, by omega⟩
                obtain ⟨Bn, hBe⟩ : ∃ Bn : Nat, q.tail.getD (Sp.oth d) 0 = (Bn : Int) := ⟨(q.tail.getD (Sp.oth d) 0).toNat, by omega⟩
                have HH := hide (fun w' hb => unhide HHd d w' hdl hb)
                have HStl : Hid (of'.getD Bn 0 ≤ of'.getD A 0 → b = false → Sp.Still q.tail of' (d + 1)) := hide fun h1 h2 d' hd' => by
                  rcases Nat.lt_or_ge d' d with h3 | h3
                  · exact (unhide HD).2.2.2.2 h2 d' h3
                  · rw [show d' = d by omega, hAe, hBe, Int.toNat_natCast, Int.toNat_natCast]; exact h1
                rw [hAe, hBe, Int.toNat_natCast, Int.toNat_natCast] at HSet
                rw [hBe] at HH
                rw [hAe] at hA
                rw [hBe] at hB
                obtain ⟨tb, tt, hta, HTd⟩ : ∃ tb tt, ta = some ⟨tb, tt, none⟩ ∧ Hid (∀ w', Below (w.heap.size + 1) W1 w' → w'.cell? ⟨tb, tt + d, none⟩ = some (.int .i64 (A : Int))) := by
                  obtain ⟨a', c', e, -, -, hc⟩ := (unhide HTc W1 (Below.refl _ _)).all
                  obtain ⟨b', o', e2, -, -⟩ := unhide hc d hdt
                  injection e with e1
                  rw [← e1] at e2
                  refine ⟨b', o', e2, hide fun w' hb => ?_⟩
                  obtain ⟨a3, c3, e3, -, -, hc3⟩ := (unhide HTc w' hb).all
                  obtain ⟨b4, o4, e4, -, h4⟩ := unhide hc3 d hdt
                  injection e3 with e3
                  rw [← e3, e2] at e4
                  injection e4 with e4
                  injection e4 with e5 e6
                  subst e5 e6
                  rw [h4 w' (Below.refl _ _), ← Sp.getD_eq, hAe]
                subst hta
                have HbW := hide (unhide HD).1.bel
                have HLow : Hid (∀ wx, Below wr.heap.size wr wx → Below (w.heap.size + 1) W1 wx) := hide fun wx hb => (unhide HbW).trans (hb.mono (by have := (unhide HbW).size; rw [unhide HS1] at this; exact this))
                have hAN : A < N := by omega
                have hBN : Bn < N := by omega
                have hbr : Below wr.heap.size wr wr.drew := (Below.refl _ _).drew
                clear hA hB hAe hBe HO hsO x0 x1 x2 x3
                obtain ⟨x0, x1, x2, x3, -⟩ := unhide HBX wr (unhide HbW)
                go_upto_region 12 with fail
                clear x0 x1 x2 x3
                go_cut [8, 9] (fun s8 s9 wx => s8 = .int .i64 (A : Int) ∧ s9 = .int .i64 (Bn : Int) ∧ Hid (Below wr.heap.size wr wx))
                case first =>
                  go_region_held3 (fun w' => w'.cell? ⟨w.heap.size, 0, none⟩ = some (.int .i64 (N : Int)) ∧ w'.cell? ⟨w.heap.size, 1, none⟩ = some (.slice (some ⟨tb, tt, none⟩) ln tc) ∧ w'.cell? ⟨w.heap.size, 2, none⟩ = some (.slice na q.next.length nc) ∧ w'.cell? ⟨w.heap.size, 3, none⟩ = some (.slice ca q.cap.length cc) ∧ w'.cell? ⟨tb, tt + d, none⟩ = some (.int .i64 (A : Int)))
                    (first
                      | exact ⟨(unhide HBX _ (unhide HLow _ hb8)).1, (unhide HBX _ (unhide HLow _ hb8)).2.1, (unhide HBX _ (unhide HLow _ hb8)).2.2.1, (unhide HBX _ (unhide HLow _ hb8)).2.2.2.1, unhide HTd _ (unhide HLow _ hb8)⟩
                      | exact ⟨(unhide HBX _ (unhide HLow _ hbr)).1, (unhide HBX _ (unhide HLow _ hbr)).2.1, (unhide HBX _ (unhide HLow _ hbr)).2.2.1, (unhide HBX _ (unhide HLow _ hbr)).2.2.2.1, unhide HTd _ (unhide HLow _ hbr)⟩)
                    (first
                      | (go_at_call 46
                         refine (unhide HH _ (unhide HLow _ hbr)).mono ?_
                         rintro e w8 ⟨rfl, hl8⟩
                         have hb8 : Below wr.heap.size wr w8 := hbr.trans hl8))
                  all_goals
                    go_wp2
                    go_meet
                    exact ⟨rfl, rfl, hide hb8⟩
                case rest =>
                  obtain ⟨wP, rfl⟩ : ∃ wP, wP = wc := ⟨_, rfl⟩
                  obtain ⟨rfl, rfl, HbP⟩ := hcut
                  have HKp := hide ((unhide HD).1.below (unhide HbP))
                  have HRi := hide (And.intro (unhide HD).2.1 (And.intro (unhide HD).2.2.1 (unhide HD).2.2.2.1))
                  have hlo := (unhide HD).2.1.len
                  have c1 := own_cell (unhide HKp).own Bn (by rw [hlo]; exact hBN)
                  have c2 := own_cell (unhide HKp).own A (by rw [hlo]; exact hAN)
                  rw [← Sp.getD_eq] at c1 c2
                  have f1 := own_frozen (unhide HKp).own Bn
                  have HK2 := hide (fun nq => (unhide HKp).below (below_dn (Below.refl _ _) nq))
                  have hAI : (A : Int) < (N : Int) := by omega
                  have hBI : (Bn : Int) < (N : Int) := by omega
                  clear HD hlo hbr HbW HLow HbP
                  by_cases hlt : of'.getD A 0 < of'.getD Bn 0
                  · have HS2 := hide (unhide HSet hlt)
                    have HK3 := hide (fun nq => (unhide HK2 nq).set Bn (of'.getD A 0))
                    clear HSet HStl
                    generalize of'.getD A 0 = oA at *
                    generalize of'.getD Bn 0 = oB at *
                    have hd1 : decide (oA < oB) = true := decide_eq_true hlt
                    have hd2 : decide (oB > oA) = true := decide_eq_true hlt
                    go_wp2
                    go_quiet (fail)
                    have c1' : (wP.drewN nq).cell? ⟨w.heap.size + 1, Bn, none⟩ = some (.int .i64 oB) := c1
                    have c2' : (wP.drewN nq).cell? ⟨w.heap.size + 1, A, none⟩ = some (.int .i64 oA) := c2
                    have f1' : (wP.drewN nq).frozen? ⟨w.heap.size + 1, Bn, none⟩ = false := f1
                    have HK4 := hide (unhide HK3 nq)
                    clear c1 c2 f1 HK3 HK2 HKp
                    generalize wP.drewN nq = wq at *
                    go_wp2
                    go_roundg g2
                    case rel => exact ⟨d + 1, true, _, by omega, by go_num, rfl, hide ⟨unhide HK4, (unhide HS2).1, by have := (unhide HS2).2; have := (unhide HRi).2.1; omega, fun _ => by have := (unhide HS2).2; have := (unhide HRi).2.1; omega, fun h => by cases h⟩⟩
                    case measure => omega
                  · have HS2 := hide (unhide HStl (by omega))
                    clear HSet HStl
                    generalize of'.getD A 0 = oA at *
                    generalize of'.getD Bn 0 = oB at *
                    have hd1 : decide (oA < oB) = false := decide_eq_false hlt
                    have hd2 : decide (oB > oA) = false := decide_eq_false hlt
                    go_wp2
                    go_quiet (fail)
                    have HK4 := hide (unhide HK2 nq)
                    clear c1 c2 f1 HK2 HKp
                    generalize wP.drewN nq = wq at *
                    go_wp2
                    go_roundg g2
                    case rel => exact ⟨d + 1, b, of', by omega, by go_num, rfl, hide ⟨unhide HK4, (unhide HRi).1, (unhide HRi).2.1, (unhide HRi).2.2, unhide HS2⟩⟩
                    case measure => omega
        | false =>
          have HKO := hide (unhide HO).1
          have HRI := hide (unhide HO).2.1
          have HSt : Hid (Sp.Still q.tail of q.tail.length) := hide (by rw [unhide Hln]; exact (unhide HO).2.2.2 rfl)
          obtain ⟨x0, x1, x2, x3, -⟩ := unhide HBX wr (unhide HKO).bel
          have hOG : w.heap.size + 1 < wr.heap.size := (unhide HKO).lt
          clear HO x1 x2 x3
          go_wp2_with (at_make; refine wpList_mk rfl _ _ rfl wr.heap.size N rfl rfl (by omega) (Nat.le_refl _) ?_)
          intro w6 hown6 hb6 hlt6
          have HK6 : Hid (PKeep (w.heap.size + 1) (w.heap.size + 1) N W1 w6 of ∧ OwnI w6 wr.heap.size (.slice (some ⟨wr.heap.size, 0, none⟩) N N) (List.replicate N 0) ∧ Sp.NumS of (List.replicate N 0) N 0 0) := hide ⟨(unhide HKO).below hb6, hown6, Sp.NumS.first of N⟩
          clear hown6 hb6 hlt6 x0 HKO
          generalize wr.heap.size = G at *
          obtain ⟨x0, -, -, -, -⟩ := unhide HBX w6 (unhide HK6).1.bel
          go_wp2
          go_loopg [10, 12] N (fun g s10 s12 wy => ∃ (v k : Nat) (num : List Int), v + g = N ∧ k ≤ v ∧ s12 = .int .i64 (v : Int) ∧ s10 = .int .i64 (k : Int) ∧ Hid (PKeep (w.heap.size + 1) (w.heap.size + 1) N W1 wy of ∧ OwnI wy G (.slice (some ⟨G, 0, none⟩) N N) num ∧ Sp.NumS of num N v k))
          case atStart => exact ⟨0, 0, _, by omega, by omega, rfl, rfl, HK6⟩
          case round =>
            obtain ⟨v, k, num, hvg, hkv, rfl, rfl, HN⟩ := hrel
            obtain ⟨x0, -, -, -, -⟩ := unhide HBX wr (unhide HN).1.bel
            clear HK6
            cases gk with
            | zero =>
              have hve : v = N := by omega
              rw [hve] at HN ⊢
              clear hve hvg
              have HE := hide (((unhide HN).2.2.last (unhide HRI) (unhide HSt) (unhide HQ).ev).uniq (unhide HPS))
              have HOw := hide (unhide HN).2.1
              have HBl := hide (unhide HW _ (unhide HN).1.bel)
              clear HN
              go_wp2
              rw [unhide HP]
              exact ⟨_, by rw [← (unhide HE).2]; rfl, by rw [← (unhide HE).1]; exact own_base (unhide HOw) (by omega), unhide HBl⟩
            | succ g' =>
              have hvN : v < N := by omega
              have hvI : (v : Int) < (N : Int) := by omega
              have hbd := (unhide HRI).bd v hvN
              have c1 := own_cell (unhide HN).1.own v (by rw [(unhide HRI).len]; exact hvN)
              rw [← Sp.getD_eq] at c1
              obtain ⟨u, hu⟩ : ∃ u : Nat, of.getD v 0 = (u : Int) := ⟨(of.getD v 0).toNat, by omega⟩
              have hnl := (unhide HN).2.2.len
              have c2 := own_cell (unhide HN).2.1 v (by rw [hnl]; exact hvN)
              have f2 := own_frozen (unhide HN).2.1 v
              generalize num[v]'_ = z2 at *
              rw [hu] at c1
              by_cases huv : u = v
              · subst huv
                have huB : ((u : Int) == (u : Int)) = true := beq_self_eq_true _
                have HN2 : Hid (PKeep (w.heap.size + 1) (w.heap.size + 1) N W1 (wr.setCell ⟨G, u, none⟩ (.int .i64 (k : Int))) of ∧ OwnI (wr.setCell ⟨G, u, none⟩ (.int .i64 (k : Int))) G (.slice (some ⟨G, 0, none⟩) N N) (num.set u (k : Int)) ∧ Sp.NumS of (num.set u (k : Int)) N (u + 1) (k + 1)) := hide ⟨(unhide HN).1.far hOG _ _, own_setCell (unhide HN).2.1 u (k : Int), (unhide HN).2.2.new (unhide HRI) hvN hu⟩
                clear HN hbd hu hnl
                go_wp2
                go_roundg g'
                case rel => exact ⟨u + 1, k + 1, _, by omega, by omega, by go_num, by go_num, HN2⟩
                case measure => omega
              · have huB : ((u : Int) == (v : Int)) = false := beq_eq_false_iff_ne.2 (by omega)
                have huI : ¬ (u : Int) = (v : Int) := by omega
                obtain ⟨huv', hns⟩ := (unhide HN).2.2.old (unhide HRI) (unhide HSt) (unhide HQ).ev hvN hu huv
                have c3 := own_cell (unhide HN).2.1 u (by rw [hnl]; omega)
                rw [← Sp.getD_eq] at c3
                have HN2 : Hid (PKeep (w.heap.size + 1) (w.heap.size + 1) N W1 (wr.setCell ⟨G, v, none⟩ (.int .i64 (num.getD u 0))) of ∧ OwnI (wr.setCell ⟨G, v, none⟩ (.int .i64 (num.getD u 0))) G (.slice (some ⟨G, 0, none⟩) N N) (num.set v (num.getD u 0)) ∧ Sp.NumS of (num.set v (num.getD u 0)) N (v + 1) k) := hide ⟨(unhide HN).1.far hOG _ _, own_setCell (unhide HN).2.1 v (num.getD u 0), hns⟩
                have huN : (u : Int) < (N : Int) := by omega
                clear HN hbd hu hnl hns
                generalize num.getD u 0 = z3 at *
                go_wp2
                go_roundg g'
                case rel => exact ⟨v + 1, k, _, by omega, by omega, by go_num, rfl, HN2⟩
                case measure => omega
end Go.Proofs.Ytnkkgeammohemab


/- A plane net is told so; a plane net turned is plane. -/
namespace Go.Proofs.Ytnkkgeammohemab
open Go Go.RowKit

def Sp.turnC (tl : List Int) : List (List Int) → List Int → Bool
  | [], _ => true
  | r :: c, bg => if tl.getD (r.getD 0 0).toNat 0 ∈ bg then false
      else if r.all (fun d => tl.getD d.toNat 0 == tl.getD (r.getD 0 0).toNat 0) then Sp.turnC tl c (bg ++ [tl.getD (r.getD 0 0).toNat 0]) else false
theorem Sp.turnGo_cyc (tl : List Int) : ∀ (c : List (List Int)) (a bg : List Int), (∀ r ∈ c, r ≠ []) → Sp.turnGo tl (a ++ c.flatten) (Sp.offs a.length c) bg = Sp.turnC tl c bg
  | [], _, _, _ => rfl
  | r :: c, a, bg, h => by
    have e : a ++ (r :: c).flatten = a ++ (r ++ c.flatten) := by simp
    have hr := h r (by simp)
    have hg : (a ++ (r ++ c.flatten)).getD a.length 0 = r.getD 0 0 := by
      rw [List.getD_eq_getElem?_getD, List.getElem?_append_right (Nat.le_refl _), Nat.sub_self]
      cases r with
      | nil => exact absurd rfl hr
      | cons x r => rfl
    show (if tl.getD ((a ++ (r :: c).flatten).getD a.length 0).toNat 0 ∈ bg then false
      else if (Sp.piece (a ++ (r :: c).flatten) (a.length, a.length + r.length)).all (fun d => tl.getD d.toNat 0 == tl.getD ((a ++ (r :: c).flatten).getD a.length 0).toNat 0) then Sp.turnGo tl (a ++ (r :: c).flatten) (Sp.offs (a.length + r.length) c) (bg ++ [tl.getD ((a ++ (r :: c).flatten).getD a.length 0).toNat 0]) else false) = _
    rw [e, Sp.piece_at, hg]
    have ih := Sp.turnGo_cyc tl c (a ++ r) (bg ++ [tl.getD (r.getD 0 0).toNat 0]) (fun r' hr' => h r' (by simp [hr']))
    rw [List.length_append, List.append_assoc] at ih
    rw [ih]
    rfl
theorem rounds_head {st : List Int} (hp : Sp.Perm st) {d : Nat} (hd : d < st.length) : (Sp.rounds st d (Sp.per st d)).getD 0 0 = (d : Int) ∧ Sp.rounds st d (Sp.per st d) ≠ [] := by
  have h1 := (hp.per hd).1
  constructor
  · rw [Sp.getD_eq _ _ (by rw [Sp.rounds_len]; omega)]
    simp [Sp.rounds, Sp.nth]
  · intro e
    have := congrArg List.length e
    rw [Sp.rounds_len] at this
    simp at this
    omega
theorem Sp.turnC_of {st tl : List Int} (hp : Sp.Perm st) (hT : ∀ i, i < st.length → tl.getD (Sp.fn st i) 0 = tl.getD i 0) (hS : ∀ i j, i < st.length → j < st.length → tl.getD i 0 = tl.getD j 0 → OrbF (Sp.fn st) i j) :
    ∀ f d row bg, d + f = st.length → Sp.Shut st row → (∀ b ∈ bg, ∃ i : Nat, i < st.length ∧ (i : Int) ∈ row ∧ tl.getD i 0 = b) → Sp.turnC tl (Sp.cyc st f d row) bg = true
  | 0, _, _, _, _, _, _ => rfl
  | f + 1, d, row, bg, hd, hs, hb => by
    have hdl : d < st.length := by omega
    rw [Sp.cyc]
    by_cases hm : (d : Int) ∈ row
    · rw [if_pos hm]
      exact Sp.turnC_of hp hT hS f (d + 1) row bg (by omega) hs hb
    · rw [if_neg hm, Sp.turnC, (rounds_head hp hdl).1, Int.toNat_natCast]
      have hnb : ¬ tl.getD d 0 ∈ bg := fun h => by
        obtain ⟨i, h1, h2, h3⟩ := hb _ h
        exact hm (hs.orb hp h1 h2 (hS i d h1 hdl h3))
      have hall : (Sp.rounds st d (Sp.per st d)).all (fun x => tl.getD x.toNat 0 == tl.getD d 0) = true := by
        rw [List.all_eq_true]
        intro x hx
        obtain ⟨j, rfl, m, rfl⟩ := (hp.mem_rounds hdl x).1 hx
        rw [Int.toNat_natCast, beq_iff_eq]
        clear hx
        induction m with
        | zero => rfl
        | succ m ih => exact (hT _ (hp.fnP.it hdl m)).trans ih
      rw [if_neg hnb, if_pos hall]
      refine Sp.turnC_of hp hT hS f (d + 1) _ _ (by omega) (hs.add hp hdl) (fun b hb' => ?_)
      rcases List.mem_append.1 hb' with h1 | h1
      · obtain ⟨i, h2, h3, h4⟩ := hb b h1
        exact ⟨i, h2, List.mem_append_left _ h3, h4⟩
      · rw [List.mem_singleton] at h1
        exact ⟨d, hdl, List.mem_append_right _ ((hp.mem_rounds hdl _).2 ⟨d, rfl, OrbF.refl _ _⟩), h1.symm⟩
theorem Sp.turning_of {q : Sp.Net} (hp : Sp.Perm q.next) (hT : ∀ i, i < q.next.length → q.tail.getD (Sp.fn q.next i) 0 = q.tail.getD i 0) (hS : ∀ i j, i < q.next.length → j < q.next.length → q.tail.getD i 0 = q.tail.getD j 0 → OrbF (Sp.fn q.next) i j) : Sp.turningB q = true := by
  unfold Sp.turningB
  rw [Sp.rndsD_cyc hp, Sp.rnds_cyc hp]
  have h := Sp.turnGo_cyc q.tail (Sp.cycs q.next) [] [] (fun r hr => by
    obtain ⟨e, he, rfl⟩ := Sp.cyc_pos hp _ 0 [] (by omega) r hr
    exact (rounds_head hp he).2)
  rw [List.nil_append] at h
  have h2 := Sp.turnC_of hp hT hS q.next.length 0 [] [] (by omega) (fun i _ h => by simp at h) (fun b hb => by simp at hb)
  show (Sp.turnGo q.tail (Sp.cycs q.next).flatten (Sp.offs ([] : List Int).length (Sp.cycs q.next)) [] && true) = true
  rw [h, Bool.and_true]
  exact h2
theorem toNat_inj' {a b : Int} (ha : 0 ≤ a) (hb : 0 ≤ b) (h : a.toNat = b.toNat) : a = b := by omega
/-- The net seen from behind. -/
def Sp.seen (q : Sp.Net) : Sp.Net := ⟨q.n, q.tail, Sp.turnL q.next, q.cap⟩
theorem fn_tb {nx : List Int} (hp : Sp.Perm nx) (hev : nx.length % 2 = 0) {x : Nat} (hx : x < nx.length) : Sp.fn (Sp.behindL (Sp.turnL nx)) (Sp.oth (Sp.fn (Sp.behindL nx) x)) = Sp.oth x ∧ Sp.oth (Sp.fn (Sp.behindL nx) x) < nx.length := by
  have ho := oth_lt hx hev
  have h1 : Sp.fn (Sp.behindL nx) x = Sp.fn nx (Sp.oth x) := fn_behind nx x hx
  have h2 := hp.fnP.mp _ ho
  have h3 : Sp.oth (Sp.fn (Sp.behindL nx) x) < nx.length := by rw [h1]; exact oth_lt h2 hev
  refine ⟨?_, h3⟩
  rw [fn_behind _ _ (by rw [Sp.turnL_len]; exact h3), oth_oth, h1, Sp.fn_turn hp ho]
theorem orb_turn {st : List Int} (hp : Sp.Perm st) {g : Nat → Nat} (hg : ∀ x, x < st.length → g (Sp.oth (Sp.fn st x)) = Sp.oth x) {i : Nat} (hi : i < st.length) : ∀ m, OrbF g (Sp.oth (itf (Sp.fn st) i m)) (Sp.oth i)
  | 0 => OrbF.refl _ _
  | m + 1 => OrbF.trans ⟨1, hg _ (hp.fnP.it hi m)⟩ (orb_turn hp hg hi m)
theorem Sp.Plain.seen {q : Sp.Net} (hp : Sp.Perm q.next) (hl : q.next.length = q.tail.length) (hev : q.tail.length % 2 = 0) (h : Sp.Plain q) : Sp.Plain (Sp.seen q) := by
  have hmp : ∀ i, i < q.tail.length → Sp.fn q.next i < q.tail.length := fun i hi => by have := hp.fnP.mp i (by rw [hl]; exact hi); rw [hl] at this; exact this
  have hmpt : ∀ i, i < q.tail.length → Sp.fn (Sp.turnL q.next) i < q.tail.length := fun i hi => by have := hp.turn.fnP.mp i (by rw [Sp.turnL_len, hl]; exact hi); rw [Sp.turnL_len, hl] at this; exact this
  have hback : ∀ i, i < q.tail.length → ∀ m, OrbF (Sp.fn (Sp.turnL q.next)) (itf (Sp.fn q.next) i m) i := by
    intro i hi m
    induction m with
    | zero => exact OrbF.refl _ _
    | succ m ih =>
      have hb : itf (Sp.fn q.next) i m < q.next.length := hp.fnP.it (by rw [hl]; exact hi) m
      exact OrbF.trans ⟨1, Sp.fn_turn hp hb⟩ ih
  refine ⟨?_, ?_, h.conn⟩
  · show Cls q.tail.length (Sp.fn (Sp.turnL q.next)) (fun i => (q.tail.getD i 0).toNat) q.n.toNat
    refine ⟨h.vert.lt, h.vert.on, fun i hi => ?_, fun i j hi hj e => ?_⟩
    · have h1 := h.vert.inv _ (hmpt i hi)
      rw [Sp.fn_turn' hp (by rw [hl]; exact hi)] at h1
      exact h1.symm
    · obtain ⟨m, hm⟩ := h.vert.sep j i hj hi e.symm
      have := hback j hj m
      rw [hm] at this
      exact this
  · obtain ⟨lab, F, hf, hE⟩ := h.face
    have hbp := hp.behind (by rw [hl]; exact hev)
    have hbl : (Sp.behindL q.next).length = q.tail.length := by rw [Sp.behindL_len, hl]
    refine ⟨fun x => lab (Sp.oth x), F, ?_, hE⟩
    show Cls q.tail.length (Sp.fn (Sp.behindL (Sp.turnL q.next))) (fun x => lab (Sp.oth x)) F
    have hg : ∀ x, x < q.tail.length → Sp.fn (Sp.behindL (Sp.turnL q.next)) (Sp.oth (Sp.fn (Sp.behindL q.next) x)) = Sp.oth x := fun x hx => (fn_tb hp (by rw [hl]; exact hev) (by rw [hl]; exact hx)).1
    refine ⟨fun i hi => hf.lt _ (oth_lt hi hev), fun c hc => ?_, fun i hi => ?_, fun i j hi hj e => ?_⟩
    · obtain ⟨i, h1, h2⟩ := hf.on c hc
      exact ⟨Sp.oth i, oth_lt h1 hev, by show lab (Sp.oth (Sp.oth i)) = c; rw [oth_oth]; exact h2⟩
    · -- i is the other of what comes behind some dart
      obtain ⟨y, hy, ey⟩ := hbp.onto (j := Sp.oth i) (by rw [hbl]; exact oth_lt hi hev)
      rw [hbl] at hy
      have ei : i = Sp.oth (Sp.fn (Sp.behindL q.next) y) := by rw [ey, oth_oth]
      show lab (Sp.oth (Sp.fn (Sp.behindL (Sp.turnL q.next)) i)) = lab (Sp.oth i)
      rw [ei, hg y hy, oth_oth, oth_oth, hf.inv y hy]
    · obtain ⟨m, hm⟩ := hf.sep (Sp.oth j) (Sp.oth i) (oth_lt hj hev) (oth_lt hi hev) (show lab (Sp.oth j) = lab (Sp.oth i) from e.symm)
      have := orb_turn hbp (g := Sp.fn (Sp.behindL (Sp.turnL q.next))) (fun x hx => hg x (by rw [← hbl]; exact hx)) (i := Sp.oth j) (by rw [hbl]; exact oth_lt hj hev) m
      rw [hm, oth_oth, oth_oth] at this
      exact this
end Go.Proofs.Ytnkkgeammohemab


