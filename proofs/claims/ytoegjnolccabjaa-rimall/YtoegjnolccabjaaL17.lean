/- What the proof needs, part 17. -/
import Derived.Test.YtoegjnolccabjaaL16
/- What the program's Parts tells: labels numbered by their first ones, that tell the pieces apart. -/
namespace Go.Proofs.Ytoegjnolccabjaa
open Go Go.RowKit

/-- Labels laid so far, by whatever tells places apart. -/
structure Sp.NSt (L : Nat) (E : Nat → Nat → Prop) (d : Nat) (of : List Int) (k : Nat) : Prop where
  len : of.length = L
  bd : ∀ i, i < L → of.getD i 0 = -1 ∨ (0 ≤ of.getD i 0 ∧ of.getD i 0 < (k : Int))
  done : ∀ i, i < d → 0 ≤ of.getD i 0
  inv : ∀ i j, i < L → j < L → E i j → of.getD i 0 = of.getD j 0
  sep : ∀ i j, i < L → j < L → 0 ≤ of.getD i 0 → of.getD i 0 = of.getD j 0 → E i j
  rg : ∀ i, i < d → ∀ c, 0 ≤ c → c < of.getD i 0 → ∃ j, j < i ∧ of.getD j 0 = c
  on : ∀ c : Nat, c < k → ∃ i, i < d ∧ of.getD i 0 = (c : Int)
theorem Sp.NSt.first (L : Nat) (E : Nat → Nat → Prop) : Sp.NSt L E 0 (List.replicate L (-1)) 0 := by
  refine ⟨by simp, fun i hi => .inl (getD_rep _ _ _ hi), fun i hi => by omega, fun i j hi hj _ => by rw [getD_rep _ _ _ hi, getD_rep _ _ _ hj], fun i j hi hj h => ?_, fun i hi => by omega, fun c hc => by omega⟩
  rw [getD_rep _ _ _ hi] at h
  omega
theorem Sp.NSt.old {L : Nat} {E : Nat → Nat → Prop} {d k : Nat} {of : List Int} (h : Sp.NSt L E d of k) (hd : d < L) (h0 : of.getD d 0 ≠ -1) : Sp.NSt L E (d + 1) of k := by
  have h0' : 0 ≤ of.getD d 0 ∧ of.getD d 0 < (k : Int) := by
    rcases h.bd d hd with e | e
    · exact absurd e h0
    · exact e
  refine ⟨h.len, h.bd, fun i hi => ?_, h.inv, h.sep, fun i hi c c0 c1 => ?_, fun c hc => ?_⟩
  · rcases Nat.lt_or_ge i d with h1 | h1
    · exact h.done i h1
    · rw [show i = d by omega]; exact h0'.1
  · rcases Nat.lt_or_ge i d with h1 | h1
    · exact h.rg i h1 c c0 c1
    · rw [show i = d by omega] at c1 ⊢
      obtain ⟨j, h2, h3⟩ := h.on c.toNat (by omega)
      exact ⟨j, h2, by rw [h3]; omega⟩
  · obtain ⟨i, h1, h2⟩ := h.on c hc
    exact ⟨i, by omega, h2⟩
theorem Sp.NSt.new {L : Nat} {E : Nat → Nat → Prop} {d k : Nat} {of of' : List Int} (h : Sp.NSt L E d of k) (hr : ∀ i, E i i) (hs : ∀ i j, i < L → j < L → E i j → E j i) (ht : ∀ i j l, E i j → E j l → E i l) (hd : d < L) (h0 : of.getD d 0 = -1) (hl : of'.length = L)
    (hE : ∀ i, i < L → E d i → of'.getD i 0 = (k : Int)) (hN : ∀ i, i < L → ¬ E d i → of'.getD i 0 = of.getD i 0) : Sp.NSt L E (d + 1) of' (k + 1) := by
  have hget : ∀ i, i < L → (E d i ∧ of'.getD i 0 = (k : Int) ∧ of.getD i 0 = -1) ∨ (¬ E d i ∧ of'.getD i 0 = of.getD i 0) := by
    intro i hi
    by_cases ho : E d i
    · exact .inl ⟨ho, hE i hi ho, by rw [← h.inv d i hd hi ho]; exact h0⟩
    · exact .inr ⟨ho, hN i hi ho⟩
  have hdk : of'.getD d 0 = (k : Int) := hE d hd (hr d)
  refine ⟨hl, fun i hi => ?_, fun i hi => ?_, fun i j hi hj e => ?_, fun i j hi hj hn e => ?_, fun i hi c c0 c1 => ?_, fun c hc => ?_⟩
  · rcases hget i hi with ⟨-, e, -⟩ | ⟨-, e⟩
    · right; rw [e]; omega
    · rw [e]; rcases h.bd i hi with e1 | e1
      · exact .inl e1
      · exact .inr ⟨e1.1, by omega⟩
  · rcases Nat.lt_or_ge i d with h1 | h1
    · rcases hget i (by omega) with ⟨-, e, -⟩ | ⟨-, e⟩
      · rw [e]; omega
      · rw [e]; exact h.done i h1
    · rw [show i = d by omega, hdk]; omega
  · rcases hget i hi with ⟨o, e1, -⟩ | ⟨o, e1⟩ <;> rcases hget j hj with ⟨o', e2, -⟩ | ⟨o', e2⟩
    · rw [e1, e2]
    · exact absurd (ht _ _ _ o e) o'
    · exact absurd (ht _ _ _ o' (hs i j hi hj e)) o
    · rw [e1, e2]; exact h.inv i j hi hj e
  · rcases hget i hi with ⟨o, e1, -⟩ | ⟨o, e1⟩ <;> rcases hget j hj with ⟨o', e2, -⟩ | ⟨o', e2⟩
    · exact ht _ _ _ (hs d i hd hi o) o'
    · rw [e1, e2] at e
      rcases h.bd j hj with e3 | e3 <;> omega
    · rw [e1, e2] at e
      rcases h.bd i hi with e3 | e3 <;> omega
    · rw [e1, e2] at e
      rw [e1] at hn
      exact h.sep i j hi hj hn e
  · rcases Nat.lt_or_ge i d with h1 | h1
    · rcases hget i (by omega) with ⟨-, -, e⟩ | ⟨-, e⟩
      · have := h.done i h1; omega
      · rw [e] at c1
        obtain ⟨j, h2, h3⟩ := h.rg i h1 c c0 c1
        refine ⟨j, h2, ?_⟩
        rcases hget j (by omega) with ⟨-, -, e'⟩ | ⟨-, e'⟩
        · omega
        · rw [e', h3]
    · rw [show i = d by omega] at c1 ⊢
      rw [hdk] at c1
      obtain ⟨j, h2, h3⟩ := h.on c.toNat (by omega)
      refine ⟨j, h2, ?_⟩
      rcases hget j (by omega) with ⟨-, -, e'⟩ | ⟨-, e'⟩
      · omega
      · rw [e', h3]; omega
  · by_cases hk : c = k
    · exact ⟨d, by omega, by rw [hdk, hk]⟩
    · obtain ⟨i, h1, h2⟩ := h.on c (by omega)
      refine ⟨i, by omega, ?_⟩
      rcases hget i (by omega) with ⟨-, -, e'⟩ | ⟨-, e'⟩
      · omega
      · rw [e', h2]
theorem Sp.NSt.num {L : Nat} {E : Nat → Nat → Prop} {of : List Int} {k : Nat} (h : Sp.NSt L E L of k) : Sp.Num of k := by
  refine ⟨⟨fun i hi => h.done i (by rw [← h.len]; exact hi), fun i hi => h.rg i (by rw [← h.len]; exact hi)⟩, fun i hi => ?_, fun c hc => ?_⟩
  · rw [h.len] at hi
    have := h.done i hi
    rcases h.bd i hi with e | e <;> omega
  · obtain ⟨i, h1, h2⟩ := h.on c hc
    exact ⟨i, by rw [h.len]; exact h1, h2⟩
theorem Sp.NSt.uniq {L : Nat} {E : Nat → Nat → Prop} {of of' : List Int} {k k' : Nat} (h : Sp.NSt L E L of k) (h' : Sp.NSt L E L of' k') : of = of' ∧ k = k' := by
  have e : of = of' := Sp.RG.uniq h.num.rg h'.num.rg (by rw [h.len, h'.len]) (fun i j hi hj => by
    rw [h.len] at hi hj
    constructor
    · intro e; exact h'.inv i j hi hj (h.sep i j hi hj (h.done i hi) e)
    · intro e; exact h.inv i j hi hj (h'.sep i j hi hj (h'.done i hi) e))
  refine ⟨e, ?_⟩
  subst e
  exact h.num.count h'.num
theorem Sp.Reach.trans {tl : List Int} {u v z : Int} (h : Sp.Reach tl u v) (h' : Sp.Reach tl v z) : Sp.Reach tl u z :=
  h'.ind (p := fun z => Sp.Reach tl u z) h (fun _ hd _ ih => ih.step hd)
theorem Sp.Reach.symm {tl : List Int} (hev : tl.length % 2 = 0) {u v : Int} (h : Sp.Reach tl u v) : Sp.Reach tl v u := by
  refine h.ind (p := fun v => Sp.Reach tl v u) (.refl _) (fun d hd _ ih => ?_)
  have ho := oth_lt hd hev
  have h1 : Sp.Reach tl (tl.getD (Sp.oth d) 0) (tl.getD (Sp.oth (Sp.oth d)) 0) := (Sp.Reach.refl _).step ho
  rw [oth_oth] at h1
  exact h1.trans ih
theorem Sp.Reach.bd {tl : List Int} {n : Int} (ht : ∀ x ∈ tl, 0 ≤ x ∧ x < n) (hev : tl.length % 2 = 0) {u v : Int} (hu : 0 ≤ u ∧ u < n) (h : Sp.Reach tl u v) : 0 ≤ v ∧ v < n :=
  h.ind (p := fun v => 0 ≤ v ∧ v < n) hu (fun _ hd _ _ => ht _ (Sp.getD_mem (oth_lt hd hev)))
/-- One piece on the way: who was found. -/
structure Sp.FI (tl of0 : List Int) (N : Nat) (v p : Int) (of fd : List Int) : Prop where
  len : of.length = N
  fit : RFit N fd
  lab : ∀ w : Nat, w < N → of.getD w 0 = if (w : Int) ∈ fd then p else of0.getD w 0
  rch : ∀ x ∈ fd, Sp.Reach tl v x
theorem Sp.FI.stay {tl of0 : List Int} {N : Nat} {v p : Int} {of fd of' fd' : List Int} (h : Sp.FI tl of0 N v p of fd) (h' : Sp.FI tl of0 N v p of' fd') (hp : p ≠ -1) (hs : ∀ x ∈ fd, x ∈ fd') {w : Nat} (hw : w < N) (hn : of.getD w 0 ≠ -1) : of'.getD w 0 ≠ -1 := by
  rw [h'.lab w hw]
  split
  · exact hp
  · rename_i hm
    rw [h.lab w hw, if_neg (fun h2 => hm (hs _ h2))] at hn
    exact hn
theorem Sp.spread_ok {tl of0 : List Int} {N : Nat} {v p : Int} (hp : p ≠ -1) (ht : ∀ x ∈ tl, 0 ≤ x ∧ x < (N : Int)) (hev : tl.length % 2 = 0) (f : Int) :
    ∀ c d of fd, d + c = tl.length → Sp.FI tl of0 N v p of fd → f ∈ fd →
      Sp.FI tl of0 N v p (Sp.spreadGo tl f p c d of fd).1 (Sp.spreadGo tl f p c d of fd).2 ∧ (∃ m, (Sp.spreadGo tl f p c d of fd).2 = fd ++ m) ∧ ∀ d', d ≤ d' → d' < tl.length → tl.getD d' 0 = f → (Sp.spreadGo tl f p c d of fd).1.getD (tl.getD (Sp.oth d') 0).toNat 0 ≠ -1
  | 0, d, of, fd, hd, h, _ => ⟨h, ⟨[], by simp [Sp.spreadGo]⟩, fun d' h1 h2 => by omega⟩
  | c + 1, d, of, fd, hd, h, hf => by
    have hdl : d < tl.length := by omega
    have hh := ht _ (Sp.getD_mem (oth_lt hdl hev))
    have hhN : (tl.getD (Sp.oth d) 0).toNat < N := by omega
    have hcast : (((tl.getD (Sp.oth d) 0).toNat : Nat) : Int) = tl.getD (Sp.oth d) 0 := by omega
    rw [Sp.spreadGo]
    by_cases hc : tl.getD d 0 = f ∧ of.getD (tl.getD (Sp.oth d) 0).toNat 0 = -1
    · rw [if_pos hc]
      have hnm : ¬ tl.getD (Sp.oth d) 0 ∈ fd := fun hm => by
        have e := h.lab _ hhN
        rw [hcast, if_pos hm, hc.2] at e
        exact hp e.symm
      have hfit := h.fit.snoc (tl.getD (Sp.oth d) 0).toNat hhN (by rw [hcast]; exact hnm)
      rw [hcast] at hfit
      have h' : Sp.FI tl of0 N v p (of.set (tl.getD (Sp.oth d) 0).toNat p) (fd ++ [tl.getD (Sp.oth d) 0]) := by
        refine ⟨by rw [List.length_set]; exact h.len, hfit, fun w hw => ?_, fun x hx => ?_⟩
        · rw [getD_set_eq _ _ _ _ (by rw [h.len]; exact hhN)]
          by_cases e : w = (tl.getD (Sp.oth d) 0).toNat
          · rw [if_pos e, if_pos (List.mem_append_right _ (by rw [e, hcast]; simp))]
          · rw [if_neg e, h.lab w hw]
            by_cases hm : (w : Int) ∈ fd
            · rw [if_pos hm, if_pos (List.mem_append_left _ hm)]
            · rw [if_neg hm, if_neg (fun h2 => by
                rcases List.mem_append.1 h2 with h3 | h3
                · exact hm h3
                · rw [List.mem_singleton] at h3
                  omega)]
        · rcases List.mem_append.1 hx with h3 | h3
          · exact h.rch x h3
          · rw [List.mem_singleton] at h3
            rw [h3]
            refine Sp.Reach.step ?_ hdl
            rw [hc.1]
            exact h.rch f hf
      obtain ⟨r1, ⟨m, r2⟩, r3⟩ := Sp.spread_ok hp ht hev f c (d + 1) _ _ (by omega) h' (List.mem_append_left _ hf)
      refine ⟨r1, ⟨[tl.getD (Sp.oth d) 0] ++ m, by rw [r2, List.append_assoc]⟩, fun d' h1 h2 h3 => ?_⟩
      rcases Nat.lt_or_ge d d' with h4 | h4
      · exact r3 d' (by omega) h2 h3
      · rw [show d' = d by omega]
        rw [r1.lab _ hhN, if_pos (by rw [r2, hcast]; exact List.mem_append_left _ (List.mem_append_right _ (by simp)))]
        exact hp
    · rw [if_neg hc]
      obtain ⟨r1, ⟨m, r2⟩, r3⟩ := Sp.spread_ok hp ht hev f c (d + 1) of fd (by omega) h hf
      refine ⟨r1, ⟨m, r2⟩, fun d' h1 h2 h3 => ?_⟩
      rcases Nat.lt_or_ge d d' with h4 | h4
      · exact r3 d' (by omega) h2 h3
      · rw [show d' = d by omega] at h3 ⊢
        exact h.stay r1 hp (fun x hx => by rw [r2]; exact List.mem_append_left _ hx) hhN (fun e => hc ⟨h3, e⟩)
theorem Sp.flood_ok {tl of0 : List Int} {N : Nat} {v p : Int} (hp : p ≠ -1) (ht : ∀ x ∈ tl, 0 ≤ x ∧ x < (N : Int)) (hev : tl.length % 2 = 0) :
    ∀ g i of fd, i + g = N + 1 → i ≤ fd.length → Sp.FI tl of0 N v p of fd → (∀ j, j < i → ∀ d, d < tl.length → tl.getD d 0 = fd.getD j 0 → of.getD (tl.getD (Sp.oth d) 0).toNat 0 ≠ -1) →
      ∃ fd', Sp.FI tl of0 N v p (Sp.floodGo tl p g i of fd) fd' ∧ (∀ x ∈ fd, x ∈ fd') ∧ ∀ x ∈ fd', ∀ d, d < tl.length → tl.getD d 0 = x → (Sp.floodGo tl p g i of fd).getD (tl.getD (Sp.oth d) 0).toNat 0 ≠ -1
  | 0, i, of, fd, hi, hl, h, _ => by have := h.fit.le; omega
  | g + 1, i, of, fd, hi, hl, h, hd => by
    rw [Sp.floodGo]
    by_cases hc : i < fd.length
    · rw [if_pos hc]
      obtain ⟨r1, ⟨m, r2⟩, r3⟩ := Sp.spread_ok hp ht hev (fd.getD i 0) tl.length 0 of fd (by omega) h (Sp.getD_mem hc)
      obtain ⟨fd', s1, s2, s3⟩ := Sp.flood_ok hp ht hev g (i + 1) _ _ (by omega) (by rw [r2, List.length_append]; omega) r1 (fun j hj d hdl e => by
        have hg : (Sp.spreadGo tl (fd.getD i 0) p tl.length 0 of fd).2.getD j 0 = fd.getD j 0 := by
          rw [r2, List.getD_eq_getElem?_getD, List.getElem?_append_left (by omega), ← List.getD_eq_getElem?_getD]
        rw [hg] at e
        rcases Nat.lt_or_ge j i with h1 | h1
        · refine h.stay r1 hp (fun x hx => by rw [r2]; exact List.mem_append_left _ hx) ?_ (hd j h1 d hdl e)
          have := ht _ (Sp.getD_mem (oth_lt hdl hev))
          omega
        · rw [show j = i by omega] at e
          exact r3 d (Nat.zero_le _) hdl e)
      exact ⟨fd', s1, fun x hx => s2 x (by rw [r2]; exact List.mem_append_left _ hx), s3⟩
    · rw [if_neg hc]
      refine ⟨fd, h, fun _ hx => hx, fun x hx d hdl e => ?_⟩
      obtain ⟨j, hj, ej⟩ := List.mem_iff_getElem.1 hx
      exact hd j (by omega) d hdl (by rw [e, Sp.getD_eq _ _ hj, ej])
/-- One piece whole. -/
theorem Sp.flood_all {tl of0 : List Int} {N : Nat} {v : Nat} {p : Int} (hp : p ≠ -1) (ht : ∀ x ∈ tl, 0 ≤ x ∧ x < (N : Int)) (hev : tl.length % 2 = 0) (hl : of0.length = N) (hv : v < N) (h0 : of0.getD v 0 = -1)
    (hin : ∀ i j : Nat, i < N → j < N → Sp.Reach tl i j → of0.getD i 0 = of0.getD j 0) :
    (Sp.floodGo tl p (N + 1) 0 (of0.set v p) [(v : Int)]).length = N ∧ ∀ w : Nat, w < N → (Sp.Reach tl v w → (Sp.floodGo tl p (N + 1) 0 (of0.set v p) [(v : Int)]).getD w 0 = p) ∧ (¬ Sp.Reach tl v w → (Sp.floodGo tl p (N + 1) 0 (of0.set v p) [(v : Int)]).getD w 0 = of0.getD w 0) := by
  have hfi : Sp.FI tl of0 N v p (of0.set v p) [(v : Int)] := by
    refine ⟨by rw [List.length_set]; exact hl, ⟨by simp, fun x hx => by rw [List.mem_singleton] at hx; omega⟩, fun w hw => ?_, fun x hx => by rw [List.mem_singleton] at hx; rw [hx]; exact .refl _⟩
    rw [getD_set_eq _ _ _ _ (by omega)]
    by_cases e : w = v
    · rw [if_pos e, if_pos (by rw [e]; simp)]
    · rw [if_neg e, if_neg (by rw [List.mem_singleton]; omega)]
  obtain ⟨fd', s1, s2, s3⟩ := Sp.flood_ok hp ht hev (N + 1) 0 (of0.set v p) [(v : Int)] (by omega) (by simp) hfi (fun j hj => by omega)
  generalize Sp.floodGo tl p (N + 1) 0 (of0.set v p) [(v : Int)] = R at *
  have hmem : ∀ x, Sp.Reach tl v x → x ∈ fd' := fun x hx => by
    refine hx.ind (p := fun x => x ∈ fd') (s2 _ (by simp)) (fun d hd hr ih => ?_)
    have hb := ht _ (Sp.getD_mem (oth_lt hd hev))
    have hne := s3 _ ih d hd rfl
    have hN : (tl.getD (Sp.oth d) 0).toNat < N := by omega
    have hcast : (((tl.getD (Sp.oth d) 0).toNat : Nat) : Int) = tl.getD (Sp.oth d) 0 := by omega
    rw [s1.lab _ hN, hcast] at hne
    by_cases hm : tl.getD (Sp.oth d) 0 ∈ fd'
    · exact hm
    · rw [if_neg hm] at hne
      have e := hin v _ hv hN (by rw [hcast]; exact hr.step hd)
      exact absurd (by rw [← e]; exact h0) hne
  refine ⟨s1.len, fun w hw => ⟨fun hr => ?_, fun hr => ?_⟩⟩
  · rw [s1.lab w hw, if_pos (hmem _ hr)]
  · rw [s1.lab w hw, if_neg (fun hm => hr (s1.rch _ hm))]
theorem Sp.partsGo_st {tl : List Int} {N : Nat} (ht : ∀ x ∈ tl, 0 ≤ x ∧ x < (N : Int)) (hev : tl.length % 2 = 0) : ∀ c v of p, v + c = N → Sp.NSt N (fun i j => Sp.Reach tl i j) v of p → Sp.NSt N (fun i j => Sp.Reach tl i j) N (Sp.partsGo tl N c v of p).1 (Sp.partsGo tl N c v of p).2
  | 0, v, of, p, hv, h => by have e : N = v := by omega
                             subst e; exact h
  | c + 1, v, of, p, hv, h => by
    rw [Sp.partsGo]
    by_cases h0 : of.getD v 0 = -1
    · rw [if_pos h0]
      obtain ⟨f1, f2⟩ := Sp.flood_all (p := (p : Int)) (by omega) ht hev h.len (show v < N by omega) h0 h.inv
      exact Sp.partsGo_st ht hev c (v + 1) _ (p + 1) (by omega) (h.new (fun i => .refl _) (fun i j _ _ hr => hr.symm hev) (fun i j l h1 h2 => h1.trans h2) (by omega) h0 f1 (fun i hi hr => (f2 i hi).1 hr) (fun i hi hr => (f2 i hi).2 hr))
    · rw [if_neg h0]
      exact Sp.partsGo_st ht hev c (v + 1) of p (by omega) (h.old (by omega) h0)
/-- What Parts tells. -/
theorem Sp.pieces_st {q : Sp.Net} (hn : 0 ≤ q.n) (ht : ∀ x ∈ q.tail, 0 ≤ x ∧ x < q.n) (hev : q.tail.length % 2 = 0) : Sp.NSt q.n.toNat (fun i j => Sp.Reach q.tail i j) q.n.toNat (Sp.pieces q).1 (Sp.pieces q).2 := by
  unfold Sp.pieces
  exact Sp.partsGo_st (fun x hx => by have := ht x hx; omega) hev _ 0 _ 0 (by omega) (Sp.NSt.first _ _)
theorem Sp.pieces_one {q : Sp.Net} (hn : 1 ≤ q.n) (ht : ∀ x ∈ q.tail, 0 ≤ x ∧ x < q.n) (hev : q.tail.length % 2 = 0) (hc : ∀ v, 0 ≤ v → v < q.n → Sp.Reach q.tail 0 v) : (Sp.pieces q).2 = 1 := by
  have h := Sp.pieces_st (by omega) ht hev
  generalize (Sp.pieces q).1 = of at h
  generalize (Sp.pieces q).2 = k at h ⊢
  have e0 : of.getD 0 0 = 0 := by
    have h1 := h.num.rg.nn 0 (by rw [h.len]; omega)
    rcases Int.lt_or_le 0 (of.getD 0 0) with h2 | h2
    · obtain ⟨j, h3, -⟩ := h.num.rg.sm 0 (by rw [h.len]; omega) 0 (Int.le_refl _) h2
      omega
    · omega
  have hpos : 0 < k := by
    have := h.num.lt 0 (by rw [h.len]; omega)
    omega
  rcases Nat.lt_or_ge 1 k with h1 | h1
  · obtain ⟨i, h2, h3⟩ := h.num.on 1 h1
    rw [h.len] at h2
    have h4 := h.inv 0 i (by omega) h2 (hc i (by omega) (by omega))
    omega
  · omega
end Go.Proofs.Ytoegjnolccabjaa


/- A plane net is told so; a plane net turned is plane. -/
namespace Go.Proofs.Ytoegjnolccabjaa
open Go Go.RowKit

def Sp.turnC (tl : List Int) : List (List Int) → List Int → Bool
  | [], _ => true
  | r :: c, bg => if tl.getD (r.getD 0 0).toNat 0 ∈ bg then false
      else if r.all (fun d => tl.getD d.toNat 0 == tl.getD (r.getD 0 0).toNat 0) then Sp.turnC tl c (bg ++ [tl.getD (r.getD 0 0).toNat 0]) else false
theorem Sp.turnGo_cyc (tl : List Int) : ∀ (c : List (List Int)) (a bg : List Int), (∀ r ∈ c, r ≠ []) → Sp.turnGo tl (a ++ c.flatten) (Sp.offs a.length c) bg = Sp.turnC tl c bg
  | [], _, _, _ => rfl
  | r :: c, a, bg, h => by
    have e : a ++ (r :: c).flatten = a ++ (r ++ c.flatten) := by simp
    have hr := h r (by simp)
    have hg : (a ++ (r ++ c.flatten)).getD a.length 0 = r.getD 0 0 := by
      rw [List.getD_eq_getElem?_getD, List.getElem?_append_right (Nat.le_refl _), Nat.sub_self]
      cases r with
      | nil => exact absurd rfl hr
      | cons x r => rfl
    show (if tl.getD ((a ++ (r :: c).flatten).getD a.length 0).toNat 0 ∈ bg then false
      else if (Sp.piece (a ++ (r :: c).flatten) (a.length, a.length + r.length)).all (fun d => tl.getD d.toNat 0 == tl.getD ((a ++ (r :: c).flatten).getD a.length 0).toNat 0) then Sp.turnGo tl (a ++ (r :: c).flatten) (Sp.offs (a.length + r.length) c) (bg ++ [tl.getD ((a ++ (r :: c).flatten).getD a.length 0).toNat 0]) else false) = _
    rw [e, Sp.piece_at, hg]
    have ih := Sp.turnGo_cyc tl c (a ++ r) (bg ++ [tl.getD (r.getD 0 0).toNat 0]) (fun r' hr' => h r' (by simp [hr']))
    rw [List.length_append, List.append_assoc] at ih
    rw [ih]
    rfl
theorem rounds_head {st : List Int} (hp : Sp.Perm st) {d : Nat} (hd : d < st.length) : (Sp.rounds st d (Sp.per st d)).getD 0 0 = (d : Int) ∧ Sp.rounds st d (Sp.per st d) ≠ [] := by
  have h1 := (hp.per hd).1
  constructor
  · rw [Sp.getD_eq _ _ (by rw [Sp.rounds_len]; omega)]
    simp [Sp.rounds, Sp.nth]
  · intro e
    have := congrArg List.length e
    rw [Sp.rounds_len] at this
    simp at this
    omega
theorem Sp.turnC_of {st tl : List Int} (hp : Sp.Perm st) (hT : ∀ i, i < st.length → tl.getD (Sp.fn st i) 0 = tl.getD i 0) (hS : ∀ i j, i < st.length → j < st.length → tl.getD i 0 = tl.getD j 0 → OrbF (Sp.fn st) i j) :
    ∀ f d row bg, d + f = st.length → Sp.Shut st row → (∀ b ∈ bg, ∃ i : Nat, i < st.length ∧ (i : Int) ∈ row ∧ tl.getD i 0 = b) → Sp.turnC tl (Sp.cyc st f d row) bg = true
  | 0, _, _, _, _, _, _ => rfl
  | f + 1, d, row, bg, hd, hs, hb => by
    have hdl : d < st.length := by omega
    rw [Sp.cyc]
    by_cases hm : (d : Int) ∈ row
    · rw [if_pos hm]
      exact Sp.turnC_of hp hT hS f (d + 1) row bg (by omega) hs hb
    · rw [if_neg hm, Sp.turnC, (rounds_head hp hdl).1, Int.toNat_natCast]
      have hnb : ¬ tl.getD d 0 ∈ bg := fun h => by
        obtain ⟨i, h1, h2, h3⟩ := hb _ h
        exact hm (hs.orb hp h1 h2 (hS i d h1 hdl h3))
      have hall : (Sp.rounds st d (Sp.per st d)).all (fun x => tl.getD x.toNat 0 == tl.getD d 0) = true := by
        rw [List.all_eq_true]
        intro x hx
        obtain ⟨j, rfl, m, rfl⟩ := (hp.mem_rounds hdl x).1 hx
        rw [Int.toNat_natCast, beq_iff_eq]
        clear hx
        induction m with
        | zero => rfl
        | succ m ih => exact (hT _ (hp.fnP.it hdl m)).trans ih
      rw [if_neg hnb, if_pos hall]
      refine Sp.turnC_of hp hT hS f (d + 1) _ _ (by omega) (hs.add hp hdl) (fun b hb' => ?_)
      rcases List.mem_append.1 hb' with h1 | h1
      · obtain ⟨i, h2, h3, h4⟩ := hb b h1
        exact ⟨i, h2, List.mem_append_left _ h3, h4⟩
      · rw [List.mem_singleton] at h1
        exact ⟨d, hdl, List.mem_append_right _ ((hp.mem_rounds hdl _).2 ⟨d, rfl, OrbF.refl _ _⟩), h1.symm⟩
theorem Sp.turning_of {q : Sp.Net} (hp : Sp.Perm q.next) (hT : ∀ i, i < q.next.length → q.tail.getD (Sp.fn q.next i) 0 = q.tail.getD i 0) (hS : ∀ i j, i < q.next.length → j < q.next.length → q.tail.getD i 0 = q.tail.getD j 0 → OrbF (Sp.fn q.next) i j) : Sp.turningB q = true := by
  unfold Sp.turningB
  rw [Sp.rndsD_cyc hp, Sp.rnds_cyc hp]
  have h := Sp.turnGo_cyc q.tail (Sp.cycs q.next) [] [] (fun r hr => by
    obtain ⟨e, he, rfl⟩ := Sp.cyc_pos hp _ 0 [] (by omega) r hr
    exact (rounds_head hp he).2)
  rw [List.nil_append] at h
  have h2 := Sp.turnC_of hp hT hS q.next.length 0 [] [] (by omega) (fun i _ h => by simp at h) (fun b hb => by simp at hb)
  show (Sp.turnGo q.tail (Sp.cycs q.next).flatten (Sp.offs ([] : List Int).length (Sp.cycs q.next)) [] && true) = true
  rw [h, Bool.and_true]
  exact h2
theorem toNat_inj' {a b : Int} (ha : 0 ≤ a) (hb : 0 ≤ b) (h : a.toNat = b.toNat) : a = b := by omega
/-- The vertices' rounds, as the program asks for them. -/
theorem Sp.turning_cls {q : Sp.Net} (hp : Sp.Perm q.next) (hl : q.next.length = q.tail.length) (ht : ∀ x ∈ q.tail, 0 ≤ x ∧ x < q.n) (hv : Cls q.tail.length (Sp.fn q.next) (fun i => (q.tail.getD i 0).toNat) q.n.toNat) : Sp.turningB q = true := by
  have hb : ∀ i, i < q.tail.length → 0 ≤ q.tail.getD i 0 := fun i hi => (ht _ (Sp.getD_mem hi)).1
  have hmp : ∀ i, i < q.tail.length → Sp.fn q.next i < q.tail.length := fun i hi => by have := hp.fnP.mp i (by rw [hl]; exact hi); rw [hl] at this; exact this
  refine Sp.turning_of hp (fun i hi => ?_) (fun i j hi hj e => ?_)
  · rw [hl] at hi
    exact toNat_inj' (hb _ (hmp i hi)) (hb i hi) (hv.inv i hi)
  · rw [hl] at hi hj
    exact hv.sep i j hi hj (by show (q.tail.getD i 0).toNat = _; rw [e])
/-- A plane net that has darts is told so. -/
theorem Sp.check_plain {q : Sp.Net} (hw : Sp.walkB q = true) (hn : 1 ≤ q.n) (hp : Sp.Perm q.next) (hc : ∀ x ∈ q.cap, 0 ≤ x ∧ x ≤ 2147483648) (hl0 : 0 < q.tail.length) (h : Sp.Plain q) : Sp.checkI q = 0 := by
  have hq := walkQ hw
  have hw' := hw
  simp only [Sp.walkB, Bool.and_eq_true] at hw'
  obtain ⟨w1, w2, w3⟩ := hw'
  have hheld : Sp.heldB q = true := by
    unfold Sp.heldB Sp.capB
    rw [List.all_eq_true]
    intro x hx
    have := hc x hx
    simp [this]
  have htu := Sp.turning_cls hp hq.nx hq.tb h.vert
  have hpc := Sp.pieces_one hn hq.tb hq.ev h.conn
  obtain ⟨lab, F, hf, hE⟩ := h.face
  have hst := (Sp.faces2_st hp hq.nx hq.ev).cls
  rw [Sp.behindL_len, hq.nx] at hst
  have hmp : ∀ i, i < q.tail.length → Sp.fn (Sp.behindL q.next) i < q.tail.length := fun i hi => by
    have := (hp.behind (by rw [hq.nx]; exact hq.ev)).fnP.mp i (by rw [Sp.behindL_len, hq.nx]; exact hi)
    rw [Sp.behindL_len, hq.nx] at this; exact this
  have hK := hst.count hmp hf
  have hF0 : 0 < F := by have := hf.lt 0 hl0; omega
  have hfn : Sp.facesN q = F := by rw [(Sp.faces_eq hp hq.nx hq.ev).2, hK]; omega
  unfold Sp.checkI
  rw [if_neg (by rw [w1]; decide), if_neg (by rw [w2]; decide), if_neg (by omega), if_neg (by rw [w3]; decide), if_neg (by rw [htu]; decide), if_neg (by rw [hheld]; decide), if_neg (by rw [hpc]; decide), if_neg (by rw [hfn, hE]; decide)]
theorem Sp.check_one : Sp.checkI ⟨1, [], [], []⟩ = 0 := by decide +kernel
theorem Sp.check_plane (ns : List Int) : Sp.checkI (Sp.plane ns) = 0 := by
  have hq := Sp.planeN_ok ns (min ns.length 24)
  rcases Sp.plane_plain ns with e | ⟨h1, h2⟩
  · rw [e]; exact Sp.check_one
  · have hle : (Sp.plane ns).tail.length ≤ 2 * min ns.length 24 := hq.le
    have hn1 : (Sp.plane ns).n ≤ ((min ns.length 24 : Nat) : Int) + 1 := hq.n1
    have hn0 : 1 ≤ (Sp.plane ns).n := hq.n0
    exact Sp.check_plain (walkB_of ⟨by omega, by omega, by omega, hq.ev, hq.nx, hq.cp, fun x hx => hq.pm.bd x hx, hq.tb⟩) hn0 hq.pm hq.cb h1 h2
/-- The net seen from behind. -/
def Sp.seen (q : Sp.Net) : Sp.Net := ⟨q.n, q.tail, Sp.turnL q.next, q.cap⟩
theorem fn_tb {nx : List Int} (hp : Sp.Perm nx) (hev : nx.length % 2 = 0) {x : Nat} (hx : x < nx.length) : Sp.fn (Sp.behindL (Sp.turnL nx)) (Sp.oth (Sp.fn (Sp.behindL nx) x)) = Sp.oth x ∧ Sp.oth (Sp.fn (Sp.behindL nx) x) < nx.length := by
  have ho := oth_lt hx hev
  have h1 : Sp.fn (Sp.behindL nx) x = Sp.fn nx (Sp.oth x) := fn_behind nx x hx
  have h2 := hp.fnP.mp _ ho
  have h3 : Sp.oth (Sp.fn (Sp.behindL nx) x) < nx.length := by rw [h1]; exact oth_lt h2 hev
  refine ⟨?_, h3⟩
  rw [fn_behind _ _ (by rw [Sp.turnL_len]; exact h3), oth_oth, h1, Sp.fn_turn hp ho]
theorem orb_turn {st : List Int} (hp : Sp.Perm st) {g : Nat → Nat} (hg : ∀ x, x < st.length → g (Sp.oth (Sp.fn st x)) = Sp.oth x) {i : Nat} (hi : i < st.length) : ∀ m, OrbF g (Sp.oth (itf (Sp.fn st) i m)) (Sp.oth i)
  | 0 => OrbF.refl _ _
  | m + 1 => OrbF.trans ⟨1, hg _ (hp.fnP.it hi m)⟩ (orb_turn hp hg hi m)
theorem Sp.Plain.seen {q : Sp.Net} (hp : Sp.Perm q.next) (hl : q.next.length = q.tail.length) (hev : q.tail.length % 2 = 0) (h : Sp.Plain q) : Sp.Plain (Sp.seen q) := by
  have hmp : ∀ i, i < q.tail.length → Sp.fn q.next i < q.tail.length := fun i hi => by have := hp.fnP.mp i (by rw [hl]; exact hi); rw [hl] at this; exact this
  have hmpt : ∀ i, i < q.tail.length → Sp.fn (Sp.turnL q.next) i < q.tail.length := fun i hi => by have := hp.turn.fnP.mp i (by rw [Sp.turnL_len, hl]; exact hi); rw [Sp.turnL_len, hl] at this; exact this
  have hback : ∀ i, i < q.tail.length → ∀ m, OrbF (Sp.fn (Sp.turnL q.next)) (itf (Sp.fn q.next) i m) i := by
    intro i hi m
    induction m with
    | zero => exact OrbF.refl _ _
    | succ m ih =>
      have hb : itf (Sp.fn q.next) i m < q.next.length := hp.fnP.it (by rw [hl]; exact hi) m
      exact OrbF.trans ⟨1, Sp.fn_turn hp hb⟩ ih
  refine ⟨?_, ?_, h.conn⟩
  · show Cls q.tail.length (Sp.fn (Sp.turnL q.next)) (fun i => (q.tail.getD i 0).toNat) q.n.toNat
    refine ⟨h.vert.lt, h.vert.on, fun i hi => ?_, fun i j hi hj e => ?_⟩
    · have h1 := h.vert.inv _ (hmpt i hi)
      rw [Sp.fn_turn' hp (by rw [hl]; exact hi)] at h1
      exact h1.symm
    · obtain ⟨m, hm⟩ := h.vert.sep j i hj hi e.symm
      have := hback j hj m
      rw [hm] at this
      exact this
  · obtain ⟨lab, F, hf, hE⟩ := h.face
    have hbp := hp.behind (by rw [hl]; exact hev)
    have hbl : (Sp.behindL q.next).length = q.tail.length := by rw [Sp.behindL_len, hl]
    refine ⟨fun x => lab (Sp.oth x), F, ?_, hE⟩
    show Cls q.tail.length (Sp.fn (Sp.behindL (Sp.turnL q.next))) (fun x => lab (Sp.oth x)) F
    have hg : ∀ x, x < q.tail.length → Sp.fn (Sp.behindL (Sp.turnL q.next)) (Sp.oth (Sp.fn (Sp.behindL q.next) x)) = Sp.oth x := fun x hx => (fn_tb hp (by rw [hl]; exact hev) (by rw [hl]; exact hx)).1
    refine ⟨fun i hi => hf.lt _ (oth_lt hi hev), fun c hc => ?_, fun i hi => ?_, fun i j hi hj e => ?_⟩
    · obtain ⟨i, h1, h2⟩ := hf.on c hc
      exact ⟨Sp.oth i, oth_lt h1 hev, by show lab (Sp.oth (Sp.oth i)) = c; rw [oth_oth]; exact h2⟩
    · -- i is the other of what comes behind some dart
      obtain ⟨y, hy, ey⟩ := hbp.onto (j := Sp.oth i) (by rw [hbl]; exact oth_lt hi hev)
      rw [hbl] at hy
      have ei : i = Sp.oth (Sp.fn (Sp.behindL q.next) y) := by rw [ey, oth_oth]
      show lab (Sp.oth (Sp.fn (Sp.behindL (Sp.turnL q.next)) i)) = lab (Sp.oth i)
      rw [ei, hg y hy, oth_oth, oth_oth, hf.inv y hy]
    · obtain ⟨m, hm⟩ := hf.sep (Sp.oth j) (Sp.oth i) (oth_lt hj hev) (oth_lt hi hev) (show lab (Sp.oth j) = lab (Sp.oth i) from e.symm)
      have := orb_turn hbp (g := Sp.fn (Sp.behindL (Sp.turnL q.next))) (fun x hx => hg x (by rw [← hbl]; exact hx)) (i := Sp.oth j) (by rw [hbl]; exact oth_lt hj hev) m
      rw [hm, oth_oth, oth_oth] at this
      exact this
end Go.Proofs.Ytoegjnolccabjaa


/- What the third law's statements share. -/
namespace Go.Proofs.Ytoegjnolccabjaa
open Go Go.RowKit

theorem Sp.linkQ_plane (ns : List Int) : Sp.LinkQ (Sp.plane ns) := by
  have h := Sp.plane_ok ns
  have hl : (Sp.plane ns).tail.length ≤ 48 := h.le
  exact ⟨h.nx, h.cp, by omega, h.ev, h.pm⟩
end Go.Proofs.Ytoegjnolccabjaa


/- The dual of a plane net is plane. -/
namespace Go.Proofs.Ytoegjnolccabjaa
open Go Go.RowKit

theorem Sp.behind_twice {nx : List Int} (hev : nx.length % 2 = 0) : Sp.behindL (Sp.behindL nx) = nx := by
  have hl : (Sp.behindL (Sp.behindL nx)).length = nx.length := by rw [Sp.behindL_len, Sp.behindL_len]
  refine List.ext_getElem hl fun i h1 h2 => ?_
  have ho := oth_lt h2 hev
  have e : (Sp.behindL (Sp.behindL nx)).getD i 0 = nx.getD i 0 := by
    rw [Sp.behindL_get _ _ (by rw [Sp.behindL_len]; exact h2), Sp.behindL_get _ _ ho, oth_oth]
  rw [Sp.getD_eq _ _ h1, Sp.getD_eq _ _ h2] at e
  exact e
/-- What is asked of a plane net, small enough for its dual to be one. -/
structure Sp.DualQ (q : Sp.Net) : Prop where
  link : Sp.LinkQ q
  le : q.tail.length ≤ 48
  l0 : 0 < q.tail.length
  n0 : 1 ≤ q.n
  n1 : q.n ≤ 60
  tb : ∀ x ∈ q.tail, 0 ≤ x ∧ x < q.n
  cb : ∀ x ∈ q.cap, 0 ≤ x ∧ x ≤ 2147483648
  pl : Sp.Plain q
theorem Sp.DualQ.fp {q : Sp.Net} (h : Sp.DualQ q) : Sp.Perm (Sp.behindL q.next) := h.link.pm.behind (by rw [h.link.nx]; exact h.link.ev)
theorem Sp.DualQ.bl {q : Sp.Net} (h : Sp.DualQ q) : (Sp.behindL q.next).length = q.tail.length := by rw [Sp.behindL_len, h.link.nx]
theorem Sp.DualQ.cls {q : Sp.Net} (h : Sp.DualQ q) : Cls q.tail.length (Sp.fn (Sp.behindL q.next)) (fun i => ((Sp.faces2 q).1.getD i 0).toNat) (Sp.faces2 q).2 := by
  have hst := (Sp.faces2_st h.link.pm h.link.nx h.link.ev).cls
  rw [h.bl] at hst
  exact hst
theorem Sp.DualQ.mp {q : Sp.Net} (h : Sp.DualQ q) : ∀ i, i < q.tail.length → Sp.fn (Sp.behindL q.next) i < q.tail.length := fun i hi => by
  have := h.fp.fnP.mp i (by rw [h.bl]; exact hi)
  rw [h.bl] at this; exact this
theorem Sp.DualQ.mpN {q : Sp.Net} (h : Sp.DualQ q) : ∀ i, i < q.tail.length → Sp.fn q.next i < q.tail.length := fun i hi => by
  have := h.link.pm.fnP.mp i (by rw [h.link.nx]; exact hi)
  rw [h.link.nx] at this; exact this
theorem Sp.DualQ.k1 {q : Sp.Net} (h : Sp.DualQ q) : 1 ≤ (Sp.faces2 q).2 := by have := h.cls.lt 0 h.l0; omega
theorem Sp.DualQ.euler {q : Sp.Net} (h : Sp.DualQ q) : q.n - ((q.tail.length / 2 : Nat) : Int) + (((Sp.faces2 q).2 : Nat) : Int) = 2 := by
  obtain ⟨lab, F, hf, hE⟩ := h.pl.face
  rw [h.cls.count h.mp hf]
  exact hE
/-- Labels, as numbers. -/
theorem Sp.DualQ.fb {q : Sp.Net} (h : Sp.DualQ q) {i : Nat} (hi : i < q.tail.length) : 0 ≤ (Sp.faces2 q).1.getD i 0 ∧ (Sp.faces2 q).1.getD i 0 < ((Sp.faces2 q).2 : Int) := by
  have hst := Sp.faces2_st h.link.pm h.link.nx h.link.ev
  have h1 := hst.done i (by rw [h.bl]; exact hi)
  have h2 := h.cls.lt i hi
  omega
theorem Sp.DualQ.turn {q : Sp.Net} (h : Sp.DualQ q) {d : Nat} (hd : d < q.tail.length) : (Sp.faces2 q).1.getD (Sp.fn q.next d) 0 = (Sp.faces2 q).1.getD (Sp.oth d) 0 := by
  have ho := oth_lt hd h.link.ev
  have e : Sp.fn (Sp.behindL q.next) (Sp.oth d) = Sp.fn q.next d := by
    unfold Sp.fn
    rw [Sp.behindL_get _ _ (by rw [h.link.nx]; exact ho), oth_oth]
  have h1 := h.cls.inv _ ho
  rw [e] at h1
  have h2 := h.fb (h.mpN d hd)
  have h3 := h.fb ho
  omega
theorem Sp.DualQ.about {q : Sp.Net} (h : Sp.DualQ q) {d : Nat} (hd : d < q.tail.length) (m : Nat) : Sp.Reach (Sp.faces2 q).1 ((Sp.faces2 q).1.getD d 0) ((Sp.faces2 q).1.getD (itf (Sp.fn q.next) d m) 0) := by
  have hF := Sp.faces2_len q
  have hb : ∀ m, itf (Sp.fn q.next) d m < q.tail.length := fun m => by
    have := h.link.pm.fnP.it (by rw [h.link.nx]; exact hd) m
    rw [h.link.nx] at this; exact this
  induction m with
  | zero => exact .refl _
  | succ m ih =>
    show Sp.Reach _ _ ((Sp.faces2 q).1.getD (Sp.fn q.next (itf (Sp.fn q.next) d m)) 0)
    rw [h.turn (hb m)]
    exact ih.step (by rw [hF]; exact hb m)
theorem Sp.DualQ.same {q : Sp.Net} (h : Sp.DualQ q) {d e : Nat} (hd : d < q.tail.length) (he : e < q.tail.length) (ht : q.tail.getD d 0 = q.tail.getD e 0) : Sp.Reach (Sp.faces2 q).1 ((Sp.faces2 q).1.getD d 0) ((Sp.faces2 q).1.getD e 0) := by
  obtain ⟨m, rfl⟩ := h.pl.vert.sep d e hd he (by show (q.tail.getD d 0).toNat = (q.tail.getD e 0).toNat; rw [ht])
  exact h.about hd m
theorem Sp.DualQ.all {q : Sp.Net} (h : Sp.DualQ q) {d : Nat} (hd : d < q.tail.length) {v : Int} (hr : Sp.Reach q.tail (q.tail.getD d 0) v) : ∀ e, e < q.tail.length → q.tail.getD e 0 = v → Sp.Reach (Sp.faces2 q).1 ((Sp.faces2 q).1.getD d 0) ((Sp.faces2 q).1.getD e 0) := by
  have hF := Sp.faces2_len q
  refine hr.ind (p := fun v => ∀ e, e < q.tail.length → q.tail.getD e 0 = v → Sp.Reach (Sp.faces2 q).1 ((Sp.faces2 q).1.getD d 0) ((Sp.faces2 q).1.getD e 0)) (fun e he hv => h.same hd he hv.symm) fun c hc _ ih e he hv => ?_
  have ho := oth_lt hc h.link.ev
  have h1 := (ih c hc rfl).step (by rw [hF]; exact hc)
  exact h1.trans (h.same ho he hv.symm)
theorem Sp.DualQ.plain {q : Sp.Net} (h : Sp.DualQ q) : Sp.Plain (Sp.dual q) := by
  have hF := Sp.faces2_len q
  have hk := h.k1
  have hn : (Sp.dual q).n = (((Sp.faces2 q).2 : Nat) : Int) := by show ((max (Sp.faces2 q).2 1 : Nat) : Int) = _; omega
  have ht : (Sp.dual q).tail = (Sp.faces2 q).1 := rfl
  have hx : (Sp.dual q).next = Sp.behindL q.next := rfl
  refine ⟨?_, ⟨fun i => (q.tail.getD i 0).toNat, q.n.toNat, ?_, ?_⟩, fun v h0 h1 => ?_⟩
  · rw [ht, hF, hx, hn, Int.toNat_natCast]
    exact h.cls
  · rw [ht, hF, hx, Sp.behind_twice (by rw [h.link.nx]; exact h.link.ev)]
    exact h.pl.vert
  · rw [hn, ht, hF]
    have := h.euler
    have := h.n0
    omega
  · rw [ht]
    rw [hn] at h1
    obtain ⟨x, hx1, hx2⟩ := h.cls.on 0 (by omega)
    obtain ⟨y, hy1, hy2⟩ := h.cls.on v.toNat (by omega)

    have bx := h.fb hx1
    have bY := h.fb hy1
    have ex : (Sp.faces2 q).1.getD x 0 = 0 := by omega
    have ey : (Sp.faces2 q).1.getD y 0 = v := by omega
    have tx := h.tb _ (Sp.getD_mem (l := q.tail) hx1)
    have ty := h.tb _ (Sp.getD_mem (l := q.tail) hy1)
    have r := ((h.pl.conn _ tx.1 tx.2).symm h.link.ev).trans (h.pl.conn _ ty.1 ty.2)
    have := h.all hx1 r y hy1 rfl
    rw [ex, ey] at this
    exact this
theorem Sp.DualQ.half {q : Sp.Net} (h : Sp.DualQ q) : (Sp.faces2 q).2 ≤ 48 := by have := Sp.faces2_le q; have := h.le; omega
theorem Sp.DualQ.dlink {q : Sp.Net} (h : Sp.DualQ q) : Sp.LinkQ (Sp.dual q) := by
  have hF := Sp.faces2_len q
  refine ⟨?_, ?_, ?_, ?_, h.fp⟩
  · show (Sp.behindL q.next).length = (Sp.faces2 q).1.length; rw [hF, h.bl]
  · show q.cap.length = (Sp.faces2 q).1.length; rw [hF, h.link.cp]
  · show (Sp.faces2 q).1.length ≤ 60; rw [hF]; exact h.link.le
  · show (Sp.faces2 q).1.length % 2 = 0; rw [hF]; exact h.link.ev
theorem Sp.DualQ.dtb {q : Sp.Net} (h : Sp.DualQ q) : ∀ x ∈ (Sp.dual q).tail, 0 ≤ x ∧ x < (Sp.dual q).n := by
  have hF := Sp.faces2_len q
  have hk := h.k1
  have hn : (Sp.dual q).n = (((Sp.faces2 q).2 : Nat) : Int) := by show ((max (Sp.faces2 q).2 1 : Nat) : Int) = _; omega
  intro x hx
  rw [hn]
  have hx' : x ∈ (Sp.faces2 q).1 := hx
  obtain ⟨i, hi, rfl⟩ := List.getElem_of_mem hx'
  have := h.fb (i := i) (by rw [← hF]; exact hi)
  rw [Sp.getD_eq _ _ hi] at this
  exact this
theorem Sp.DualQ.dn {q : Sp.Net} (h : Sp.DualQ q) : (Sp.dual q).n = (((Sp.faces2 q).2 : Nat) : Int) := by
  have hk := h.k1
  show ((max (Sp.faces2 q).2 1 : Nat) : Int) = _
  omega
theorem Sp.DualQ.dualQ {q : Sp.Net} (h : Sp.DualQ q) : Sp.DualQ (Sp.dual q) := by
  have hF := Sp.faces2_len q
  have hk := h.k1
  have hh := h.half
  refine ⟨h.dlink, ?_, ?_, ?_, ?_, h.dtb, h.cb, h.plain⟩
  · show (Sp.faces2 q).1.length ≤ 48; rw [hF]; exact h.le
  · show 0 < (Sp.faces2 q).1.length; rw [hF]; exact h.l0
  · rw [h.dn]; omega
  · rw [h.dn]; omega
theorem Sp.DualQ.walk {q : Sp.Net} (h : Sp.DualQ q) : Sp.walkB q = true :=
  walkB_of ⟨h.n1, by have := h.n0; omega, by have := h.le; omega, h.link.ev, h.link.nx, h.link.cp, h.link.pm.bd, h.tb⟩
/-- The dual's faces are as many as the vertices. -/
theorem Sp.DualQ.count {q : Sp.Net} (h : Sp.DualQ q) : ((max (Sp.faces2 (Sp.dual q)).2 1 : Nat) : Int) = q.n := by
  have e1 := h.euler
  have e2 := h.dualQ.euler
  rw [h.dn] at e2
  have hl : (Sp.dual q).tail.length = q.tail.length := Sp.faces2_len q
  rw [hl] at e2
  have := h.n0
  omega
theorem Sp.dualQ_plane (ns : List Int) : Sp.plane ns = ⟨1, [], [], []⟩ ∨ Sp.DualQ (Sp.plane ns) := by
  have hq := Sp.plane_ok ns
  rcases Sp.plane_plain ns with e | ⟨h1, h2⟩
  · exact .inl e
  · exact .inr ⟨Sp.linkQ_plane ns, hq.le, h1, hq.n0, by have := hq.n1; omega, hq.tb, hq.cb, h2⟩
end Go.Proofs.Ytoegjnolccabjaa


/- rim: what a land is; its arcs are arcs. -/
namespace Go.Proofs.Ytoegjnolccabjaa
open Go Go.RowKit

/-- What the walks of stage 8 take of a net. -/
structure Sp.RimQ (q : Sp.Net) : Prop where
  link : Sp.LinkQ q
  le : q.tail.length ≤ 48
  n0 : 1 ≤ q.n
  n1 : q.n ≤ 60
  cb : ∀ x ∈ q.cap, 0 ≤ x ∧ x ≤ 2147483648
  fb : ∀ i, i < q.tail.length → 0 ≤ (Sp.faces2 q).1.getD i 0 ∧ (Sp.faces2 q).1.getD i 0 < ((Sp.faces2 q).2 : Int)
  walk : Sp.walkB q = true
  chk : Sp.checkI q = 0
theorem Sp.splitAt_rng {x : Nat → Nat} {K f : Int} {jb : Nat} {F : List Int} {p : Int → Prop} (hK : p K) (hf : p f) (hF : ∀ i, i < F.length → p (F.getD i 0)) : ∀ j i, i < F.length → p ((Sp.splitAt x K f jb F j).getD i 0)
  | 0, i, hi => hF i hi
  | j + 1, i, hi => by
    have ih := Sp.splitAt_rng (x := x) (jb := jb) hK hf hF j i hi
    rw [Sp.splitAt, List.getD_eq_getElem?_getD, List.getElem?_set]
    split
    · rename_i e
      split
      · simp only [Option.getD_some]
        split
        · exact hK
        · exact hf
      · rename_i h2
        rw [Sp.splitAt_len] at h2
        omega
    · rw [← List.getD_eq_getElem?_getD]; exact ih
/-- The faces of a land. -/
def Sp.landK (q : Sp.Net) : Nat := max (Sp.faces2 q).2 1
theorem Sp.RimQ.kle {q : Sp.Net} (h : Sp.RimQ q) : Sp.landK q + 1 ≤ 49 := by
  have := Sp.faces2_le q
  have := h.le
  unfold Sp.landK
  omega
theorem Sp.RimQ.flt {q : Sp.Net} (h : Sp.RimQ q) {s t : Int} {f d0 a jb : Nat} (hs : Sp.SplitQ q s t f d0 a jb) : f < Sp.landK q := by
  have h1 := (h.fb d0 hs.d0l).2
  rw [hs.d0f] at h1
  unfold Sp.landK
  omega
theorem Sp.splitL_len (q : Sp.Net) (f d0 a jb : Nat) : (Sp.splitL q f d0 a jb).length = q.tail.length := by
  unfold Sp.splitL
  rw [Sp.splitAt_len, Sp.faces2_len]
theorem Sp.RimQ.rng {q : Sp.Net} (h : Sp.RimQ q) {s t : Int} {f d0 a jb : Nat} (hs : Sp.SplitQ q s t f d0 a jb) {d : Nat} (hd : d < q.tail.length) : 0 ≤ (Sp.splitL q f d0 a jb).getD d 0 ∧ (Sp.splitL q f d0 a jb).getD d 0 < ((Sp.landK q + 1 : Nat) : Int) := by
  have hf := h.flt hs
  unfold Sp.landK at hf ⊢
  unfold Sp.splitL
  refine Sp.splitAt_rng (p := fun z => 0 ≤ z ∧ z < ((max (Sp.faces2 q).2 1 + 1 : Nat) : Int)) (by omega) (by omega) (fun i hi => ?_) _ d (by rw [Sp.faces2_len]; exact hd)
  rw [Sp.faces2_len] at hi
  have := h.fb i hi
  omega
theorem Sp.RimQ.capd {q : Sp.Net} (h : Sp.RimQ q) (d : Nat) : 0 ≤ q.cap.getD d 0 ∧ q.cap.getD d 0 ≤ 2147483648 := by
  rw [List.getD_eq_getElem?_getD]
  by_cases hd : d < q.cap.length
  · rw [List.getElem?_eq_getElem hd]
    exact h.cb _ (List.getElem_mem hd)
  · rw [List.getElem?_eq_none (by omega)]
    exact ⟨Int.le_refl _, by decide⟩
theorem Sp.RimQ.sndR {q : Sp.Net} (h : Sp.RimQ q) {s t : Int} {f d0 a jb : Nat} (hs : Sp.SplitQ q s t f d0 a jb) : Sp.Snd (Sp.landK q + 1) (Sp.rimR (Sp.splitL q f d0 a jb) q.cap q.tail.length) where
  few := by rw [Sp.rimR_len]; have := h.le; omega
  at_ := fun x hx => by
    obtain ⟨d, hd, rfl⟩ := Sp.mem_rimR.1 hx
    have h1 := h.rng hs hd
    have h2 := h.rng hs (oth_lt hd h.link.ev)
    have h3 := h.capd d
    refine ⟨?_, ?_, ?_, ?_⟩
    · show ((Sp.splitL q f d0 a jb).getD d 0).toNat < _; omega
    · show ((Sp.splitL q f d0 a jb).getD (Sp.oth d) 0).toNat < _; omega
    · show _ ≤ q.cap.getD d 0; omega
    · show q.cap.getD d 0 ≤ _; omega
theorem Sp.RimQ.posR {q : Sp.Net} (h : Sp.RimQ q) (F : List Int) (m : Nat) : ∀ x ∈ Sp.rimR F q.cap m, 0 ≤ x.l := fun x hx => by
  obtain ⟨d, hd, rfl⟩ := Sp.mem_rimR.1 hx
  exact (h.capd d).1
theorem Sp.RimQ.sndL {q : Sp.Net} (h : Sp.RimQ q) {s t : Int} {f d0 a jb : Nat} (hs : Sp.SplitQ q s t f d0 a jb) : Sp.Snd (Sp.landK q + 1) (Sp.rimL (Sp.splitL q f d0 a jb) q.cap q.tail.length) where
  few := by have := Sp.rimL_len (Sp.splitL q f d0 a jb) q.cap q.tail.length; have := h.le; omega
  at_ := fun x hx => (h.sndR hs).at_ x (Sp.rimL_mem _ _ _ x hx)
theorem Sp.RimQ.posL {q : Sp.Net} (h : Sp.RimQ q) (F : List Int) (m : Nat) : ∀ x ∈ Sp.rimL F q.cap m, 0 ≤ x.l := fun x hx => h.posR F m x (Sp.rimL_mem _ _ _ x hx)
theorem Sp.RimQ.of_dual {q : Sp.Net} (h : Sp.DualQ q) (hw : Sp.walkB q = true) (hc : Sp.checkI q = 0) : Sp.RimQ q := ⟨h.link, h.le, h.n0, h.n1, h.cb, fun _ hi => h.fb hi, hw, hc⟩
end Go.Proofs.Ytoegjnolccabjaa


/- rim: survey where there is a land. -/
namespace Go.Proofs.Ytoegjnolccabjaa
open Go Go.RowKit

set_option maxRecDepth 100000 in
set_option maxHeartbeats 8000000 in
theorem survey_yes (q : Sp.Net) (v tv nv cv : Value) (s t : Int) (w : World) (hv : NetI w v q tv nv cv) (f d0 a jb : Nat) (h0 : 0 ≤ s ∧ s < q.n) (h1 : 0 ≤ t ∧ t < q.n) (hst : s ≠ t) (hq : Sp.RimQ q) (hs : Sp.SplitQ q s t f d0 a jb) :
    Calls Try.prog 27 #[v, .int .i64 s, .int .i64 t] w fun e w' => ∃ O G D, e = .returned (.tuple #[.agg #[.slice (some ⟨O, 0, none⟩) q.tail.length q.tail.length, .slice (some ⟨G, 0, none⟩) (Sp.landK q + 1) (Sp.landK q + 1), .int .i64 ((Sp.landK q : Nat) : Int)], .int .i64 0]) ∧ OwnI w' w.heap.size (.slice (some ⟨O, 0, none⟩) q.tail.length q.tail.length) (Sp.splitL q f d0 a jb) ∧ w.heap.size ≤ G ∧ RowAt w' G (Sp.landK q + 1) D ∧ Below w.heap.size w w' ∧ Sp.Short 1152921504606846976 (Sp.rimR (Sp.splitL q f d0 a jb) q.cap q.tail.length) f (Sp.landK q + 1) D ∧ ∀ v, v < Sp.landK q + 1 → D v ≠ 1152921504606846976 → D v < 1152921504606846976 := by
  have hv' := hv
  obtain ⟨rfl, h1, h2, h3⟩ := hv
  obtain ⟨ta, tc, rfl, -, -⟩ := h1.form
  obtain ⟨na, nc, rfl, -, -⟩ := h2.form
  obtain ⟨ca, cc, rfl, -, -⟩ := h3.form
  have HFX : Hid (∀ w', Below (w.heap.size + 2) ((w.alloc (.cells #[.int .i64 q.n, .slice ta q.tail.length tc, .slice na q.next.length nc, .slice ca q.cap.length cc] 25)).alloc (.cells #[.slice none 0 0, .slice none 0 0, .int .i64 0] 54)) w' → w'.cell? ⟨w.heap.size, 0, none⟩ = some (.int .i64 q.n) ∧ w'.cell? ⟨w.heap.size, 1, none⟩ = some (.slice ta q.tail.length tc) ∧ w'.cell? ⟨w.heap.size, 2, none⟩ = some (.slice na q.next.length nc) ∧ w'.cell? ⟨w.heap.size, 3, none⟩ = some (.slice ca q.cap.length cc)) := hide fun w' hb => survey_fx w _ _ _ _ w' hb
  have HGX : Hid (∀ w', Below (w.heap.size + 2) ((w.alloc (.cells #[.int .i64 q.n, .slice ta q.tail.length tc, .slice na q.next.length nc, .slice ca q.cap.length cc] 25)).alloc (.cells #[.slice none 0 0, .slice none 0 0, .int .i64 0] 54)) w' → w'.cell? ⟨w.heap.size + 1, 0, none⟩ = some (.slice none 0 0) ∧ w'.cell? ⟨w.heap.size + 1, 1, none⟩ = some (.slice none 0 0) ∧ w'.cell? ⟨w.heap.size + 1, 2, none⟩ = some (.int .i64 0) ∧ (∀ k, w'.frozen? ⟨w.heap.size + 1, k, none⟩ = false)) := hide fun w' hb => survey_gx w _ _ _ _ w' hb
  have HW : Hid (∀ w', Below (w.heap.size + 2) ((w.alloc (.cells #[.int .i64 q.n, .slice ta q.tail.length tc, .slice na q.next.length nc, .slice ca q.cap.length cc] 25)).alloc (.cells #[.slice none 0 0, .slice none 0 0, .int .i64 0] 54)) w' → Below w.heap.size w w') := hide fun w' hb => survey_w w _ _ _ _ w' hb
  have HS2 : Hid (((w.alloc (.cells #[.int .i64 q.n, .slice ta q.tail.length tc, .slice na q.next.length nc, .slice ca q.cap.length cc] 25)).alloc (.cells #[.slice none 0 0, .slice none 0 0, .int .i64 0] 54)).heap.size = w.heap.size + 2) := hide (by simp)
  have HV : Hid (∀ w', Below (w.heap.size + 2) ((w.alloc (.cells #[.int .i64 q.n, .slice ta q.tail.length tc, .slice na q.next.length nc, .slice ca q.cap.length cc] 25)).alloc (.cells #[.slice none 0 0, .slice none 0 0, .int .i64 0] 54)) w' → NetI w' (.agg #[.int .i64 q.n, .slice ta q.tail.length tc, .slice na q.next.length nc, .slice ca q.cap.length cc]) q (.slice ta q.tail.length tc) (.slice na q.next.length nc) (.slice ca q.cap.length cc)) := hide fun w' hb => NetI.below ⟨rfl, h1, h2, h3⟩ (unhide HW _ hb)
  have HIs : Hid (∀ w', Below (w.heap.size + 2) ((w.alloc (.cells #[.int .i64 q.n, .slice ta q.tail.length tc, .slice na q.next.length nc, .slice ca q.cap.length cc] 25)).alloc (.cells #[.slice none 0 0, .slice none 0 0, .int .i64 0] 54)) w' → Calls Try.prog 37 #[.agg #[.int .i64 q.n, .slice ta q.tail.length tc, .slice na q.next.length nc, .slice ca q.cap.length cc], .int .i64 s] w' fun e w'' => e = .returned (.bool (decide (0 ≤ s ∧ s < q.n))) ∧ Below w'.heap.size w' w'') := hide fun w' hb => rmvertex_any q _ _ _ _ s w' (unhide HV w' hb)
  have HIt : Hid (∀ w', Below (w.heap.size + 2) ((w.alloc (.cells #[.int .i64 q.n, .slice ta q.tail.length tc, .slice na q.next.length nc, .slice ca q.cap.length cc] 25)).alloc (.cells #[.slice none 0 0, .slice none 0 0, .int .i64 0] 54)) w' → Calls Try.prog 37 #[.agg #[.int .i64 q.n, .slice ta q.tail.length tc, .slice na q.next.length nc, .slice ca q.cap.length cc], .int .i64 t] w' fun e w'' => e = .returned (.bool (decide (0 ≤ t ∧ t < q.n))) ∧ Below w'.heap.size w' w'') := hide fun w' hb => rmvertex_any q _ _ _ _ t w' (unhide HV w' hb)
  clear h1 h2 h3
  rw [decide_eq_true h0] at HIs
  rw [decide_eq_true h1] at HIt
  have hsb : (s == t) = false := beq_eq_false_iff_ne.2 hst
  have HSp : Hid (∀ w', Below (w.heap.size + 2) ((w.alloc (.cells #[.int .i64 q.n, .slice ta q.tail.length tc, .slice na q.next.length nc, .slice ca q.cap.length cc] 25)).alloc (.cells #[.slice none 0 0, .slice none 0 0, .int .i64 0] 54)) w' → Calls Try.prog 38 #[.agg #[.int .i64 q.n, .slice ta q.tail.length tc, .slice na q.next.length nc, .slice ca q.cap.length cc], .int .i64 s, .int .i64 t] w' fun e w'' => ∃ O, e = .returned (.tuple #[.slice (some ⟨O, 0, none⟩) q.tail.length q.tail.length, .int .i64 (((Sp.landK q : Nat) : Int) + 1), .int .i64 (f : Int), .int .i64 ((Sp.landK q : Nat) : Int), .bool true]) ∧ OwnI w'' w'.heap.size (.slice (some ⟨O, 0, none⟩) q.tail.length q.tail.length) (Sp.splitL q f d0 a jb) ∧ Below w'.heap.size w' w'') := hide fun w' hb => dsplit_any q _ _ _ _ s t f d0 a jb w' (unhide HV w' hb) hq.link hq.walk hq.chk (by have := hq.n0; omega) (by have := hq.n1; omega) hs
  have HCp : Hid (∀ w', Below (w.heap.size + 2) ((w.alloc (.cells #[.int .i64 q.n, .slice ta q.tail.length tc, .slice na q.next.length nc, .slice ca q.cap.length cc] 25)).alloc (.cells #[.slice none 0 0, .slice none 0 0, .int .i64 0] 54)) w' → Ints w' (.slice ca q.cap.length cc) q.cap) := hide fun w' hb => (unhide HV w' hb).cap
  have HAr : Hid (∀ w' O, Below (w.heap.size + 2) ((w.alloc (.cells #[.int .i64 q.n, .slice ta q.tail.length tc, .slice na q.next.length nc, .slice ca q.cap.length cc] 25)).alloc (.cells #[.slice none 0 0, .slice none 0 0, .int .i64 0] 54)) w' → Ints w' (.slice (some ⟨O, 0, none⟩) q.tail.length q.tail.length) (Sp.splitL q f d0 a jb) → Calls Try.prog 40 #[.agg #[.slice (some ⟨O, 0, none⟩) q.tail.length q.tail.length, .slice none 0 0, .int .i64 ((Sp.landK q : Nat) : Int)], .slice ca q.cap.length cc] w' fun e w'' => ∃ v, e = .returned v ∧ OwnA w'' w'.heap.size v (Sp.rimL (Sp.splitL q f d0 a jb) q.cap q.tail.length) ∧ Below w'.heap.size w' w'') := hide fun w' O hb hI => rmarcs_any (Sp.splitL q f d0 a jb) q.cap _ _ ((Sp.landK q : Nat) : Int) q.tail.length w' hI (unhide HCp w' hb) (Sp.splitL_len q f d0 a jb) hq.link.cp hq.link.ev (by have := hq.le; omega) (fun d hd => (hq.rng hs hd).1)
  have HFr : Hid (∀ w' v, ArcsI w' v (Sp.rimL (Sp.splitL q f d0 a jb) q.cap q.tail.length) → Calls Try.prog 39 #[.int .i64 (((Sp.landK q : Nat) : Int) + 1), v, .int .i64 (f : Int)] w' fun e w'' => ∃ G D, e = .returned (.slice (some ⟨G, 0, none⟩) (Sp.landK q + 1) (Sp.landK q + 1)) ∧ w'.heap.size ≤ G ∧ RowAt w'' G (Sp.landK q + 1) D ∧ Below w'.heap.size w' w'' ∧ Sp.Short 1152921504606846976 (Sp.rimL (Sp.splitL q f d0 a jb) q.cap q.tail.length) f (Sp.landK q + 1) D ∧ ∀ v, v < Sp.landK q + 1 → D v ≠ 1152921504606846976 → D v < 1152921504606846976) := hide fun w' v hA => by
    have h := from_any (Sp.landK q + 1) _ f v w' hA (hq.sndL hs) (hq.posL _ _) (by have := hq.flt hs; omega) (by have := hq.kle; omega)
    rwa [show ((Sp.landK q + 1 : Nat) : Int) = ((Sp.landK q : Nat) : Int) + 1 by omega] at h
  have HM := hide (show q.tail.length ≤ 48 from hq.le)
  clear hv' hq hs
  have hbz := Below.refl (w.heap.size + 2) ((w.alloc (.cells #[.int .i64 q.n, .slice ta q.tail.length tc, .slice na q.next.length nc, .slice ca q.cap.length cc] 25)).alloc (.cells #[.slice none 0 0, .slice none 0 0, .int .i64 0] 54))
  obtain ⟨x0, x1, x2, x3⟩ := unhide HFX _ hbz
  obtain ⟨P, hP⟩ : ∃ P : Ending → World → Prop, P = fun e w' => ∃ O G D, e = .returned (.tuple #[.agg #[.slice (some ⟨O, 0, none⟩) q.tail.length q.tail.length, .slice (some ⟨G, 0, none⟩) (Sp.landK q + 1) (Sp.landK q + 1), .int .i64 ((Sp.landK q : Nat) : Int)], .int .i64 0]) ∧ OwnI w' w.heap.size (.slice (some ⟨O, 0, none⟩) q.tail.length q.tail.length) (Sp.splitL q f d0 a jb) ∧ w.heap.size ≤ G ∧ RowAt w' G (Sp.landK q + 1) D ∧ Below w.heap.size w w' ∧ Sp.Short 1152921504606846976 (Sp.rimR (Sp.splitL q f d0 a jb) q.cap q.tail.length) f (Sp.landK q + 1) D ∧ ∀ v, v < Sp.landK q + 1 → D v ≠ 1152921504606846976 → D v < 1152921504606846976 := ⟨_, rfl⟩
  rw [← hP]
  have HP := hide hP
  clear hP
  go_enter Try.func27, Try.ntmps27
  go_wp2_with fail
  go_at_call 37
  refine (unhide HIs _ hbz).mono ?_
  rintro e wa ⟨rfl, hlwa⟩
  have hbwa := Below.trans hbz (hlwa.mono (by have h1 := Below.size hbz; have h2 := unhide HS2; omega))
  clear x0 x1 x2 x3
  obtain ⟨x0, x1, x2, x3⟩ := unhide HFX _ hbwa
  go_wp2_with fail
  go_at_call 37
  refine (unhide HIt _ hbwa).mono ?_
  rintro e wb ⟨rfl, hlwb⟩
  have hbwb := Below.trans hbwa (hlwb.mono (by have h1 := Below.size hbwa; have h2 := unhide HS2; omega))
  clear x0 x1 x2 x3
  obtain ⟨x0, x1, x2, x3⟩ := unhide HFX _ hbwb
  go_wp2_with fail
  go_at_call 38
  refine (unhide HSp _ hbwb).mono ?_
  rintro e wd ⟨O, rfl, hOd, hld⟩
  have hbwd := Below.trans hbwb (hld.mono (by have h1 := Below.size hbwb; have h2 := unhide HS2; omega))
  have hszd : w.heap.size + 2 ≤ wd.heap.size := (by have h1 := Below.size hbwd; have h2 := unhide HS2; omega)
  have HO0 := hide (own_base hOd (B' := w.heap.size + 2) (by have h1 := Below.size hbwb; have h2 := unhide HS2; omega))
  obtain ⟨wl, hwl⟩ : ∃ wl, wl = wd.alloc (.cells #[.slice (some ⟨O, 0, none⟩) q.tail.length q.tail.length, .slice none 0 0, .int .i64 ((Sp.landK q : Nat) : Int)] 54) := ⟨_, rfl⟩
  have hbdl : Below wd.heap.size wd wl := by rw [hwl]; exact (Below.refl _ _).alloc (Nat.le_refl _) _
  have hsl : wl.heap.size = wd.heap.size + 1 := by rw [hwl]; simp
  have h13 : wl.heap[wd.heap.size]? = some (.cells #[.slice (some ⟨O, 0, none⟩) q.tail.length q.tail.length, .slice none 0 0, .int .i64 ((Sp.landK q : Nat) : Int)] 54) := by rw [hwl]; exact heap_alloc_new _ _
  have hbwl := Below.trans hbwd (hbdl.mono hszd)
  have HL13 : Hid (∀ w', Below wl.heap.size wl w' → w'.heap[wd.heap.size]? = some (.cells #[.slice (some ⟨O, 0, none⟩) q.tail.length q.tail.length, .slice none 0 0, .int .i64 ((Sp.landK q : Nat) : Int)] 54)) := hide fun w' hb => (hb.block _ (by omega)).trans h13
  have HArl := hide (unhide HAr wl O hbwl (OwnI.ints (own_below hOd hbdl)))
  have HBd := hide hbwd
  have HBl := hide (And.intro hbwl (And.intro hbdl (show wd.heap.size + 1 ≤ wl.heap.size by omega)))
  have y0 : wl.cell? ⟨wd.heap.size, 0, none⟩ = some (.slice (some ⟨O, 0, none⟩) q.tail.length q.tail.length) := by rw [cell_of_row _ _ _ _ _ _ h13]; rfl
  have y1 : wl.cell? ⟨wd.heap.size, 1, none⟩ = some (.slice none 0 0) := by rw [cell_of_row _ _ _ _ _ _ h13]; rfl
  have y2 : wl.cell? ⟨wd.heap.size, 2, none⟩ = some (.int .i64 ((Sp.landK q : Nat) : Int)) := by rw [cell_of_row _ _ _ _ _ _ h13]; rfl
  clear x0 x1 x2 x3
  obtain ⟨x0, x1, x2, x3⟩ := unhide HFX _ hbwl
  clear hbz hlwa hbwa hlwb hbwb hld hbwd hbdl hsl h13 hbwl hOd HSp HAr HCp HIs HIt
  go_upto_region 9 with fail
  rw [← hwl]
  clear hwl
  go_wp2_with fail
  go_at_call 40
  refine (unhide HArl).mono ?_
  rintro e we ⟨av, rfl, hA, hle⟩
  have HAI := hide hA.arcs
  have HBe := hide (And.intro (Below.trans (unhide HBl).1 (hle.mono (by have := (unhide HBl).2.2; omega))) (And.intro hle (Nat.le_trans (unhide HBl).2.2 hle.size)))
  clear hA hle HArl x0 x1 x2 x3 y0 y1 y2
  go_wp2_with fail
  go_at_call 39
  refine (unhide HFr we av (unhide HAI)).mono ?_
  rintro e wf ⟨G, D, rfl, hG, hrow, hlf, hsh, hbd⟩
  have hle := (unhide HBe).2.1
  have hblf : Below wl.heap.size wl wf := hle.trans (hlf.mono hle.size)
  have e13 := unhide HL13 wf hblf
  have HDD := hide (And.intro hsh hbd)
  have hGd : wd.heap.size + 1 ≤ G := Nat.le_trans (unhide HBe).2.2 hG
  have y1 : wf.cell? ⟨wd.heap.size, 1, none⟩ = some (.slice none 0 0) := by rw [cell_of_row _ _ _ _ _ _ e13]; rfl
  have yf : ∀ k, wf.frozen? ⟨wd.heap.size, k, none⟩ = false := fun k => by simp only [World.frozen?, e13]; rfl
  have hbdf : Below wd.heap.size wd wf := (unhide HBl).2.1.trans (hblf.mono (unhide HBl).2.1.size)
  have HBf := hide (And.intro hbdf (And.intro hrow e13))
  have Hszd := hide hszd
  clear hle hblf hbdf hlf hsh hbd hrow e13 HFr HAI HBe HL13 HBl hszd
  go_upto_region 10 with fail
  have e14 : (wf.setCell ⟨wd.heap.size, 1, none⟩ (.slice (some ⟨G, 0, none⟩) (Sp.landK q + 1) (Sp.landK q + 1))).heap[wd.heap.size]? = some (.cells #[.slice (some ⟨O, 0, none⟩) q.tail.length q.tail.length, .slice (some ⟨G, 0, none⟩) (Sp.landK q + 1) (Sp.landK q + 1), .int .i64 ((Sp.landK q : Nat) : Int)] 54) := by
    simp only [World.setCell, Array.getElem?_modify, if_pos, (unhide HBf).2.2]; rfl
  have hbdz : Below wd.heap.size wd (wf.setCell ⟨wd.heap.size, 1, none⟩ (.slice (some ⟨G, 0, none⟩) (Sp.landK q + 1) (Sp.landK q + 1))) := (unhide HBf).1.setCell (p := ⟨wd.heap.size, 1, none⟩) (Nat.le_refl _) _
  have hrz : RowAt (wf.setCell ⟨wd.heap.size, 1, none⟩ (.slice (some ⟨G, 0, none⟩) (Sp.landK q + 1) (Sp.landK q + 1))) G (Sp.landK q + 1) D := (unhide HBf).2.1.set_ne (by omega) _ _ _
  generalize wf.setCell ⟨wd.heap.size, 1, none⟩ (.slice (some ⟨G, 0, none⟩) (Sp.landK q + 1) (Sp.landK q + 1)) = wz at *
  have hbwd : Below (w.heap.size + 2) ((w.alloc (.cells #[.int .i64 q.n, .slice ta q.tail.length tc, .slice na q.next.length nc, .slice ca q.cap.length cc] 25)).alloc (.cells #[.slice none 0 0, .slice none 0 0, .int .i64 0] 54)) wd := unhide HBd
  have HB := hide (Below.trans hbwd (hbdz.mono (unhide Hszd)))
  have HOz := hide (own_below (unhide HO0) hbdz)
  have HRz := hide hrz
  have y0 : wz.cell? ⟨wd.heap.size, 0, none⟩ = some (.slice (some ⟨O, 0, none⟩) q.tail.length q.tail.length) := by rw [cell_of_row _ _ _ _ _ _ e14]; rfl
  have y1 : wz.cell? ⟨wd.heap.size, 1, none⟩ = some (.slice (some ⟨G, 0, none⟩) (Sp.landK q + 1) (Sp.landK q + 1)) := by rw [cell_of_row _ _ _ _ _ _ e14]; rfl
  have y2 : wz.cell? ⟨wd.heap.size, 2, none⟩ = some (.int .i64 ((Sp.landK q : Nat) : Int)) := by rw [cell_of_row _ _ _ _ _ _ e14]; rfl
  obtain ⟨z0, z1, z2, zf⟩ := unhide HGX _ (unhide HB)
  have HZ : Hid (∀ w', Below (w.heap.size + 2) ((w.alloc (.cells #[.int .i64 q.n, .slice ta q.tail.length tc, .slice na q.next.length nc, .slice ca q.cap.length cc] 25)).alloc (.cells #[.slice none 0 0, .slice none 0 0, .int .i64 0] 54)) w' → w'.heap[w.heap.size + 1]? = some (.cells #[.slice none 0 0, .slice none 0 0, .int .i64 0] 54)) := hide fun w' hb => survey_z w _ _ _ _ w' hb
  have z1' := fun v : Value => show (wz.setCell ⟨w.heap.size + 1, 0, none⟩ v).cell? ⟨w.heap.size + 1, 1, none⟩ = some (.slice none 0 0) by rw [cell_set_ne (by omega)]; exact z1
  have z2' := fun v v' : Value => show ((wz.setCell ⟨w.heap.size + 1, 0, none⟩ v).setCell ⟨w.heap.size + 1, 1, none⟩ v').cell? ⟨w.heap.size + 1, 2, none⟩ = some (.int .i64 0) by rw [cell_set_ne (by omega), cell_set_ne (by omega)]; exact z2
  clear e14 hbdz hrz hbwd
  go_wp2
  have hOF : OwnI ((((wz.setCell ⟨w.heap.size + 1, 0, none⟩ (.slice (some ⟨O, 0, none⟩) q.tail.length q.tail.length)).setCell ⟨w.heap.size + 1, 1, none⟩ (.slice (some ⟨G, 0, none⟩) (Sp.landK q + 1) (Sp.landK q + 1))).setCell ⟨w.heap.size + 1, 2, none⟩ (.int .i64 ((Sp.landK q : Nat) : Int)))) (w.heap.size + 2) (.slice (some ⟨O, 0, none⟩) q.tail.length q.tail.length) (Sp.splitL q f d0 a jb) := own_store (own_store (own_store (unhide HOz) (Nat.lt_succ_self _) _ _) (Nat.lt_succ_self _) _ _) (Nat.lt_succ_self _) _ _
  have hRF : RowAt ((((wz.setCell ⟨w.heap.size + 1, 0, none⟩ (.slice (some ⟨O, 0, none⟩) q.tail.length q.tail.length)).setCell ⟨w.heap.size + 1, 1, none⟩ (.slice (some ⟨G, 0, none⟩) (Sp.landK q + 1) (Sp.landK q + 1))).setCell ⟨w.heap.size + 1, 2, none⟩ (.int .i64 ((Sp.landK q : Nat) : Int)))) G (Sp.landK q + 1) D := (((unhide HRz).set_ne (by have := unhide Hszd; omega) _ _ _).set_ne (by have := unhide Hszd; omega) _ _ _).set_ne (by have := unhide Hszd; omega) _ _ _
  have hfin : ((((wz.setCell ⟨w.heap.size + 1, 0, none⟩ (.slice (some ⟨O, 0, none⟩) q.tail.length q.tail.length)).setCell ⟨w.heap.size + 1, 1, none⟩ (.slice (some ⟨G, 0, none⟩) (Sp.landK q + 1) (Sp.landK q + 1))).setCell ⟨w.heap.size + 1, 2, none⟩ (.int .i64 ((Sp.landK q : Nat) : Int)))).heap[w.heap.size + 1]? = some (.cells #[.slice (some ⟨O, 0, none⟩) q.tail.length q.tail.length, .slice (some ⟨G, 0, none⟩) (Sp.landK q + 1) (Sp.landK q + 1), .int .i64 ((Sp.landK q : Nat) : Int)] 54) := land_set (unhide HZ _ (unhide HB)) _ _ _
  have hbf : Below w.heap.size w ((((wz.setCell ⟨w.heap.size + 1, 0, none⟩ (.slice (some ⟨O, 0, none⟩) q.tail.length q.tail.length)).setCell ⟨w.heap.size + 1, 1, none⟩ (.slice (some ⟨G, 0, none⟩) (Sp.landK q + 1) (Sp.landK q + 1))).setCell ⟨w.heap.size + 1, 2, none⟩ (.int .i64 ((Sp.landK q : Nat) : Int)))) := ((((unhide HW _ (unhide HB)).setCell (p := ⟨w.heap.size + 1, 0, none⟩) (Nat.le_succ _) _).setCell (p := ⟨w.heap.size + 1, 1, none⟩) (Nat.le_succ _) _).setCell (p := ⟨w.heap.size + 1, 2, none⟩) (Nat.le_succ _) _)
  generalize (((wz.setCell ⟨w.heap.size + 1, 0, none⟩ (.slice (some ⟨O, 0, none⟩) q.tail.length q.tail.length)).setCell ⟨w.heap.size + 1, 1, none⟩ (.slice (some ⟨G, 0, none⟩) (Sp.landK q + 1) (Sp.landK q + 1))).setCell ⟨w.heap.size + 1, 2, none⟩ (.int .i64 ((Sp.landK q : Nat) : Int))) = WF at *
  have r0 : WF.cell? ⟨w.heap.size + 1, 0, none⟩ = some (.slice (some ⟨O, 0, none⟩) q.tail.length q.tail.length) := by rw [cell_of_row _ _ _ _ _ _ hfin]; rfl
  have r1 : WF.cell? ⟨w.heap.size + 1, 1, none⟩ = some (.slice (some ⟨G, 0, none⟩) (Sp.landK q + 1) (Sp.landK q + 1)) := by rw [cell_of_row _ _ _ _ _ _ hfin]; rfl
  have r2 : WF.cell? ⟨w.heap.size + 1, 2, none⟩ = some (.int .i64 ((Sp.landK q : Nat) : Int)) := by rw [cell_of_row _ _ _ _ _ _ hfin]; rfl
  refine bodyPost_ret (v := .tuple #[.agg #[.slice (some ⟨O, 0, none⟩) q.tail.length q.tail.length, .slice (some ⟨G, 0, none⟩) (Sp.landK q + 1) (Sp.landK q + 1), .int .i64 ((Sp.landK q : Nat) : Int)], .int .i64 0]) (by simp [results, Try.results27, go_sem, r0, r1, r2]) rfl ?_
  rw [unhide HP]
  exact ⟨O, G, D, rfl, own_base hOF (by omega), by have := unhide Hszd; omega, hRF, hbf, Sp.rim_short (unhide HDD).1, (unhide HDD).2⟩
end Go.Proofs.Ytoegjnolccabjaa


