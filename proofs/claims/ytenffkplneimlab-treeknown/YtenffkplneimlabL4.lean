/- What the proof needs, part 4. -/
import Derived.Deep.RegionHeld3
import Derived.Test.YtenffkplneimlabL3
/- The law RotOnes, walked. -/
namespace Go.Proofs.Ytenffkplneimlab
open Go Go.RowKit

/-- A net that lies in a block of its own: what stays so in every world behind. -/
theorem boxed {w0 w3 : World} {q : Sp.Net} {tv nv cv : Value} (hb0 : Below w0.heap.size w0 w3) (h : NetI w3 (.agg #[.int .i64 q.n, tv, nv, cv]) q tv nv cv) (W : World) (hW : W = w3.alloc (.cells #[.int .i64 q.n, tv, nv, cv] 25)) :
    (∀ w', Below (w3.heap.size + 1) W w' → (w'.cell? ⟨w3.heap.size, 0, none⟩ = some (.int .i64 q.n) ∧ w'.cell? ⟨w3.heap.size, 1, none⟩ = some tv ∧ w'.cell? ⟨w3.heap.size, 2, none⟩ = some nv ∧ w'.cell? ⟨w3.heap.size, 3, none⟩ = some cv) ∧ NetI w' (.agg #[.int .i64 q.n, tv, nv, cv]) q tv nv cv ∧ Below w0.heap.size w0 w' ∧ w3.heap.size + 1 ≤ w'.heap.size ∧ Below w3.heap.size w3 w') ∧ W.heap.size = w3.heap.size + 1 ∧ ∀ w2 w5, Below (w3.heap.size + 1) W w2 → Below w2.heap.size w2 w5 → Below (w3.heap.size + 1) W w5 := by
  subst hW
  have hs : (w3.alloc (.cells #[.int .i64 q.n, tv, nv, cv] 25)).heap.size = w3.heap.size + 1 := by simp
  refine ⟨fun w' hb => ?_, hs, fun w2 w5 h2 h5 => h2.trans (h5.mono (by have := h2.size; omega))⟩
  obtain ⟨k0, k1, k2, k3, k4⟩ := box_new w3 q.n tv nv cv w' hb
  have hb3 : Below w3.heap.size w3 w' := ((Below.refl _ w3).alloc (Nat.le_refl _) _).trans (hb.mono (by omega))
  exact ⟨⟨k0, k1, k2, k3⟩, ⟨rfl, h.tail.below hb3, h.next.below hb3, h.cap.below hb3⟩, hb0.trans (hb3.mono hb0.size), k4, hb3⟩
theorem Sp.PlaneQ.walk {q : Sp.Net} {i : Nat} (h : Sp.PlaneQ q i) (hi : i ≤ 50) : Sp.walkB q = true := by
  have h1 := h.le
  have h2 := h.n1
  have h3 := h.n0
  exact walkB_of ⟨by omega, by omega, by omega, h.ev, h.nx, h.cp, fun x hx => h.pm.bd x hx, h.tb⟩
/-- How many labels were met among the first i. -/
structure TopAt (l : List Int) (i top : Nat) : Prop where
  lt : ∀ j, j < i → l.getD j 0 < (top : Int)
  on : ∀ c : Nat, c < top → ∃ j, j < i ∧ l.getD j 0 = (c : Int)
theorem TopAt.le {l : List Int} {i top : Nat} (h : TopAt l i top) (hr : Sp.RG l) (hi : i < l.length) : 0 ≤ l.getD i 0 ∧ l.getD i 0 ≤ (top : Int) := by
  refine ⟨hr.nn i hi, ?_⟩
  rcases Int.lt_or_le (top : Int) (l.getD i 0) with h1 | h1
  · obtain ⟨j, hj, e⟩ := hr.sm i hi top (by omega) h1
    have := h.lt j hj
    omega
  · exact h1
theorem TopAt.same {l : List Int} {i top : Nat} (h : TopAt l i top) (h1 : l.getD i 0 < (top : Int)) : TopAt l (i + 1) top := by
  refine ⟨fun j hj => ?_, fun c hc => ?_⟩
  · rcases Nat.lt_or_ge j i with h2 | h2
    · exact h.lt j h2
    · rw [show j = i by omega]; exact h1
  · obtain ⟨j, h2, h3⟩ := h.on c hc
    exact ⟨j, by omega, h3⟩
theorem TopAt.more {l : List Int} {i top : Nat} (h : TopAt l i top) (h1 : l.getD i 0 = (top : Int)) : TopAt l (i + 1) (top + 1) := by
  refine ⟨fun j hj => ?_, fun c hc => ?_⟩
  · rcases Nat.lt_or_ge j i with h2 | h2
    · have := h.lt j h2; omega
    · rw [show j = i by omega]; omega
  · by_cases hk : c = top
    · exact ⟨i, by omega, by rw [h1, hk]⟩
    · obtain ⟨j, h2, h3⟩ := h.on c (by omega)
      exact ⟨j, by omega, h3⟩
theorem TopAt.last {l : List Int} {n top k : Nat} (h : TopAt l n top) (hn : l.length = n) (hk : Sp.Num l k) : top = k := by
  rcases Nat.lt_trichotomy top k with h1 | h1 | h1
  · obtain ⟨i, a, b⟩ := hk.on top h1
    have := h.lt i (by omega)
    omega
  · exact h1
  · obtain ⟨j, a, b⟩ := h.on k h1
    have := hk.lt j (by omega)
    omega
end Go.Proofs.Ytenffkplneimlab


/- Rows that may be written over; two nets in blocks of their own. -/
namespace Go.Proofs.Ytenffkplneimlab
open Go Go.RowKit

/-- Cells that may be written. -/
def Open' (w : World) (g o n : Nat) : Prop := ∀ j, j < n → ∃ v, w.cell? ⟨g, o + j, none⟩ = some v ∧ w.frozen? ⟨g, o + j, none⟩ = false
theorem Open'.set {w : World} {g o n : Nat} (h : Open' w g o n) (a : Addr) (x : Value) : Open' (w.setCell a x) g o n := fun j hj => by
  obtain ⟨v, h1, h2⟩ := h j hj
  obtain ⟨v', h3⟩ := cell?_setCell_some (p := a) (x := x) h1
  exact ⟨v', h3, by simpa using h2⟩
theorem Open'.dn {w : World} {g o n : Nat} (h : Open' w g o n) (k : Nat) : Open' (w.drewN k) g o n := fun j hj => h j hj
end Go.Proofs.Ytenffkplneimlab


/- What the program's Parts tells: labels numbered by their first ones, that tell the pieces apart. -/
namespace Go.Proofs.Ytenffkplneimlab
open Go Go.RowKit

/-- Labels laid so far, by whatever tells places apart. -/
structure Sp.NSt (L : Nat) (E : Nat → Nat → Prop) (d : Nat) (of : List Int) (k : Nat) : Prop where
  len : of.length = L
  bd : ∀ i, i < L → of.getD i 0 = -1 ∨ (0 ≤ of.getD i 0 ∧ of.getD i 0 < (k : Int))
  done : ∀ i, i < d → 0 ≤ of.getD i 0
  inv : ∀ i j, i < L → j < L → E i j → of.getD i 0 = of.getD j 0
  sep : ∀ i j, i < L → j < L → 0 ≤ of.getD i 0 → of.getD i 0 = of.getD j 0 → E i j
  rg : ∀ i, i < d → ∀ c, 0 ≤ c → c < of.getD i 0 → ∃ j, j < i ∧ of.getD j 0 = c
  on : ∀ c : Nat, c < k → ∃ i, i < d ∧ of.getD i 0 = (c : Int)
theorem Sp.NSt.first (L : Nat) (E : Nat → Nat → Prop) : Sp.NSt L E 0 (List.replicate L (-1)) 0 := by
  refine ⟨by simp, fun i hi => .inl (getD_rep _ _ _ hi), fun i hi => by omega, fun i j hi hj _ => by rw [getD_rep _ _ _ hi, getD_rep _ _ _ hj], fun i j hi hj h => ?_, fun i hi => by omega, fun c hc => by omega⟩
  rw [getD_rep _ _ _ hi] at h
  omega
theorem Sp.NSt.old {L : Nat} {E : Nat → Nat → Prop} {d k : Nat} {of : List Int} (h : Sp.NSt L E d of k) (hd : d < L) (h0 : of.getD d 0 ≠ -1) : Sp.NSt L E (d + 1) of k := by
  have h0' : 0 ≤ of.getD d 0 ∧ of.getD d 0 < (k : Int) := by
    rcases h.bd d hd with e | e
    · exact absurd e h0
    · exact e
  refine ⟨h.len, h.bd, fun i hi => ?_, h.inv, h.sep, fun i hi c c0 c1 => ?_, fun c hc => ?_⟩
  · rcases Nat.lt_or_ge i d with h1 | h1
    · exact h.done i h1
    · rw [show i = d by omega]; exact h0'.1
  · rcases Nat.lt_or_ge i d with h1 | h1
    · exact h.rg i h1 c c0 c1
    · rw [show i = d by omega] at c1 ⊢
      obtain ⟨j, h2, h3⟩ := h.on c.toNat (by omega)
      exact ⟨j, h2, by rw [h3]; omega⟩
  · obtain ⟨i, h1, h2⟩ := h.on c hc
    exact ⟨i, by omega, h2⟩
theorem Sp.NSt.new {L : Nat} {E : Nat → Nat → Prop} {d k : Nat} {of of' : List Int} (h : Sp.NSt L E d of k) (hr : ∀ i, E i i) (hs : ∀ i j, i < L → j < L → E i j → E j i) (ht : ∀ i j l, E i j → E j l → E i l) (hd : d < L) (h0 : of.getD d 0 = -1) (hl : of'.length = L)
    (hE : ∀ i, i < L → E d i → of'.getD i 0 = (k : Int)) (hN : ∀ i, i < L → ¬ E d i → of'.getD i 0 = of.getD i 0) : Sp.NSt L E (d + 1) of' (k + 1) := by
  have hget : ∀ i, i < L → (E d i ∧ of'.getD i 0 = (k : Int) ∧ of.getD i 0 = -1) ∨ (¬ E d i ∧ of'.getD i 0 = of.getD i 0) := by
    intro i hi
    by_cases ho : E d i
    · exact .inl ⟨ho, hE i hi ho, by rw [← h.inv d i hd hi ho]; exact h0⟩
    · exact .inr ⟨ho, hN i hi ho⟩
  have hdk : of'.getD d 0 = (k : Int) := hE d hd (hr d)
  refine ⟨hl, fun i hi => ?_, fun i hi => ?_, fun i j hi hj e => ?_, fun i j hi hj hn e => ?_, fun i hi c c0 c1 => ?_, fun c hc => ?_⟩
  · rcases hget i hi with ⟨-, e, -⟩ | ⟨-, e⟩
    · right; rw [e]; omega
    · rw [e]; rcases h.bd i hi with e1 | e1
      · exact .inl e1
      · exact .inr ⟨e1.1, by omega⟩
  · rcases Nat.lt_or_ge i d with h1 | h1
    · rcases hget i (by omega) with ⟨-, e, -⟩ | ⟨-, e⟩
      · rw [e]; omega
      · rw [e]; exact h.done i h1
    · rw [show i = d by omega, hdk]; omega
  · rcases hget i hi with ⟨o, e1, -⟩ | ⟨o, e1⟩ <;> rcases hget j hj with ⟨o', e2, -⟩ | ⟨o', e2⟩
    · rw [e1, e2]
    · exact absurd (ht _ _ _ o e) o'
    · exact absurd (ht _ _ _ o' (hs i j hi hj e)) o
    · rw [e1, e2]; exact h.inv i j hi hj e
  · rcases hget i hi with ⟨o, e1, -⟩ | ⟨o, e1⟩ <;> rcases hget j hj with ⟨o', e2, -⟩ | ⟨o', e2⟩
    · exact ht _ _ _ (hs d i hd hi o) o'
    · rw [e1, e2] at e
      rcases h.bd j hj with e3 | e3 <;> omega
    · rw [e1, e2] at e
      rcases h.bd i hi with e3 | e3 <;> omega
    · rw [e1, e2] at e
      rw [e1] at hn
      exact h.sep i j hi hj hn e
  · rcases Nat.lt_or_ge i d with h1 | h1
    · rcases hget i (by omega) with ⟨-, -, e⟩ | ⟨-, e⟩
      · have := h.done i h1; omega
      · rw [e] at c1
        obtain ⟨j, h2, h3⟩ := h.rg i h1 c c0 c1
        refine ⟨j, h2, ?_⟩
        rcases hget j (by omega) with ⟨-, -, e'⟩ | ⟨-, e'⟩
        · omega
        · rw [e', h3]
    · rw [show i = d by omega] at c1 ⊢
      rw [hdk] at c1
      obtain ⟨j, h2, h3⟩ := h.on c.toNat (by omega)
      refine ⟨j, h2, ?_⟩
      rcases hget j (by omega) with ⟨-, -, e'⟩ | ⟨-, e'⟩
      · omega
      · rw [e', h3]; omega
  · by_cases hk : c = k
    · exact ⟨d, by omega, by rw [hdk, hk]⟩
    · obtain ⟨i, h1, h2⟩ := h.on c (by omega)
      refine ⟨i, by omega, ?_⟩
      rcases hget i (by omega) with ⟨-, -, e'⟩ | ⟨-, e'⟩
      · omega
      · rw [e', h2]
theorem Sp.NSt.num {L : Nat} {E : Nat → Nat → Prop} {of : List Int} {k : Nat} (h : Sp.NSt L E L of k) : Sp.Num of k := by
  refine ⟨⟨fun i hi => h.done i (by rw [← h.len]; exact hi), fun i hi => h.rg i (by rw [← h.len]; exact hi)⟩, fun i hi => ?_, fun c hc => ?_⟩
  · rw [h.len] at hi
    have := h.done i hi
    rcases h.bd i hi with e | e <;> omega
  · obtain ⟨i, h1, h2⟩ := h.on c hc
    exact ⟨i, by rw [h.len]; exact h1, h2⟩
theorem Sp.NSt.uniq {L : Nat} {E : Nat → Nat → Prop} {of of' : List Int} {k k' : Nat} (h : Sp.NSt L E L of k) (h' : Sp.NSt L E L of' k') : of = of' ∧ k = k' := by
  have e : of = of' := Sp.RG.uniq h.num.rg h'.num.rg (by rw [h.len, h'.len]) (fun i j hi hj => by
    rw [h.len] at hi hj
    constructor
    · intro e; exact h'.inv i j hi hj (h.sep i j hi hj (h.done i hi) e)
    · intro e; exact h.inv i j hi hj (h'.sep i j hi hj (h'.done i hi) e))
  refine ⟨e, ?_⟩
  subst e
  exact h.num.count h'.num
theorem Sp.Reach.trans {tl : List Int} {u v z : Int} (h : Sp.Reach tl u v) (h' : Sp.Reach tl v z) : Sp.Reach tl u z :=
  h'.ind (p := fun z => Sp.Reach tl u z) h (fun _ hd _ ih => ih.step hd)
theorem Sp.Reach.symm {tl : List Int} (hev : tl.length % 2 = 0) {u v : Int} (h : Sp.Reach tl u v) : Sp.Reach tl v u := by
  refine h.ind (p := fun v => Sp.Reach tl v u) (.refl _) (fun d hd _ ih => ?_)
  have ho := oth_lt hd hev
  have h1 : Sp.Reach tl (tl.getD (Sp.oth d) 0) (tl.getD (Sp.oth (Sp.oth d)) 0) := (Sp.Reach.refl _).step ho
  rw [oth_oth] at h1
  exact h1.trans ih
theorem Sp.Reach.bd {tl : List Int} {n : Int} (ht : ∀ x ∈ tl, 0 ≤ x ∧ x < n) (hev : tl.length % 2 = 0) {u v : Int} (hu : 0 ≤ u ∧ u < n) (h : Sp.Reach tl u v) : 0 ≤ v ∧ v < n :=
  h.ind (p := fun v => 0 ≤ v ∧ v < n) hu (fun _ hd _ _ => ht _ (Sp.getD_mem (oth_lt hd hev)))
/-- One piece on the way: who was found. -/
structure Sp.FI (tl of0 : List Int) (N : Nat) (v p : Int) (of fd : List Int) : Prop where
  len : of.length = N
  fit : RFit N fd
  lab : ∀ w : Nat, w < N → of.getD w 0 = if (w : Int) ∈ fd then p else of0.getD w 0
  rch : ∀ x ∈ fd, Sp.Reach tl v x
theorem Sp.FI.stay {tl of0 : List Int} {N : Nat} {v p : Int} {of fd of' fd' : List Int} (h : Sp.FI tl of0 N v p of fd) (h' : Sp.FI tl of0 N v p of' fd') (hp : p ≠ -1) (hs : ∀ x ∈ fd, x ∈ fd') {w : Nat} (hw : w < N) (hn : of.getD w 0 ≠ -1) : of'.getD w 0 ≠ -1 := by
  rw [h'.lab w hw]
  split
  · exact hp
  · rename_i hm
    rw [h.lab w hw, if_neg (fun h2 => hm (hs _ h2))] at hn
    exact hn
theorem Sp.spread_ok {tl of0 : List Int} {N : Nat} {v p : Int} (hp : p ≠ -1) (ht : ∀ x ∈ tl, 0 ≤ x ∧ x < (N : Int)) (hev : tl.length % 2 = 0) (f : Int) :
    ∀ c d of fd, d + c = tl.length → Sp.FI tl of0 N v p of fd → f ∈ fd →
      Sp.FI tl of0 N v p (Sp.spreadGo tl f p c d of fd).1 (Sp.spreadGo tl f p c d of fd).2 ∧ (∃ m, (Sp.spreadGo tl f p c d of fd).2 = fd ++ m) ∧ ∀ d', d ≤ d' → d' < tl.length → tl.getD d' 0 = f → (Sp.spreadGo tl f p c d of fd).1.getD (tl.getD (Sp.oth d') 0).toNat 0 ≠ -1
  | 0, d, of, fd, hd, h, _ => ⟨h, ⟨[], by simp [Sp.spreadGo]⟩, fun d' h1 h2 => by omega⟩
  | c + 1, d, of, fd, hd, h, hf => by
    have hdl : d < tl.length := by omega
    have hh := ht _ (Sp.getD_mem (oth_lt hdl hev))
    have hhN : (tl.getD (Sp.oth d) 0).toNat < N := by omega
    have hcast : (((tl.getD (Sp.oth d) 0).toNat : Nat) : Int) = tl.getD (Sp.oth d) 0 := by omega
    rw [Sp.spreadGo]
    by_cases hc : tl.getD d 0 = f ∧ of.getD (tl.getD (Sp.oth d) 0).toNat 0 = -1
    · rw [if_pos hc]
      have hnm : ¬ tl.getD (Sp.oth d) 0 ∈ fd := fun hm => by
        have e := h.lab _ hhN
        rw [hcast, if_pos hm, hc.2] at e
        exact hp e.symm
      have hfit := h.fit.snoc (tl.getD (Sp.oth d) 0).toNat hhN (by rw [hcast]; exact hnm)
      rw [hcast] at hfit
      have h' : Sp.FI tl of0 N v p (of.set (tl.getD (Sp.oth d) 0).toNat p) (fd ++ [tl.getD (Sp.oth d) 0]) := by
        refine ⟨by rw [List.length_set]; exact h.len, hfit, fun w hw => ?_, fun x hx => ?_⟩
        · rw [getD_set_eq _ _ _ _ (by rw [h.len]; exact hhN)]
          by_cases e : w = (tl.getD (Sp.oth d) 0).toNat
          · rw [if_pos e, if_pos (List.mem_append_right _ (by rw [e, hcast]; simp))]
          · rw [if_neg e, h.lab w hw]
            by_cases hm : (w : Int) ∈ fd
            · rw [if_pos hm, if_pos (List.mem_append_left _ hm)]
            · rw [if_neg hm, if_neg (fun h2 => by
                rcases List.mem_append.1 h2 with h3 | h3
                · exact hm h3
                · rw [List.mem_singleton] at h3
                  omega)]
        · rcases List.mem_append.1 hx with h3 | h3
          · exact h.rch x h3
          · rw [List.mem_singleton] at h3
            rw [h3]
            refine Sp.Reach.step ?_ hdl
            rw [hc.1]
            exact h.rch f hf
      obtain ⟨r1, ⟨m, r2⟩, r3⟩ := Sp.spread_ok hp ht hev f c (d + 1) _ _ (by omega) h' (List.mem_append_left _ hf)
      refine ⟨r1, ⟨[tl.getD (Sp.oth d) 0] ++ m, by rw [r2, List.append_assoc]⟩, fun d' h1 h2 h3 => ?_⟩
      rcases Nat.lt_or_ge d d' with h4 | h4
      · exact r3 d' (by omega) h2 h3
      · rw [show d' = d by omega]
        rw [r1.lab _ hhN, if_pos (by rw [r2, hcast]; exact List.mem_append_left _ (List.mem_append_right _ (by simp)))]
        exact hp
    · rw [if_neg hc]
      obtain ⟨r1, ⟨m, r2⟩, r3⟩ := Sp.spread_ok hp ht hev f c (d + 1) of fd (by omega) h hf
      refine ⟨r1, ⟨m, r2⟩, fun d' h1 h2 h3 => ?_⟩
      rcases Nat.lt_or_ge d d' with h4 | h4
      · exact r3 d' (by omega) h2 h3
      · rw [show d' = d by omega] at h3 ⊢
        exact h.stay r1 hp (fun x hx => by rw [r2]; exact List.mem_append_left _ hx) hhN (fun e => hc ⟨h3, e⟩)
theorem Sp.flood_ok {tl of0 : List Int} {N : Nat} {v p : Int} (hp : p ≠ -1) (ht : ∀ x ∈ tl, 0 ≤ x ∧ x < (N : Int)) (hev : tl.length % 2 = 0) :
    ∀ g i of fd, i + g = N + 1 → i ≤ fd.length → Sp.FI tl of0 N v p of fd → (∀ j, j < i → ∀ d, d < tl.length → tl.getD d 0 = fd.getD j 0 → of.getD (tl.getD (Sp.oth d) 0).toNat 0 ≠ -1) →
      ∃ fd', Sp.FI tl of0 N v p (Sp.floodGo tl p g i of fd) fd' ∧ (∀ x ∈ fd, x ∈ fd') ∧ ∀ x ∈ fd', ∀ d, d < tl.length → tl.getD d 0 = x → (Sp.floodGo tl p g i of fd).getD (tl.getD (Sp.oth d) 0).toNat 0 ≠ -1
  | 0, i, of, fd, hi, hl, h, _ => by have := h.fit.le; omega
  | g + 1, i, of, fd, hi, hl, h, hd => by
    rw [Sp.floodGo]
    by_cases hc : i < fd.length
    · rw [if_pos hc]
      obtain ⟨r1, ⟨m, r2⟩, r3⟩ := Sp.spread_ok hp ht hev (fd.getD i 0) tl.length 0 of fd (by omega) h (Sp.getD_mem hc)
      obtain ⟨fd', s1, s2, s3⟩ := Sp.flood_ok hp ht hev g (i + 1) _ _ (by omega) (by rw [r2, List.length_append]; omega) r1 (fun j hj d hdl e => by
        have hg : (Sp.spreadGo tl (fd.getD i 0) p tl.length 0 of fd).2.getD j 0 = fd.getD j 0 := by
          rw [r2, List.getD_eq_getElem?_getD, List.getElem?_append_left (by omega), ← List.getD_eq_getElem?_getD]
        rw [hg] at e
        rcases Nat.lt_or_ge j i with h1 | h1
        · refine h.stay r1 hp (fun x hx => by rw [r2]; exact List.mem_append_left _ hx) ?_ (hd j h1 d hdl e)
          have := ht _ (Sp.getD_mem (oth_lt hdl hev))
          omega
        · rw [show j = i by omega] at e
          exact r3 d (Nat.zero_le _) hdl e)
      exact ⟨fd', s1, fun x hx => s2 x (by rw [r2]; exact List.mem_append_left _ hx), s3⟩
    · rw [if_neg hc]
      refine ⟨fd, h, fun _ hx => hx, fun x hx d hdl e => ?_⟩
      obtain ⟨j, hj, ej⟩ := List.mem_iff_getElem.1 hx
      exact hd j (by omega) d hdl (by rw [e, Sp.getD_eq _ _ hj, ej])
/-- One piece whole. -/
theorem Sp.flood_all {tl of0 : List Int} {N : Nat} {v : Nat} {p : Int} (hp : p ≠ -1) (ht : ∀ x ∈ tl, 0 ≤ x ∧ x < (N : Int)) (hev : tl.length % 2 = 0) (hl : of0.length = N) (hv : v < N) (h0 : of0.getD v 0 = -1)
    (hin : ∀ i j : Nat, i < N → j < N → Sp.Reach tl i j → of0.getD i 0 = of0.getD j 0) :
    (Sp.floodGo tl p (N + 1) 0 (of0.set v p) [(v : Int)]).length = N ∧ ∀ w : Nat, w < N → (Sp.Reach tl v w → (Sp.floodGo tl p (N + 1) 0 (of0.set v p) [(v : Int)]).getD w 0 = p) ∧ (¬ Sp.Reach tl v w → (Sp.floodGo tl p (N + 1) 0 (of0.set v p) [(v : Int)]).getD w 0 = of0.getD w 0) := by
  have hfi : Sp.FI tl of0 N v p (of0.set v p) [(v : Int)] := by
    refine ⟨by rw [List.length_set]; exact hl, ⟨by simp, fun x hx => by rw [List.mem_singleton] at hx; omega⟩, fun w hw => ?_, fun x hx => by rw [List.mem_singleton] at hx; rw [hx]; exact .refl _⟩
    rw [getD_set_eq _ _ _ _ (by omega)]
    by_cases e : w = v
    · rw [if_pos e, if_pos (by rw [e]; simp)]
    · rw [if_neg e, if_neg (by rw [List.mem_singleton]; omega)]
  obtain ⟨fd', s1, s2, s3⟩ := Sp.flood_ok hp ht hev (N + 1) 0 (of0.set v p) [(v : Int)] (by omega) (by simp) hfi (fun j hj => by omega)
  generalize Sp.floodGo tl p (N + 1) 0 (of0.set v p) [(v : Int)] = R at *
  have hmem : ∀ x, Sp.Reach tl v x → x ∈ fd' := fun x hx => by
    refine hx.ind (p := fun x => x ∈ fd') (s2 _ (by simp)) (fun d hd hr ih => ?_)
    have hb := ht _ (Sp.getD_mem (oth_lt hd hev))
    have hne := s3 _ ih d hd rfl
    have hN : (tl.getD (Sp.oth d) 0).toNat < N := by omega
    have hcast : (((tl.getD (Sp.oth d) 0).toNat : Nat) : Int) = tl.getD (Sp.oth d) 0 := by omega
    rw [s1.lab _ hN, hcast] at hne
    by_cases hm : tl.getD (Sp.oth d) 0 ∈ fd'
    · exact hm
    · rw [if_neg hm] at hne
      have e := hin v _ hv hN (by rw [hcast]; exact hr.step hd)
      exact absurd (by rw [← e]; exact h0) hne
  refine ⟨s1.len, fun w hw => ⟨fun hr => ?_, fun hr => ?_⟩⟩
  · rw [s1.lab w hw, if_pos (hmem _ hr)]
  · rw [s1.lab w hw, if_neg (fun hm => hr (s1.rch _ hm))]
theorem Sp.partsGo_st {tl : List Int} {N : Nat} (ht : ∀ x ∈ tl, 0 ≤ x ∧ x < (N : Int)) (hev : tl.length % 2 = 0) : ∀ c v of p, v + c = N → Sp.NSt N (fun i j => Sp.Reach tl i j) v of p → Sp.NSt N (fun i j => Sp.Reach tl i j) N (Sp.partsGo tl N c v of p).1 (Sp.partsGo tl N c v of p).2
  | 0, v, of, p, hv, h => by have e : N = v := by omega
                             subst e; exact h
  | c + 1, v, of, p, hv, h => by
    rw [Sp.partsGo]
    by_cases h0 : of.getD v 0 = -1
    · rw [if_pos h0]
      obtain ⟨f1, f2⟩ := Sp.flood_all (p := (p : Int)) (by omega) ht hev h.len (show v < N by omega) h0 h.inv
      exact Sp.partsGo_st ht hev c (v + 1) _ (p + 1) (by omega) (h.new (fun i => .refl _) (fun i j _ _ hr => hr.symm hev) (fun i j l h1 h2 => h1.trans h2) (by omega) h0 f1 (fun i hi hr => (f2 i hi).1 hr) (fun i hi hr => (f2 i hi).2 hr))
    · rw [if_neg h0]
      exact Sp.partsGo_st ht hev c (v + 1) of p (by omega) (h.old (by omega) h0)
/-- What Parts tells. -/
theorem Sp.pieces_st {q : Sp.Net} (hn : 0 ≤ q.n) (ht : ∀ x ∈ q.tail, 0 ≤ x ∧ x < q.n) (hev : q.tail.length % 2 = 0) : Sp.NSt q.n.toNat (fun i j => Sp.Reach q.tail i j) q.n.toNat (Sp.pieces q).1 (Sp.pieces q).2 := by
  unfold Sp.pieces
  exact Sp.partsGo_st (fun x hx => by have := ht x hx; omega) hev _ 0 _ 0 (by omega) (Sp.NSt.first _ _)
end Go.Proofs.Ytenffkplneimlab


/- A tree by the order in which vertices are found (P401): what Span tells, as a recursion; what stays along it. -/
namespace Go.Proofs.Ytenffkplneimlab
open Go Go.RowKit

/-- The darts from d on, c of them, of the vertex u: what is found by them. -/
def Sp.rowGo (T : List Int) (root u : Int) : Nat → Nat → List Int → List Int → List Int × List Int
  | 0, _, fl, up => (fl, up)
  | c + 1, d, fl, up =>
    if T.getD d 0 = u then
      if T.getD (Sp.oth d) 0 = root ∨ up.getD (T.getD (Sp.oth d) 0).toNat 0 ≠ -1 then Sp.rowGo T root u c (d + 1) fl up
      else Sp.rowGo T root u c (d + 1) (fl ++ [T.getD (Sp.oth d) 0]) (up.set (T.getD (Sp.oth d) 0).toNat ((Sp.oth d : Nat) : Int))
    else Sp.rowGo T root u c (d + 1) fl up
/-- The vertices from the i-th found one on. -/
def Sp.spanGo (T : List Int) (root : Int) : Nat → Nat → List Int → List Int → List Int × List Int
  | 0, _, fl, up => (fl, up)
  | g + 1, i, fl, up => if i < fl.length then Sp.spanGo T root g (i + 1) (Sp.rowGo T root (fl.getD i 0) T.length 0 fl up).1 (Sp.rowGo T root (fl.getD i 0) T.length 0 fl up).2 else (fl, up)
/-- Span (P401). -/
def Sp.span (q : Sp.Net) (root : Int) : List Int := (Sp.spanGo q.tail root q.n.toNat 0 [root] (List.replicate q.n.toNat (-1))).2
/-- What stays along the way. -/
structure Sp.SpSt (T : List Int) (root : Int) (N : Nat) (fl up : List Int) : Prop where
  len : up.length = N
  bd : ∀ x ∈ fl, 0 ≤ x ∧ x < (N : Int)
  nd : fl.Nodup
  hd : ∃ r, fl = root :: r
  rt : up.getD root.toNat 0 = -1
  mem : ∀ v : Nat, v < N → ((v : Int) ∈ fl ↔ (v : Int) = root ∨ up.getD v 0 ≠ -1)
  dart : ∀ v : Nat, v < N → up.getD v 0 ≠ -1 → ∃ d : Nat, d < T.length ∧ up.getD v 0 = (d : Int) ∧ T.getD d 0 = (v : Int) ∧ T.getD (Sp.oth d) 0 ∈ fl
theorem getD_set1 (l : List Int) (i k : Nat) (v : Int) (hi : i < l.length) : (l.set i v).getD k 0 = if i = k then v else l.getD k 0 := by
  rw [List.getD_eq_getElem?_getD, List.getElem?_set, List.getD_eq_getElem?_getD]
  by_cases h : i = k
  · subst h
    rw [if_pos rfl, if_pos hi, if_pos rfl]
    rfl
  · rw [if_neg h, if_neg h]
theorem getD_rep1 (n i : Nat) (x : Int) (h : i < n) : (List.replicate n x).getD i 0 = x := by
  rw [List.getD_eq_getElem?_getD, List.getElem?_replicate, if_pos h]; rfl
theorem Sp.SpSt.first (T : List Int) {root : Int} {N : Nat} (h0 : 0 ≤ root) (h1 : root < (N : Int)) : Sp.SpSt T root N [root] (List.replicate N (-1)) := by
  refine ⟨by simp, fun x hx => ?_, by simp, ⟨[], rfl⟩, getD_rep1 _ _ _ (by omega), fun v hv => ?_, fun v hv e => absurd (getD_rep1 _ _ _ hv) e⟩
  · simp at hx; subst hx; exact ⟨h0, h1⟩
  · rw [getD_rep1 _ _ _ hv]
    simp
/-- A vertex is found. -/
theorem Sp.SpSt.find {T : List Int} {root : Int} {N : Nat} {fl up : List Int} (h : Sp.SpSt T root N fl up) (hT : ∀ x ∈ T, 0 ≤ x ∧ x < (N : Int)) (hev : T.length % 2 = 0) {d : Nat} (hd : d < T.length) (hu : T.getD d 0 ∈ fl) (hn : ¬ (T.getD (Sp.oth d) 0 = root ∨ up.getD (T.getD (Sp.oth d) 0).toNat 0 ≠ -1)) :
    Sp.SpSt T root N (fl ++ [T.getD (Sp.oth d) 0]) (up.set (T.getD (Sp.oth d) 0).toNat ((Sp.oth d : Nat) : Int)) := by
  have ho := oth_lt hd hev
  have hb := hT _ (Sp.getD_mem (l := T) ho)
  have hv : (T.getD (Sp.oth d) 0).toNat < N := by omega
  have hvi : (((T.getD (Sp.oth d) 0).toNat : Nat) : Int) = T.getD (Sp.oth d) 0 := by omega
  have hnm : ¬ T.getD (Sp.oth d) 0 ∈ fl := fun hm => hn (by
    have := (h.mem _ hv).1 (by rw [hvi]; exact hm)
    rw [hvi] at this
    exact this)
  have hnr : T.getD (Sp.oth d) 0 ≠ root := fun e => hn (.inl e)
  obtain ⟨r, hr⟩ := h.hd
  have hrb := h.bd root (by rw [hr]; simp)
  refine ⟨by rw [List.length_set]; exact h.len, fun x hx => ?_, ?_, ⟨r ++ [T.getD (Sp.oth d) 0], by rw [hr]; rfl⟩, ?_, fun v hvN => ?_, fun v hvN e => ?_⟩
  · rcases List.mem_append.1 hx with h1 | h1
    · exact h.bd x h1
    · simp at h1; subst h1; exact hb
  · rw [List.nodup_append]
    refine ⟨h.nd, by simp, fun a ha b hb' e => ?_⟩
    simp at hb'
    subst hb' e
    exact hnm ha
  · rw [getD_set1 _ _ _ _ (by rw [h.len]; exact hv), if_neg (by omega)]
    exact h.rt
  · rw [getD_set1 _ _ _ _ (by rw [h.len]; exact hv), List.mem_append, h.mem v hvN]
    by_cases e : (T.getD (Sp.oth d) 0).toNat = v
    · rw [if_pos e]
      constructor
      · intro _; exact .inr (by omega)
      · intro _; exact .inr (List.mem_singleton.2 (by omega))
    · rw [if_neg e]
      constructor
      · rintro (h1 | h1)
        · exact h1
        · have := List.mem_singleton.1 h1; omega
      · intro h1; exact .inl h1
  · rw [getD_set1 _ _ _ _ (by rw [h.len]; exact hv)] at e ⊢
    by_cases e2 : (T.getD (Sp.oth d) 0).toNat = v
    · rw [if_pos e2]
      exact ⟨Sp.oth d, ho, rfl, by omega, by rw [oth_oth]; exact List.mem_append.2 (.inl hu)⟩
    · rw [if_neg e2] at e ⊢
      obtain ⟨c, c1, c2, c3, c4⟩ := h.dart v hvN e
      exact ⟨c, c1, c2, c3, List.mem_append.2 (.inl c4)⟩
theorem Sp.SpSt.row {T : List Int} {root : Int} {N : Nat} (hT : ∀ x ∈ T, 0 ≤ x ∧ x < (N : Int)) (hev : T.length % 2 = 0) {u : Int} : ∀ c d fl up, d + c = T.length → u ∈ fl → Sp.SpSt T root N fl up → Sp.SpSt T root N (Sp.rowGo T root u c d fl up).1 (Sp.rowGo T root u c d fl up).2 ∧ ∃ r, (Sp.rowGo T root u c d fl up).1 = fl ++ r
  | 0, d, fl, up, _, _, h => ⟨h, [], by simp [Sp.rowGo]⟩
  | c + 1, d, fl, up, hd, hu, h => by
    rw [Sp.rowGo]
    split
    · rename_i e
      split
      · exact Sp.SpSt.row hT hev c (d + 1) fl up (by omega) hu h
      · rename_i hn
        obtain ⟨h1, r, h2⟩ := Sp.SpSt.row hT hev c (d + 1) _ _ (by omega) (List.mem_append.2 (.inl hu)) (h.find hT hev (by omega) (by rw [e]; exact hu) hn)
        exact ⟨h1, [T.getD (Sp.oth d) 0] ++ r, by rw [h2, List.append_assoc]⟩
    · exact Sp.SpSt.row hT hev c (d + 1) fl up (by omega) hu h
/-- As many were found as there are vertices, at most. -/
theorem Sp.SpSt.le {T : List Int} {root : Int} {N : Nat} {fl up : List Int} (h : Sp.SpSt T root N fl up) : fl.length ≤ N := nodup_le N fl h.nd h.bd
end Go.Proofs.Ytenffkplneimlab


/- Package tree: isVertex, sound. -/
namespace Go.Proofs.Ytenffkplneimlab
open Go Go.RowKit

set_option maxRecDepth 100000 in
set_option maxHeartbeats 1000000 in
theorem isVertex_any (q : Sp.Net) (v tv nv cv : Value) (x : Int) (w : World) (hv : NetI w v q tv nv cv) :
    Calls Try.prog 23 #[v, .int .i64 x] w fun e w' => e = .returned (.bool (decide (0 ≤ x ∧ x < q.n))) ∧ Below w.heap.size w w' := by
  obtain ⟨rfl, h1, h2, h3⟩ := hv
  obtain ⟨ta, tc, rfl, -, -⟩ := h1.form
  obtain ⟨na, nc, rfl, -, -⟩ := h2.form
  obtain ⟨ca, cc, rfl, -, -⟩ := h3.form
  have HB := hide ((Below.refl _ w).alloc (Nat.le_refl _) (.cells #[.int .i64 q.n, .slice ta q.tail.length tc, .slice na q.next.length nc, .slice ca q.cap.length cc] 25))
  clear h1 h2 h3
  by_cases h0 : 0 ≤ x
  · by_cases hn : x < q.n
    · have HR : Hid (decide (0 ≤ x ∧ x < q.n) = true) := hide (decide_eq_true ⟨h0, hn⟩)
      generalize decide (0 ≤ x ∧ x < q.n) = R at *
      go_enter Try.func23, Try.ntmps23
      go_wp2
      go_ret
      exact ⟨by rw [unhide HR]; rfl, unhide HB⟩
    · have HR : Hid (decide (0 ≤ x ∧ x < q.n) = false) := hide (decide_eq_false fun h => hn h.2)
      generalize decide (0 ≤ x ∧ x < q.n) = R at *
      go_enter Try.func23, Try.ntmps23
      go_wp2
      go_ret
      exact ⟨by rw [unhide HR]; rfl, unhide HB⟩
  · have HR : Hid (decide (0 ≤ x ∧ x < q.n) = false) := hide (decide_eq_false fun h => h0 h.1)
    generalize decide (0 ≤ x ∧ x < q.n) = R at *
    go_enter Try.func23, Try.ntmps23
    go_wp2
    go_ret
    exact ⟨by rw [unhide HR]; rfl, unhide HB⟩
set_option maxRecDepth 100000 in
set_option maxHeartbeats 1000000 in
theorem sound1_any (q : Sp.Net) (v tv nv cv : Value) (x : Int) (b : Nat) (w : World) (hv : NetI w v q tv nv cv) (hc : w.cell? ⟨b, 0, none⟩ = some (.int .i64 q.n) ∧ w.cell? ⟨b, 1, none⟩ = some tv ∧ w.cell? ⟨b, 2, none⟩ = some nv ∧ w.cell? ⟨b, 3, none⟩ = some cv) (hx : 0 ≤ x ∧ x < q.n) :
    Calls Try.prog 34 #[.int .i64 x, .pointer (some ⟨b, 0, none⟩)] w fun e w' => e = .returned (.bool false) ∧ Below w.heap.size w w' := by
  have HC := hide (isVertex_any q v tv nv cv x w hv)
  rw [decide_eq_true hx] at HC
  obtain ⟨rfl, -, -, -⟩ := hv
  obtain ⟨x0, x1, x2, x3⟩ := hc
  clear hx
  go_enter Try.func34, Try.ntmps34
  go_wp2_with fail
  go_at_call 23
  refine (unhide HC).mono ?_
  rintro e w2 ⟨rfl, hb2⟩
  have HB := hide hb2
  clear hb2 x0 x1 x2 x3
  go_wp2
  go_ret
  exact ⟨by rfl, unhide HB⟩
set_option maxRecDepth 100000 in
set_option maxHeartbeats 2000000 in
theorem indexSound_any (q : Sp.Net) (l : List Int) (v tv nv cv lv : Value) (b n : Nat) (w : World) (hv : NetI w v q tv nv cv) (hl : Ints w lv l) (hn : l.length = n) (h240 : n ≤ 1000) (hld : ∀ x ∈ l, 0 ≤ x ∧ x < q.n) (hb : b < w.heap.size)
    (hc : w.cell? ⟨b, 0, none⟩ = some (.int .i64 q.n) ∧ w.cell? ⟨b, 1, none⟩ = some tv ∧ w.cell? ⟨b, 2, none⟩ = some nv ∧ w.cell? ⟨b, 3, none⟩ = some cv) :
    Calls Try.prog 38 #[lv, .func (.func 34) #[] #[.pointer (some ⟨b, 0, none⟩)]] w fun e w' => e = .returned (.int .i64 (-1)) ∧ Below w.heap.size w w' := by
  obtain ⟨la, lc, rfl, -, -, HL⟩ := hl.allD
  rw [hn] at HL ⊢
  have HC : Hid (∀ w' j, Below w.heap.size w w' → j < n → Calls Try.prog 34 #[.int .i64 (l.getD j 0), .pointer (some ⟨b, 0, none⟩)] w' fun e w'' => e = .returned (.bool false) ∧ Below w'.heap.size w' w'') := hide fun w' j hw hj =>
    sound1_any q v tv nv cv (l.getD j 0) b w' (hv.below hw) ⟨(hw.cell hb).trans hc.1, (hw.cell hb).trans hc.2.1, (hw.cell hb).trans hc.2.2.1, (hw.cell hb).trans hc.2.2.2⟩ (hld _ (Sp.getD_mem (by rw [hn]; exact hj)))
  obtain ⟨P, hP⟩ : ∃ P : Ending → World → Prop, P = fun e w' => e = .returned (.int .i64 (-1)) ∧ Below w.heap.size w w' := ⟨_, rfl⟩
  rw [← hP]
  have HP := hide hP
  clear hP hl hv hld hc hn
  go_enter Try.func38, Try.ntmps38
  go_wp2
  go_loopg [8] n (fun g s8 wr => ∃ k : Nat, k + g = n ∧ s8 = .int .i64 (k : Int) ∧ Hid (Below w.heap.size w wr))
  case atStart => exact ⟨0, by omega, rfl, hide (Below.refl _ _)⟩
  case round =>
    obtain ⟨k, hk, rfl, HB⟩ := hrel
    cases gk with
    | zero =>
      obtain rfl : k = n := by omega
      go_wp2
      rw [unhide HP]
      exact ⟨by rfl, unhide HB⟩
    | succ g' =>
      have hlt : k < n := by omega
      have hltI : (k : Int) < (n : Int) := by omega
      obtain ⟨b', o, rfl, -, hcx⟩ := unhide HL k hlt
      have c1 := hcx wr (unhide HB)
      have HCl := hide (unhide HC wr k (unhide HB) hlt)
      generalize l.getD k 0 = z at *
      clear hcx
      go_wp2_with fail
      go_at_call 34
      refine (unhide HCl).mono ?_
      rintro e w2 ⟨rfl, hb2⟩
      have HB2 := hide ((unhide HB).trans (hb2.mono (unhide HB).size))
      clear hb2 HCl HB c1
      go_wp2
      go_roundg g'
      case rel => exact ⟨k + 1, by omega, by go_num, HB2⟩
      case measure => omega
set_option maxRecDepth 100000 in
set_option maxHeartbeats 1000000 in
theorem containsSound_any (q : Sp.Net) (l : List Int) (v tv nv cv lv : Value) (b n : Nat) (w : World) (hv : NetI w v q tv nv cv) (hl : Ints w lv l) (hn : l.length = n) (h240 : n ≤ 1000) (hld : ∀ x ∈ l, 0 ≤ x ∧ x < q.n) (hb : b < w.heap.size)
    (hc : w.cell? ⟨b, 0, none⟩ = some (.int .i64 q.n) ∧ w.cell? ⟨b, 1, none⟩ = some tv ∧ w.cell? ⟨b, 2, none⟩ = some nv ∧ w.cell? ⟨b, 3, none⟩ = some cv) :
    Calls Try.prog 33 #[lv, .func (.func 34) #[] #[.pointer (some ⟨b, 0, none⟩)]] w fun e w' => e = .returned (.bool false) ∧ Below w.heap.size w w' := by
  have HL := hide (indexSound_any q l v tv nv cv lv b n w hv hl hn h240 hld hb hc)
  clear hv hl hn hld hc
  go_enter Try.func33, Try.ntmps33
  go_wp2_with fail
  go_at_call 38
  refine (unhide HL).mono ?_
  rintro e w2 ⟨rfl, hb2⟩
  have HB := hide hb2
  clear hb2
  go_wp2
  go_ret
  exact ⟨by rfl, unhide HB⟩
set_option maxRecDepth 100000 in
set_option maxHeartbeats 2000000 in
theorem sound_any (q : Sp.Net) (v tv nv cv : Value) (w : World) (hv : NetI w v q tv nv cv) (hev : q.tail.length % 2 = 0) (h240 : q.tail.length ≤ 240) (hn : q.n ≤ ((q.tail.length / 2 : Nat) : Int) + 1) (hT : ∀ x ∈ q.tail, 0 ≤ x ∧ x < q.n) :
    Calls Try.prog 22 #[v] w fun e w' => e = .returned (.bool true) ∧ Below w.heap.size w w' := by
  have hv' := hv
  obtain ⟨rfl, h1, h2, h3⟩ := hv
  obtain ⟨ta, tc, rfl, -, -⟩ := h1.form
  obtain ⟨na, nc, rfl, -, -⟩ := h2.form
  obtain ⟨ca, cc, rfl, -, -⟩ := h3.form
  obtain ⟨W1, hW1⟩ : ∃ W1, W1 = w.alloc (.cells #[.int .i64 q.n, .slice ta q.tail.length tc, .slice na q.next.length nc, .slice ca q.cap.length cc] 25) := ⟨_, rfl⟩
  have HBX := hide (box_new w q.n (.slice ta q.tail.length tc) (.slice na q.next.length nc) (.slice ca q.cap.length cc))
  rw [← hW1] at HBX
  have hb1 : Below w.heap.size w W1 := by rw [hW1]; exact (Below.refl _ w).alloc (Nat.le_refl _) _
  have hs1 : W1.heap.size = w.heap.size + 1 := by rw [hW1]; simp
  obtain ⟨x0, x1, x2, x3, -⟩ := unhide HBX W1 (Below.refl _ _)
  have HC := hide (containsSound_any q q.tail _ _ _ _ (.slice ta q.tail.length tc) w.heap.size q.tail.length W1 (hv'.below hb1) (h1.below hb1) rfl (by omega) hT (by omega) ⟨x0, x1, x2, x3⟩)
  have HB : Hid (∀ w', Below W1.heap.size W1 w' → Below w.heap.size w w') := hide fun w' hb => hb1.trans (hb.mono (by omega))
  obtain ⟨m, hm⟩ : ∃ m, q.tail.length = 2 * m := ⟨q.tail.length / 2, by omega⟩
  have hdv : ((q.tail.length : Nat) : Int).tdiv 2 = (m : Int) := by
    rw [hm]
    have := Int.ofNat_tdiv (2 * m) 2
    rw [Nat.mul_div_cancel_left m (by decide)] at this
    exact this.symm
  have hml : IntKind.i64.wrap (2 * (m : Int)) = ((q.tail.length : Nat) : Int) := by rw [IntKind.wrap_i64]; omega
  have hmw : IntKind.i64.wrap (m : Int) = (m : Int) := by rw [IntKind.wrap_i64]; omega
  have hne : (((q.tail.length : Nat) : Int) != ((q.tail.length : Nat) : Int)) = false := by simp
  have had : IntKind.i64.wrap ((m : Int) + 1) = (m : Int) + 1 := by rw [IntKind.wrap_i64]; omega
  have hgt : ¬ (m : Int) + 1 < q.n := by omega
  have hgd : decide ((m : Int) + 1 < q.n) = false := decide_eq_false hgt
  clear hv' h1 h2 h3 hT hm hb1 hs1 hev
  subst hW1
  go_enter Try.func22, Try.ntmps22
  go_wp2_with fail
  go_at_call 33
  refine (unhide HC).mono ?_
  rintro e w2 ⟨rfl, hb2⟩
  have HB2 := hide (unhide HB _ hb2)
  clear hb2 x0 x1 x2 x3 HC
  go_wp2
  go_ret
  exact ⟨by rfl, unhide HB2⟩
end Go.Proofs.Ytenffkplneimlab


/- The reference's Left (P401). -/
namespace Go.Proofs.Ytenffkplneimlab
open Go Go.RowKit

/-- Is an edge's dart among the first j of the row? -/
def Sp.usedB (up : List Int) (d : Nat) : Nat → Bool
  | 0 => false
  | j + 1 => Sp.usedB up d j || up.getD j 0 == (d : Int) || up.getD j 0 == (d : Int) + 1
def Sp.leftGo (up : List Int) : Nat → Nat → List Int → List Int
  | 0, _, out => out
  | g + 1, e, out => if Sp.usedB up (2 * e) up.length = true then Sp.leftGo up g (e + 1) out else Sp.leftGo up g (e + 1) (out ++ [((2 * e : Nat) : Int)])
/-- The edges that are left. -/
def Sp.leftL (q : Sp.Net) (up : List Int) : List Int := Sp.leftGo up (q.tail.length / 2) 0 []
end Go.Proofs.Ytenffkplneimlab


/- The reference's Way (P401). -/
namespace Go.Proofs.Ytenffkplneimlab
open Go Go.RowKit

/-- The way from v on, g steps at most. -/
def Sp.wayGo (T up : List Int) : Nat → Nat → List Int → Option (List Int)
  | 0, v, out => if 0 ≤ up.getD v 0 then none else some out
  | g + 1, v, out => if 0 ≤ up.getD v 0 then Sp.wayGo T up g (T.getD (Sp.oth (up.getD v 0).toNat) 0).toNat (out ++ [up.getD v 0]) else some out
theorem Sp.wayGo_neg (T up : List Int) (g v : Nat) (out : List Int) (h : ¬ 0 ≤ up.getD v 0) : Sp.wayGo T up g v out = some out := by
  cases g <;> rw [Sp.wayGo, if_neg h]
end Go.Proofs.Ytenffkplneimlab


/- The reference's Right (P401). -/
namespace Go.Proofs.Ytenffkplneimlab
open Go Go.RowKit

/-- Each vertex but the root has a dart of its own. -/
def Sp.edgesGo (T up : List Int) (root : Int) : Nat → Nat → Bool
  | 0, _ => true
  | g + 1, v => if (v : Int) = root ∨ (0 ≤ up.getD v 0 ∧ up.getD v 0 < (T.length : Int) ∧ T.getD (up.getD v 0).toNat 0 = (v : Int)) then Sp.edgesGo T up root g (v + 1) else false
/-- Is the root come to from w, in g steps at most? -/
def Sp.reachGo (T up : List Int) (root : Int) : Nat → Nat → Bool
  | 0, w => decide ((w : Int) = root)
  | g + 1, w => if (w : Int) = root then true else Sp.reachGo T up root g (T.getD (Sp.oth (up.getD w 0).toNat) 0).toNat
def Sp.chainsGo (T up : List Int) (root : Int) (N : Nat) : Nat → Nat → Bool
  | 0, _ => true
  | g + 1, v => if Sp.reachGo T up root (N + 1) v = true then Sp.chainsGo T up root N g (v + 1) else false
/-- Right (P401). -/
def Sp.rightB (q : Sp.Net) (up : List Int) (root : Int) : Bool :=
  decide ((up.length : Int) = q.n ∧ 0 ≤ root ∧ root < q.n ∧ up.getD root.toNat 0 = -1) && (Sp.edgesGo q.tail up root q.n.toNat 0 && Sp.chainsGo q.tail up root q.n.toNat q.n.toNat 0)
end Go.Proofs.Ytenffkplneimlab


/- Package tree: leaves. -/
namespace Go.Proofs.Ytenffkplneimlab
open Go Go.RowKit

set_option maxRecDepth 100000 in
set_option maxHeartbeats 4000000 in
theorem leaves_any (q : Sp.Net) (U : List Int) (r N : Nat) (v tv nv cv uv : Value) (w : World) (hv : NetI w v q tv nv cv) (hu : Ints w uv U) (hN : q.n = (N : Int)) (hN2 : N ≤ 1000) (hr : r < N) (_h240 : q.tail.length ≤ 240) :
    Calls Try.prog 30 #[v, uv, .int .i64 (r : Int)] w fun e w' => e = .returned (.bool (decide (U.length = N) && (decide (U.getD r 0 = -1) && Sp.edgesGo q.tail U (r : Int) N 0))) ∧ Below w.heap.size w w' := by
  obtain ⟨rfl, h1, h2, h3⟩ := hv
  obtain ⟨ta, tc, rfl, -, -, HT⟩ := h1.allD
  obtain ⟨na, nc, rfl, -, -⟩ := h2.form
  obtain ⟨ca, cc, rfl, -, -⟩ := h3.form
  obtain ⟨ua, uc, rfl, -, -, HU⟩ := hu.allD
  clear h1 h2 h3 hu
  rw [hN]
  obtain ⟨x0, x1, x2, x3, -⟩ := box_new w (N : Int) (.slice ta q.tail.length tc) (.slice na q.next.length nc) (.slice ca q.cap.length cc) _ (Below.refl _ _)
  have hb1 : Below w.heap.size w (w.alloc (.cells #[.int .i64 (N : Int), .slice ta q.tail.length tc, .slice na q.next.length nc, .slice ca q.cap.length cc] 25)) := (Below.refl _ w).alloc (Nat.le_refl _) _
  have HF := hide hb1
  obtain ⟨P, hP⟩ : ∃ P : Ending → World → Prop, P = fun e w' => e = .returned (.bool (decide (U.length = N) && (decide (U.getD r 0 = -1) && Sp.edgesGo q.tail U (r : Int) N 0))) ∧ Below w.heap.size w w' := ⟨_, rfl⟩
  rw [← hP]
  have HP := hide hP
  clear hP hb1
  by_cases hl : U.length = N
  · have hrl : r < U.length := by omega
    obtain ⟨b, o, rfl, -, hcx⟩ := unhide HU r hrl
    have c1 := hcx _ (unhide HF)
    clear hcx
    have hrI : (r : Int) < (N : Int) := by omega
    have eL : ((N : Int) == (N : Int)) = true := beq_self_eq_true _
    have HU2 : Hid (∀ k, k < N → (w.alloc (.cells #[.int .i64 (N : Int), .slice ta q.tail.length tc, .slice na q.next.length nc, .slice ca q.cap.length cc] 25)).cell? ⟨b, o + k, none⟩ = some (.int .i64 (U.getD k 0))) := hide fun k hk => by
      obtain ⟨b', o', e1, -, h'⟩ := unhide HU k (by omega)
      injection e1 with e1
      injection e1 with e1 e2
      subst e1 e2
      exact h' _ (unhide HF)
    have HT2 : Hid (∀ k, k < q.tail.length → ∃ tb tt, ta = some ⟨tb, tt, none⟩ ∧ (w.alloc (.cells #[.int .i64 (N : Int), .slice ta q.tail.length tc, .slice na q.next.length nc, .slice ca q.cap.length cc] 25)).cell? ⟨tb, tt + k, none⟩ = some (.int .i64 (q.tail.getD k 0))) := hide fun k hk => by
      obtain ⟨b', o', e1, -, h'⟩ := unhide HT k hk
      exact ⟨b', o', e1, h' _ (unhide HF)⟩
    have HPL : Hid (decide (U.length = N) = true) := hide (decide_eq_true hl)
    clear HU HT hrl
    rw [hl]
    by_cases hz : U.getD r 0 = -1
    · have HPZ := hide (decide_eq_true hz)
      rw [hz] at c1
      clear hz
      obtain ⟨E, hE⟩ : ∃ E, E = Sp.edgesGo q.tail U (r : Int) N 0 := ⟨_, rfl⟩
      rw [← hE] at HP
      have HE := hide hE
      clear hE
      go_enter Try.func30, Try.ntmps30
      go_wp2
      generalize w.alloc (.cells #[.int .i64 (N : Int), .slice ta q.tail.length tc, .slice na q.next.length nc, .slice ca q.cap.length cc] 25) = W1 at *
      go_loopg [23] N (fun g s23 wr => ∃ v : Nat, v + g = N ∧ s23 = .int .i64 (v : Int) ∧ wr = W1 ∧ Hid (E = Sp.edgesGo q.tail U (r : Int) g v))
      case atStart => exact ⟨0, by omega, rfl, rfl, HE⟩
      case round =>
        clear HE c1
        obtain ⟨v, hvg, rfl, rfl, HI⟩ := hrel
        cases gk with
        | zero =>
          obtain rfl : v = N := by omega
          have HE : Hid (E = true) := hide (unhide HI)
          have hge : ¬ (v : Int) < (v : Int) := by omega
          clear HI
          go_wp2
          rw [unhide HP, unhide HPL, unhide HPZ, unhide HE]
          exact ⟨rfl, unhide HF⟩
        | succ g' =>
          have hlt : v < N := by omega
          have hltI : (v : Int) < (N : Int) := by omega
          have c1 := unhide HU2 v hlt
          have HR : Hid (E = if (v : Int) = (r : Int) ∨ (0 ≤ U.getD v 0 ∧ U.getD v 0 < (q.tail.length : Int) ∧ q.tail.getD (U.getD v 0).toNat 0 = (v : Int)) then Sp.edgesGo q.tail U (r : Int) g' (v + 1) else false) := hide (unhide HI)
          clear HI
          by_cases h1 : v = r
          · have HR2 : Hid (E = Sp.edgesGo q.tail U (r : Int) g' (v + 1)) := hide (by rw [unhide HR, if_pos (.inl (by rw [h1]))])
            clear HR
            subst h1
            generalize U.getD v 0 = z at *
            go_wp2
            go_roundg g'
            case rel => exact ⟨v + 1, by omega, by go_num, rfl, HR2⟩
            case measure => omega
          · have h1I : (v : Int) ≠ (r : Int) := by omega
            have e1 : ((v : Int) == (r : Int)) = false := beq_eq_false_iff_ne.2 h1I
            have eb : ((v : Int) != (r : Int)) = true := by simp only [bne, e1]; rfl
            have e2 : (v == r) = false := beq_eq_false_iff_ne.2 h1
            generalize U.getD v 0 = z at *
            by_cases h2 : z < 0
            · have HR2 : Hid (E = false) := hide (by rw [unhide HR, if_neg (by rintro (h | h) <;> omega)])
              clear HR
              go_wp2
              rw [unhide HP, unhide HPL, unhide HPZ, unhide HR2]
              exact ⟨rfl, unhide HF⟩
            · by_cases h3 : (q.tail.length : Int) ≤ z
              · have HR2 : Hid (E = false) := hide (by rw [unhide HR, if_neg (by rintro (h | h) <;> omega)])
                clear HR
                go_wp2
                rw [unhide HP, unhide HPL, unhide HPZ, unhide HR2]
                exact ⟨rfl, unhide HF⟩
              · obtain ⟨d, rfl⟩ : ∃ d : Nat, z = (d : Int) := ⟨z.toNat, by omega⟩
                rw [Int.toNat_natCast] at HR
                have hdl : d < q.tail.length := by omega
                have hdI : (d : Int) < (q.tail.length : Int) := by omega
                obtain ⟨tb, tt, rfl, ct⟩ := unhide HT2 d hdl
                generalize q.tail.getD d 0 = t at *
                by_cases h4 : t = (v : Int)
                · have HR2 : Hid (E = Sp.edgesGo q.tail U (r : Int) g' (v + 1)) := hide (by rw [unhide HR, if_pos (.inr ⟨by omega, hdI, h4⟩)])
                  clear HR
                  subst h4
                  go_wp2
                  go_roundg g'
                  case rel => exact ⟨v + 1, by omega, by go_num, rfl, HR2⟩
                  case measure => omega
                · have HR2 : Hid (E = false) := hide (by rw [unhide HR, if_neg (fun h => h.elim h1I (fun h => h4 h.2.2))])
                  have e4 : (t == (v : Int)) = false := beq_eq_false_iff_ne.2 h4
                  have eb4 : (t != (v : Int)) = true := by simp only [bne, e4]; rfl
                  clear HR
                  go_wp2
                  rw [unhide HP, unhide HPL, unhide HPZ, unhide HR2]
                  exact ⟨rfl, unhide HF⟩
    · have HPZ := hide (decide_eq_false hz)
      have ez : (U.getD r 0 == -1) = false := beq_eq_false_iff_ne.2 hz
      clear HU2 HT2 hz
      generalize U.getD r 0 = z at *
      go_enter Try.func30, Try.ntmps30
      go_wp2
      rw [unhide HP, unhide HPL, unhide HPZ]
      exact ⟨rfl, unhide HF⟩
  · have HPL : Hid (decide (U.length = N) = false) := hide (decide_eq_false hl)
    have eL : ((U.length : Int) == (N : Int)) = false := beq_eq_false_iff_ne.2 (by omega)
    have eL2 : (U.length == N) = false := beq_eq_false_iff_ne.2 hl
    clear HU HT
    go_enter Try.func30, Try.ntmps30
    go_wp2
    rw [unhide HP, unhide HPL]
    exact ⟨rfl, unhide HF⟩
end Go.Proofs.Ytenffkplneimlab


/- Ways up: who comes to the root; a way that meets a vertex twice goes round (P401). -/
namespace Go.Proofs.Ytenffkplneimlab
open Go Go.RowKit

/-- Where a vertex's dart leads. -/
def Sp.nx (T up : List Int) (x : Nat) : Nat := (T.getD (Sp.oth (up.getD x 0).toNat) 0).toNat
/-- In m steps from x to y, none of them from the root. -/
def Sp.Stp (T up : List Int) (root : Int) : Nat → Nat → Nat → Prop
  | 0, x, y => x = y
  | m + 1, x, y => (x : Int) ≠ root ∧ Sp.Stp T up root m (Sp.nx T up x) y
/-- The root is come to. -/
def Sp.Rc (T up : List Int) (root : Int) (x : Nat) : Prop := ∃ g, Sp.reachGo T up root g x = true
theorem Sp.reach_succ (T up : List Int) (root : Int) (g x : Nat) : Sp.reachGo T up root (g + 1) x = if (x : Int) = root then true else Sp.reachGo T up root g (Sp.nx T up x) := rfl
theorem Sp.reach_mono (T up : List Int) (root : Int) : ∀ g x, Sp.reachGo T up root g x = true → Sp.reachGo T up root (g + 1) x = true
  | 0, x, h => by
    rw [Sp.reach_succ, if_pos (of_decide_eq_true h)]
  | g + 1, x, h => by
    rw [Sp.reach_succ] at h ⊢
    split
    · rfl
    · rename_i hx
      rw [if_neg hx] at h
      exact Sp.reach_mono T up root g _ h
theorem Sp.reach_le (T up : List Int) (root : Int) {g g' x : Nat} (h : Sp.reachGo T up root g x = true) (hg : g ≤ g') : Sp.reachGo T up root g' x = true := by
  induction hg with
  | refl => exact h
  | step _ ih => exact Sp.reach_mono _ _ _ _ _ ih
theorem Sp.Stp.reach {T up : List Int} {root : Int} : ∀ {m x y : Nat}, Sp.Stp T up root m x y → ∀ g, Sp.reachGo T up root (g + m) x = Sp.reachGo T up root g y
  | 0, x, y, h, g => by rw [show x = y from h]; rfl
  | m + 1, x, y, h, g => by
    rw [show g + (m + 1) = (g + m) + 1 by omega, Sp.reach_succ, if_neg h.1]
    exact Sp.Stp.reach h.2 g
theorem Sp.Stp.snoc {T up : List Int} {root : Int} : ∀ {m x y : Nat}, Sp.Stp T up root m x y → (y : Int) ≠ root → Sp.Stp T up root (m + 1) x (Sp.nx T up y)
  | 0, x, y, h, hy => by
    obtain rfl : x = y := h
    exact ⟨hy, rfl⟩
  | m + 1, x, y, h, hy => ⟨h.1, Sp.Stp.snoc h.2 hy⟩
theorem Sp.Stp.rc {T up : List Int} {root : Int} {m x y : Nat} (h : Sp.Stp T up root m x y) : Sp.Rc T up root x ↔ Sp.Rc T up root y := by
  constructor
  · rintro ⟨g, hg⟩
    exact ⟨g, by rw [← h.reach]; exact Sp.reach_le _ _ _ hg (by omega)⟩
  · rintro ⟨g, hg⟩
    exact ⟨g + m, by rw [h.reach]; exact hg⟩
/-- What comes round does not come to the root. -/
theorem Sp.Stp.round {T up : List Int} {root : Int} {m x : Nat} (h : Sp.Stp T up root (m + 1) x x) : ¬ Sp.Rc T up root x := by
  rintro ⟨g, hg⟩
  induction g using Nat.strongRecOn with
  | ind g ih =>
    rcases Nat.lt_or_ge g (m + 1) with h1 | h1
    · have := Sp.reach_le _ _ _ hg (show g ≤ 0 + (m + 1) by omega)
      rw [h.reach] at this
      exact h.1 (of_decide_eq_true this)
    · have e := h.reach (g - (m + 1))
      rw [Nat.sub_add_cancel h1] at e
      exact ih (g - (m + 1)) (by omega) (by rw [← e]; exact hg)
theorem Sp.rc_root (T up : List Int) {root : Int} {x : Nat} (h : (x : Int) = root) : Sp.Rc T up root x := ⟨0, decide_eq_true h⟩
theorem Sp.rc_next {T up : List Int} {root : Int} {x : Nat} (h : (x : Int) ≠ root) : Sp.Rc T up root x ↔ Sp.Rc T up root (Sp.nx T up x) := Sp.Stp.rc (m := 1) ⟨h, rfl⟩
/-- The vertices of a way. -/
def Sp.pl (T up : List Int) : Nat → Nat → List Int
  | 0, x => [(x : Int)]
  | g + 1, x => (x : Int) :: Sp.pl T up g (Sp.nx T up x)
theorem Sp.pl_len (T up : List Int) : ∀ g x, (Sp.pl T up g x).length = g + 1
  | 0, _ => rfl
  | g + 1, x => by simp only [Sp.pl, List.length_cons, Sp.pl_len T up g]
/-- The first number of steps by which the root is come to. -/
def Sp.Mn (T up : List Int) (root : Int) (g x : Nat) : Prop := Sp.reachGo T up root g x = true ∧ ∀ g', g' < g → Sp.reachGo T up root g' x = false
theorem Sp.Mn.next {T up : List Int} {root : Int} {g x : Nat} (h : Sp.Mn T up root (g + 1) x) : (x : Int) ≠ root ∧ Sp.Mn T up root g (Sp.nx T up x) := by
  have hx : (x : Int) ≠ root := fun e => by
    have := h.2 0 (by omega)
    rw [show Sp.reachGo T up root 0 x = true from decide_eq_true e] at this
    cases this
  refine ⟨hx, ?_, fun g' hg' => ?_⟩
  · have := h.1
    rw [Sp.reach_succ, if_neg hx] at this
    exact this
  · have := h.2 (g' + 1) (by omega)
    rw [Sp.reach_succ, if_neg hx] at this
    exact this
theorem Sp.pl_mem {T up : List Int} {root : Int} : ∀ {g x : Nat}, Sp.Mn T up root g x → ∀ z ∈ Sp.pl T up g x, ∃ (g' y : Nat), z = (y : Int) ∧ g' ≤ g ∧ Sp.reachGo T up root g' y = true
  | 0, x, h, z, hz => by
    simp [Sp.pl] at hz
    exact ⟨0, x, hz, Nat.le_refl _, h.1⟩
  | g + 1, x, h, z, hz => by
    rcases List.mem_cons.1 hz with hz | hz
    · exact ⟨g + 1, x, hz, Nat.le_refl _, h.1⟩
    · obtain ⟨g', y, a, b, c⟩ := Sp.pl_mem h.next.2 z hz
      exact ⟨g', y, a, by omega, c⟩
theorem Sp.pl_nodup {T up : List Int} {root : Int} : ∀ {g x : Nat}, Sp.Mn T up root g x → (Sp.pl T up g x).Nodup
  | 0, x, _ => by simp [Sp.pl]
  | g + 1, x, h => by
    refine List.nodup_cons.2 ⟨fun hm => ?_, Sp.pl_nodup h.next.2⟩
    obtain ⟨g', y, a, b, c⟩ := Sp.pl_mem h.next.2 _ hm
    have : y = x := by omega
    subst this
    have := h.2 g' (by omega)
    rw [c] at this
    cases this
theorem Sp.pl_bd {T up : List Int} {N : Nat} (hT : ∀ y, y < N → (Sp.nx T up y) < N) : ∀ g x, x < N → ∀ z ∈ Sp.pl T up g x, 0 ≤ z ∧ z < (N : Int)
  | 0, x, hx, z, hz => by simp [Sp.pl] at hz; omega
  | g + 1, x, hx, z, hz => by
    rcases List.mem_cons.1 hz with hz | hz
    · omega
    · exact Sp.pl_bd hT g _ (hT x hx) z hz
theorem Sp.Rc.least {T up : List Int} {root : Int} {x : Nat} (h : Sp.Rc T up root x) : ∃ g, Sp.Mn T up root g x := by
  obtain ⟨g, hg⟩ := h
  induction g using Nat.strongRecOn with
  | ind g ih =>
    by_cases hm : ∃ g', g' < g ∧ Sp.reachGo T up root g' x = true
    · obtain ⟨g', h1, h2⟩ := hm
      exact ih g' h1 h2
    · exact ⟨g, hg, fun g' h1 => by
        cases h2 : Sp.reachGo T up root g' x with
        | false => rfl
        | true => exact absurd ⟨g', h1, h2⟩ hm⟩
/-- Who comes to the root at all comes there in as many steps as there are vertices. -/
theorem Sp.Rc.soon {T up : List Int} {root : Int} {N x : Nat} (hT : ∀ y, y < N → (Sp.nx T up y) < N) (hx : x < N) (h : Sp.Rc T up root x) : Sp.reachGo T up root (N + 1) x = true := by
  obtain ⟨g, hg⟩ := h.least
  have := nodup_le N _ (Sp.pl_nodup hg) (Sp.pl_bd hT g x hx)
  rw [Sp.pl_len] at this
  exact Sp.reach_le _ _ _ hg.1 (by omega)
theorem Sp.chains_iff {T up : List Int} {root : Int} {N : Nat} (hT : ∀ y, y < N → (Sp.nx T up y) < N) : ∀ g v, v + g = N → (Sp.chainsGo T up root N g v = true ↔ ∀ x, v ≤ x → x < N → Sp.Rc T up root x)
  | 0, v, h => by
    simp only [Sp.chainsGo, true_iff]
    intro x h1 h2
    omega
  | g + 1, v, h => by
    rw [Sp.chainsGo]
    by_cases hr : Sp.reachGo T up root (N + 1) v = true
    · rw [if_pos hr, Sp.chains_iff hT g (v + 1) (by omega)]
      constructor
      · intro hh x h1 h2
        by_cases hxv : x = v
        · rw [hxv]; exact ⟨_, hr⟩
        · exact hh x (by omega) h2
      · intro hh x h1 h2
        exact hh x (by omega) h2
    · rw [if_neg hr]
      constructor
      · intro hh; cases hh
      · intro hh
        exact absurd ((hh v (Nat.le_refl _) (by omega)).soon hT (by omega)) hr
end Go.Proofs.Ytenffkplneimlab


