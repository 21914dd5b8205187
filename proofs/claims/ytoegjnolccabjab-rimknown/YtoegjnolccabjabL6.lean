/- What the proof needs, part 6. -/
import Derived.Test.YtoegjnolccabjabL5
/- Rows of labels numbered by their first ones; the rounds of a row of next ones; what the reference's Faces tells. -/
namespace Go.Proofs.Ytoegjnolccabjab
open Go Go.RowKit

/-- Labels from 0 on, each new one behind all lesser ones. -/
structure Sp.RG (l : List Int) : Prop where
  nn : ∀ i, i < l.length → 0 ≤ l.getD i 0
  sm : ∀ i, i < l.length → ∀ c, 0 ≤ c → c < l.getD i 0 → ∃ j, j < i ∧ l.getD j 0 = c
structure Sp.Num (l : List Int) (k : Nat) : Prop where
  rg : Sp.RG l
  lt : ∀ i, i < l.length → l.getD i 0 < (k : Int)
  on : ∀ c : Nat, c < k → ∃ i, i < l.length ∧ l.getD i 0 = (c : Int)
theorem Sp.RG.uniq {l1 l2 : List Int} (h1 : Sp.RG l1) (h2 : Sp.RG l2) (hl : l1.length = l2.length) (he : ∀ i j, i < l1.length → j < l1.length → (l1.getD i 0 = l1.getD j 0 ↔ l2.getD i 0 = l2.getD j 0)) : l1 = l2 := by
  have key : ∀ i, i < l1.length → l1.getD i 0 = l2.getD i 0 := by
    intro i
    induction i using Nat.strongRecOn with
    | _ i ih =>
      intro hi
      rcases Int.lt_trichotomy (l1.getD i 0) (l2.getD i 0) with h | h | h
      · obtain ⟨j, hj, e⟩ := h2.sm i (by omega) _ (h1.nn i hi) h
        have e2 := ih j hj (by omega)
        have e3 := (he j i (by omega) hi).1 (by rw [e2, e])
        omega
      · exact h
      · obtain ⟨j, hj, e⟩ := h1.sm i hi _ (h2.nn i (by omega)) h
        have e2 := ih j hj (by omega)
        have e3 := (he j i (by omega) hi).2 (by rw [← e2, e])
        omega
  apply List.ext_getElem hl
  intro i hi hi'
  have := key i hi
  rw [Sp.getD_eq _ _ hi, Sp.getD_eq _ _ hi'] at this
  exact this
theorem Sp.Num.count {l : List Int} {k k' : Nat} (h : Sp.Num l k) (h' : Sp.Num l k') : k = k' := by
  rcases Nat.lt_trichotomy k k' with h1 | h1 | h1
  · obtain ⟨i, a, b⟩ := h'.on k h1
    have := h.lt i a
    omega
  · exact h1
  · obtain ⟨i, a, b⟩ := h.on k' h1
    have := h'.lt i a
    omega
/-- A row of next ones as a function. -/
def Sp.fn (st : List Int) (i : Nat) : Nat := (st.getD i 0).toNat
theorem Sp.Perm.fnP {st : List Int} (h : Sp.Perm st) : PermF st.length (Sp.fn st) := by
  have hb : ∀ i, i < st.length → 0 ≤ st.getD i 0 ∧ st.getD i 0 < (st.length : Int) := fun i hi => h.bd _ (Sp.getD_mem hi)
  refine ⟨fun i hi => ?_, fun i j hi hj e => ?_⟩
  · have := hb i hi
    unfold Sp.fn
    omega
  · have h1 := hb i hi
    have h2 := hb j hj
    unfold Sp.fn at e
    exact h.inj i j hi hj (by omega)
theorem Sp.Perm.nth_it {st : List Int} (h : Sp.Perm st) {i : Nat} (hi : i < st.length) : ∀ m, Sp.nth st i m = ((itf (Sp.fn st) i m : Nat) : Int)
  | 0 => rfl
  | m + 1 => by
    have h1 := h.nth_it hi m
    have h2 := h.fnP.it hi m
    show st.getD (Sp.nth st i m).toNat 0 = ((Sp.fn st (itf (Sp.fn st) i m) : Nat) : Int)
    rw [h1, Int.toNat_natCast]
    have := h.bd _ (Sp.getD_mem h2)
    show _ = (((st.getD (itf (Sp.fn st) i m) 0).toNat : Nat) : Int)
    omega
theorem Sp.Perm.mem_rounds {st : List Int} (h : Sp.Perm st) {d : Nat} (hd : d < st.length) (x : Int) : x ∈ Sp.rounds st d (Sp.per st d) ↔ ∃ j : Nat, x = (j : Int) ∧ OrbF (Sp.fn st) d j := by
  obtain ⟨p1, p2, p3, p4⟩ := h.per hd
  have hper : itf (Sp.fn st) d (Sp.per st d) = d := by have := h.nth_it hd (Sp.per st d); omega
  constructor
  · intro hx
    obtain ⟨m, hm, rfl⟩ := List.mem_map.1 hx
    exact ⟨_, h.nth_it hd m, m, rfl⟩
  · rintro ⟨j, rfl, m, rfl⟩
    have hm : ∀ m, ∃ m', m' < Sp.per st d ∧ itf (Sp.fn st) d m = itf (Sp.fn st) d m' := by
      intro m
      induction m using Nat.strongRecOn with
      | _ m ih =>
        rcases Nat.lt_or_ge m (Sp.per st d) with h1 | h1
        · exact ⟨m, h1, rfl⟩
        · obtain ⟨m', h2, h3⟩ := ih (m - Sp.per st d) (by omega)
          refine ⟨m', h2, ?_⟩
          rw [← h3]
          conv => lhs; rw [show m = Sp.per st d + (m - Sp.per st d) by omega, itf_add, hper]
    obtain ⟨m', h1, h2⟩ := hm m
    rw [h2]
    exact List.mem_map.2 ⟨m', List.mem_range.2 h1, h.nth_it hd m'⟩
theorem PermF.back {L : Nat} {f : Nat → Nat} (h : PermF L f) {st : List Int} (hs : Sp.Perm st) (hL : st.length = L) (hf : f = Sp.fn st) {i j : Nat} (hi : i < L) (ho : OrbF f i j) : OrbF f j i := by
  subst hf
  obtain ⟨m, rfl⟩ := ho
  obtain ⟨p1, p2, p3, p4⟩ := hs.per (d := i) (by omega)
  have hper : itf (Sp.fn st) i (Sp.per st i) = i := by have := hs.nth_it (i := i) (by omega) (Sp.per st i); omega
  have hmul : ∀ n, itf (Sp.fn st) i (n * Sp.per st i) = i := by
    intro n
    induction n with
    | zero => rw [Nat.zero_mul]; rfl
    | succ n ih => rw [Nat.succ_mul, itf_add, ih, hper]
  refine ⟨m * Sp.per st i - m, ?_⟩
  have hle : m ≤ m * Sp.per st i := Nat.le_mul_of_pos_right m p1
  rw [← itf_add, show m + (m * Sp.per st i - m) = m * Sp.per st i by omega, hmul]
theorem Sp.Perm.sym {st : List Int} (h : Sp.Perm st) {i j : Nat} (hi : i < st.length) (ho : OrbF (Sp.fn st) i j) : OrbF (Sp.fn st) j i := PermF.back h.fnP h rfl rfl hi ho
theorem Sp.paint_get (k : Int) : ∀ (ds of : List Int) (i : Nat), (∀ x ∈ ds, 0 ≤ x) → i < of.length → (Sp.paint k of ds).getD i 0 = if (i : Int) ∈ ds then k else of.getD i 0
  | [], of, i, _, _ => by rw [if_neg (by simp)]; rfl
  | d :: r, of, i, h, hi => by
    show (Sp.paint k (of.set d.toNat k) r).getD i 0 = _
    rw [Sp.paint_get k r (of.set d.toNat k) i (fun x hx => h x (by simp [hx])) (by rw [List.length_set]; exact hi)]
    have hd := h d (by simp)
    by_cases h1 : (i : Int) ∈ r
    · rw [if_pos h1, if_pos (List.mem_cons_of_mem _ h1)]
    · rw [if_neg h1]
      by_cases h2 : d.toNat < of.length
      · rw [getD_set_eq of i d.toNat k h2]
        by_cases h3 : i = d.toNat
        · rw [if_pos h3, if_pos (by rw [show (i : Int) = d by omega]; simp)]
        · rw [if_neg h3, if_neg (by
            intro hm
            rcases List.mem_cons.1 hm with e | e
            · omega
            · exact h1 e)]
      · rw [List.set_eq_of_length_le (by omega), if_neg (by
          intro hm
          rcases List.mem_cons.1 hm with e | e
          · omega
          · exact h1 e)]
/-- What Faces has laid so far. -/
structure Sp.FSt (st : List Int) (d : Nat) (of : List Int) (k : Nat) : Prop where
  len : of.length = st.length
  bd : ∀ i, i < st.length → of.getD i 0 = -1 ∨ (0 ≤ of.getD i 0 ∧ of.getD i 0 < (k : Int))
  done : ∀ i, i < d → 0 ≤ of.getD i 0
  inv : ∀ i, i < st.length → of.getD (Sp.fn st i) 0 = of.getD i 0
  sep : ∀ i j, i < st.length → j < st.length → 0 ≤ of.getD i 0 → of.getD i 0 = of.getD j 0 → OrbF (Sp.fn st) i j
  rg : ∀ i, i < d → ∀ c, 0 ≤ c → c < of.getD i 0 → ∃ j, j < i ∧ of.getD j 0 = c
  on : ∀ c : Nat, c < k → ∃ i, i < d ∧ of.getD i 0 = (c : Int)
theorem getD_rep (n i : Nat) (x : Int) (h : i < n) : (List.replicate n x).getD i 0 = x := by
  rw [List.getD_eq_getElem?_getD, List.getElem?_replicate, if_pos h]; rfl
theorem Sp.FSt.first (st : List Int) (hp : Sp.Perm st) : Sp.FSt st 0 (List.replicate st.length (-1)) 0 := by
  refine ⟨by simp, fun i hi => .inl (getD_rep _ _ _ hi), fun i hi => by omega, fun i hi => by rw [getD_rep _ _ _ hi, getD_rep _ _ _ (hp.fnP.mp i hi)], fun i j hi hj h => ?_, fun i hi => by omega, fun c hc => by omega⟩
  rw [getD_rep _ _ _ hi] at h
  omega
theorem Sp.FSt.old {st : List Int} {d k : Nat} {of : List Int} (h : Sp.FSt st d of k) (hd : d < st.length) (h0 : 0 ≤ of.getD d 0) : Sp.FSt st (d + 1) of k := by
  refine ⟨h.len, h.bd, fun i hi => ?_, h.inv, h.sep, fun i hi c c0 c1 => ?_, fun c hc => ?_⟩
  · rcases Nat.lt_or_ge i d with h1 | h1
    · exact h.done i h1
    · rw [show i = d by omega]; exact h0
  · rcases Nat.lt_or_ge i d with h1 | h1
    · exact h.rg i h1 c c0 c1
    · rw [show i = d by omega] at c1 ⊢
      have hk : of.getD d 0 < (k : Int) := by rcases h.bd d hd with e | e <;> omega
      obtain ⟨j, h2, h3⟩ := h.on c.toNat (by omega)
      exact ⟨j, h2, by rw [h3]; omega⟩
  · obtain ⟨i, h1, h2⟩ := h.on c hc
    exact ⟨i, by omega, h2⟩
theorem Sp.FSt.orb {st : List Int} {d k : Nat} {of : List Int} (h : Sp.FSt st d of k) (hp : Sp.Perm st) {i : Nat} (hi : i < st.length) : ∀ m, of.getD (itf (Sp.fn st) i m) 0 = of.getD i 0
  | 0 => rfl
  | m + 1 => by
    show of.getD (Sp.fn st (itf (Sp.fn st) i m)) 0 = _
    rw [h.inv _ (hp.fnP.it hi m), h.orb hp hi m]
theorem Sp.FSt.new {st : List Int} {d k : Nat} {of : List Int} (h : Sp.FSt st d of k) (hp : Sp.Perm st) (hd : d < st.length) (h0 : ¬ 0 ≤ of.getD d 0) : Sp.FSt st (d + 1) (Sp.paint k of (Sp.rounds st d (Sp.per st d))) (k + 1) := by
  have hpos : ∀ x ∈ Sp.rounds st d (Sp.per st d), 0 ≤ x := fun x hx => by
    obtain ⟨j, rfl, -⟩ := (hp.mem_rounds hd x).1 hx
    omega
  have hget : ∀ i, i < st.length → (OrbF (Sp.fn st) d i ∧ (Sp.paint k of (Sp.rounds st d (Sp.per st d))).getD i 0 = (k : Int) ∧ of.getD i 0 = -1) ∨ (¬ OrbF (Sp.fn st) d i ∧ (Sp.paint k of (Sp.rounds st d (Sp.per st d))).getD i 0 = of.getD i 0) := by
    intro i hi
    rw [Sp.paint_get k _ of i hpos (by rw [h.len]; exact hi)]
    by_cases ho : OrbF (Sp.fn st) d i
    · left
      refine ⟨ho, ?_, ?_⟩
      · rw [if_pos ((hp.mem_rounds hd _).2 ⟨i, rfl, ho⟩)]
      · have e : of.getD i 0 = of.getD d 0 := by obtain ⟨m, rfl⟩ := ho; exact h.orb hp hd m
        rcases h.bd d hd with e1 | e1
        · rw [e, e1]
        · omega
    · right
      refine ⟨ho, ?_⟩
      rw [if_neg (fun hm => by
        obtain ⟨j, e, o⟩ := (hp.mem_rounds hd _).1 hm
        have : i = j := by omega
        exact ho (this ▸ o))]
  have hdd := hget d hd
  have hdk : (Sp.paint k of (Sp.rounds st d (Sp.per st d))).getD d 0 = (k : Int) := by
    rcases hdd with e | e
    · exact e.2.1
    · exact absurd (OrbF.refl _ _) e.1
  refine ⟨by rw [Sp.paint_len]; exact h.len, fun i hi => ?_, fun i hi => ?_, fun i hi => ?_, fun i j hi hj hn e => ?_, fun i hi c c0 c1 => ?_, fun c hc => ?_⟩
  · rcases hget i hi with ⟨-, e, -⟩ | ⟨-, e⟩
    · right; rw [e]; omega
    · rw [e]; rcases h.bd i hi with e1 | e1
      · exact .inl e1
      · exact .inr ⟨e1.1, by omega⟩
  · rcases Nat.lt_or_ge i d with h1 | h1
    · rcases hget i (by omega) with ⟨-, e, -⟩ | ⟨-, e⟩
      · rw [e]; omega
      · rw [e]; exact h.done i h1
    · rw [show i = d by omega, hdk]; omega
  · have hfi := hp.fnP.mp i hi
    rcases hget i hi with ⟨o, e, -⟩ | ⟨o, e⟩
    · rcases hget _ hfi with ⟨-, e', -⟩ | ⟨o', -⟩
      · rw [e, e']
      · exact absurd (o.trans (OrbF.one _ i)) o'
    · rcases hget _ hfi with ⟨o', -, -⟩ | ⟨-, e'⟩
      · exact absurd (o'.trans (hp.sym hi (OrbF.one _ i))) o
      · rw [e, e']; exact h.inv i hi
  · rcases hget i hi with ⟨o, e1, -⟩ | ⟨o, e1⟩ <;> rcases hget j hj with ⟨o', e2, -⟩ | ⟨o', e2⟩
    · exact (hp.sym hd o).trans o'
    · rw [e1, e2] at e
      rcases h.bd j hj with e3 | e3 <;> omega
    · rw [e1, e2] at e
      rcases h.bd i hi with e3 | e3 <;> omega
    · rw [e1, e2] at e
      rw [e1] at hn
      exact h.sep i j hi hj hn e
  · rcases Nat.lt_or_ge i d with h1 | h1
    · rcases hget i (by omega) with ⟨-, -, e⟩ | ⟨-, e⟩
      · have := h.done i h1; omega
      · rw [e] at c1
        obtain ⟨j, h2, h3⟩ := h.rg i h1 c c0 c1
        refine ⟨j, h2, ?_⟩
        rcases hget j (by omega) with ⟨-, -, e'⟩ | ⟨-, e'⟩
        · omega
        · rw [e', h3]
    · rw [show i = d by omega] at c1 ⊢
      rw [hdk] at c1
      obtain ⟨j, h2, h3⟩ := h.on c.toNat (by omega)
      refine ⟨j, h2, ?_⟩
      rcases hget j (by omega) with ⟨-, -, e'⟩ | ⟨-, e'⟩
      · omega
      · rw [e', h3]; omega
  · by_cases hk : c = k
    · exact ⟨d, by omega, by rw [hdk, hk]⟩
    · obtain ⟨i, h1, h2⟩ := h.on c (by omega)
      refine ⟨i, by omega, ?_⟩
      rcases hget i (by omega) with ⟨-, -, e'⟩ | ⟨-, e'⟩
      · omega
      · rw [e', h2]
theorem Sp.faces2Go_st {st : List Int} (hp : Sp.Perm st) : ∀ f d of k, d + f = st.length → Sp.FSt st d of k → Sp.FSt st st.length (Sp.faces2Go st f d of k).1 (Sp.faces2Go st f d of k).2
  | 0, d, of, k, hd, h => by rw [show st.length = d by omega] ; exact h
  | f + 1, d, of, k, hd, h => by
    rw [Sp.faces2Go]
    by_cases h0 : 0 ≤ of.getD d 0
    · rw [if_pos h0]
      exact Sp.faces2Go_st hp f (d + 1) of k (by omega) (h.old (by omega) h0)
    · rw [if_neg h0]
      exact Sp.faces2Go_st hp f (d + 1) _ (k + 1) (by omega) (h.new hp (by omega) h0)
/-- What the reference's Faces tells: labels numbered by their first ones, that tell the rounds apart. -/
theorem Sp.faces2_st {q : Sp.Net} (hp : Sp.Perm q.next) (hl : q.next.length = q.tail.length) (hev : q.tail.length % 2 = 0) : Sp.FSt (Sp.behindL q.next) (Sp.behindL q.next).length (Sp.faces2 q).1 (Sp.faces2 q).2 := by
  have hb := hp.behind (by rw [hl]; exact hev)
  have hlb : (Sp.behindL q.next).length = q.tail.length := by rw [Sp.behindL_len, hl]
  unfold Sp.faces2
  refine Sp.faces2Go_st hb _ 0 _ 0 (by rw [hlb]; omega) ?_
  rw [← hlb]
  exact Sp.FSt.first _ hb
theorem Sp.FSt.num {st : List Int} {of : List Int} {k : Nat} (h : Sp.FSt st st.length of k) : Sp.Num of k := by
  refine ⟨⟨fun i hi => h.done i (by rw [← h.len]; exact hi), fun i hi => h.rg i (by rw [← h.len]; exact hi)⟩, fun i hi => ?_, fun c hc => ?_⟩
  · rw [h.len] at hi
    have := h.done i hi
    rcases h.bd i hi with e | e <;> omega
  · obtain ⟨i, h1, h2⟩ := h.on c hc
    exact ⟨i, by rw [h.len]; exact h1, h2⟩
theorem Sp.FSt.cls {st : List Int} {of : List Int} {k : Nat} (h : Sp.FSt st st.length of k) : Cls st.length (Sp.fn st) (fun i => (of.getD i 0).toNat) k := by
  have hb : ∀ i, i < st.length → 0 ≤ of.getD i 0 ∧ of.getD i 0 < (k : Int) := fun i hi => by
    have := h.done i hi
    rcases h.bd i hi with e | e <;> omega
  refine ⟨fun i hi => ?_, fun c hc => ?_, fun i hi => ?_, fun i j hi hj e => ?_⟩
  · have := hb i hi
    show (of.getD i 0).toNat < k
    omega
  · obtain ⟨i, h1, h2⟩ := h.on c hc
    exact ⟨i, h1, by show (of.getD i 0).toNat = c; omega⟩
  · show (of.getD (Sp.fn st i) 0).toNat = (of.getD i 0).toNat
    rw [h.inv i hi]
  · have e' : (of.getD i 0).toNat = (of.getD j 0).toNat := e
    have h1 := hb i hi
    have h2 := hb j hj
    exact h.sep i j hi hj h1.1 (by omega)
end Go.Proofs.Ytoegjnolccabjab


/- Package dual: meshOf. -/
namespace Go.Proofs.Ytoegjnolccabjab
open Go Go.RowKit

theorem obj_cells6 {w : World} {p : Nat} {a b c d e f : Value} {t : TypeId} (h : w.heap[p]? = some (.cells #[a, b, c, d, e, f] t (0, 0))) :
    (w.cell? ⟨p, 0, none⟩ = some a ∧ w.cell? ⟨p, 1, none⟩ = some b ∧ w.cell? ⟨p, 2, none⟩ = some c ∧ w.cell? ⟨p, 3, none⟩ = some d ∧ w.cell? ⟨p, 4, none⟩ = some e ∧ w.cell? ⟨p, 5, none⟩ = some f) ∧
      w.frozen? ⟨p, 0, none⟩ = false ∧ w.frozen? ⟨p, 1, none⟩ = false ∧ w.frozen? ⟨p, 2, none⟩ = false ∧ w.frozen? ⟨p, 3, none⟩ = false ∧ w.frozen? ⟨p, 4, none⟩ = false ∧ w.frozen? ⟨p, 5, none⟩ = false := by
  simp [World.cell?, World.frozen?, h]
theorem six_cells {wx : World} {p : Nat} {t : TypeId} {a0 a1 a2 a3 a4 a5 : Value} (h : wx.heap[p]? = some (.cells #[a0, a1, a2, a3, a4, a5] t (0, 0))) (b0 b1 b2 b3 b4 b5 : Value) :
    ((((((wx.setCell ⟨p, 0, none⟩ b0).setCell ⟨p, 1, none⟩ b1).setCell ⟨p, 2, none⟩ b2).setCell ⟨p, 3, none⟩ b3).setCell ⟨p, 4, none⟩ b4).setCell ⟨p, 5, none⟩ b5).heap[p]? = some (.cells #[b0, b1, b2, b3, b4, b5] t (0, 0)) := by
  rw [heap_setCell_same _ p 5 _ _ _ (by rw [heap_setCell_same _ p 4 _ _ _ (by rw [heap_setCell_same _ p 3 _ _ _ (by rw [heap_setCell_same _ p 2 _ _ _ (by rw [heap_setCell_same _ p 1 _ _ _ (by rw [heap_setCell_same _ p 0 _ _ _ h])])])])])]
  rfl
theorem six_own {wx : World} {p base : Nat} {v : Value} {l : List Int} (h : OwnI wx base v l) (hp : p < base) (b0 b1 b2 b3 b4 b5 : Value) : OwnI ((((((wx.setCell ⟨p, 0, none⟩ b0).setCell ⟨p, 1, none⟩ b1).setCell ⟨p, 2, none⟩ b2).setCell ⟨p, 3, none⟩ b3).setCell ⟨p, 4, none⟩ b4).setCell ⟨p, 5, none⟩ b5) base v l :=
  own_store (own_store (own_store (own_store (own_store (own_store h hp 0 b0) hp 1 b1) hp 2 b2) hp 3 b3) hp 4 b4) hp 5 b5
theorem six_below {w0 wx : World} {p base : Nat} (h : Below base w0 wx) (hp : base ≤ p) (b0 b1 b2 b3 b4 b5 : Value) : Below base w0 ((((((wx.setCell ⟨p, 0, none⟩ b0).setCell ⟨p, 1, none⟩ b1).setCell ⟨p, 2, none⟩ b2).setCell ⟨p, 3, none⟩ b3).setCell ⟨p, 4, none⟩ b4).setCell ⟨p, 5, none⟩ b5) :=
  (((((h.setCell (by exact hp) _).setCell (by exact hp) _).setCell (by exact hp) _).setCell (by exact hp) _).setCell (by exact hp) _).setCell (by exact hp) _
/-- A mesh that is being laid. -/
structure MK (B m O n : Nat) (N : Int) (tv nv cv : Value) (W wr : World) (of : List Int) (k : Int) : Prop where
  pk : PKeep B O n W wr of
  ob : wr.heap[m]? = some (.cells #[.int .i64 N, tv, nv, cv, .slice (some ⟨O, 0, none⟩) n n, .int .i64 k] 68 (0, 0))
  ne : m ≠ O
  mb : B ≤ m
theorem MK.below {B m O n : Nat} {N : Int} {tv nv cv : Value} {W wr w5 : World} {of : List Int} {k : Int} (h : MK B m O n N tv nv cv W wr of k) (hb : Below wr.heap.size wr w5) : MK B m O n N tv nv cv W w5 of k :=
  ⟨h.pk.below hb, (hb.block _ (heap_lt h.ob)).trans h.ob, h.ne, h.mb⟩
theorem MK.setO {B m O n : Nat} {N : Int} {tv nv cv : Value} {W wr : World} {of : List Int} {k : Int} (h : MK B m O n N tv nv cv W wr of k) (x : Nat) (p : Int) : MK B m O n N tv nv cv W (wr.setCell ⟨O, x, none⟩ (.int .i64 p)) (of.set x p) k :=
  ⟨h.pk.set x p, by rw [heap_setCell_other _ _ _ _ (by exact h.ne)]; exact h.ob, h.ne, h.mb⟩
theorem MK.setK {B m O n : Nat} {N : Int} {tv nv cv : Value} {W wr : World} {of : List Int} {k : Int} (h : MK B m O n N tv nv cv W wr of k) (p : Int) : MK B m O n N tv nv cv W (wr.setCell ⟨m, 5, none⟩ (.int .i64 p)) of p :=
  ⟨⟨h.pk.len, own_but h.pk.own ((ButRow.refl m wr).setCell 5 _) (fun e => h.ne (by injection e with e; exact e.symm)), h.pk.bel.setCell (by exact h.mb) _, by have := h.pk.lt; simpa using this, h.pk.ge⟩, by rw [heap_setCell_same wr m 5 _ _ _ h.ob]; rfl, h.ne, h.mb⟩
theorem mesh_met {w W2 W3 : World} {q : Sp.Net} {ta na ca : Option Addr} {tc nc cc : Nat} (hs3 : W3.heap.size = w.heap.size + 2) (hb3 : Below (w.heap.size + 2) W2 W3) {wz : World} {m O : Nat} (hO : OwnI wz O (.slice (some ⟨O, 0, none⟩) q.tail.length q.tail.length) (List.replicate q.tail.length (-1))) (hA : wz.heap[m]? = some (.cells #[.int .i64 0, .slice none 0 0, .slice none 0 0, .slice none 0 0, .slice none 0 0, .int .i64 0] 68)) (hne : m ≠ O) (hbZ : Below W3.heap.size W3 wz) (hmB : W3.heap.size ≤ m) (hOB : W3.heap.size ≤ O) :
    MK (w.heap.size + 2) m O q.tail.length q.n (.slice ta q.tail.length tc) (.slice na q.next.length nc) (.slice ca q.cap.length cc) W2 ((((((wz.setCell ⟨m, 0, none⟩ (.int .i64 q.n)).setCell ⟨m, 1, none⟩ (.slice ta q.tail.length tc)).setCell ⟨m, 2, none⟩ (.slice na q.next.length nc)).setCell ⟨m, 3, none⟩ (.slice ca q.cap.length cc)).setCell ⟨m, 4, none⟩ (.slice (some ⟨O, 0, none⟩) q.tail.length q.tail.length)).setCell ⟨m, 5, none⟩ (.int .i64 0)) (List.replicate q.tail.length (-1)) 0 := by
  have hbt : ButRow m wz ((((((wz.setCell ⟨m, 0, none⟩ (.int .i64 q.n)).setCell ⟨m, 1, none⟩ (.slice ta q.tail.length tc)).setCell ⟨m, 2, none⟩ (.slice na q.next.length nc)).setCell ⟨m, 3, none⟩ (.slice ca q.cap.length cc)).setCell ⟨m, 4, none⟩ (.slice (some ⟨O, 0, none⟩) q.tail.length q.tail.length)).setCell ⟨m, 5, none⟩ (.int .i64 0)) := ((((((ButRow.refl m wz).setCell 0 _).setCell 1 _).setCell 2 _).setCell 3 _).setCell 4 _).setCell 5 _
  have hlt := (hO.lt O rfl).2
  refine ⟨⟨by simp, own_but (own_base hO (by omega)) hbt (fun e => hne (by injection e with e; exact e.symm)), ?_, by simpa using hlt, by omega⟩, ?_, hne, by omega⟩
  · have h := hb3.trans (hbZ.mono (by omega))
    exact (((((h.setCell (by show w.heap.size + 2 ≤ m; omega) _).setCell (by show w.heap.size + 2 ≤ m; omega) _).setCell (by show w.heap.size + 2 ≤ m; omega) _).setCell (by show w.heap.size + 2 ≤ m; omega) _).setCell (by show w.heap.size + 2 ≤ m; omega) _).setCell (by show w.heap.size + 2 ≤ m; omega) _
  · rw [heap_setCell_same _ m 5 _ _ _ (by rw [heap_setCell_same _ m 4 _ _ _ (by rw [heap_setCell_same _ m 3 _ _ _ (by rw [heap_setCell_same _ m 2 _ _ _ (by rw [heap_setCell_same _ m 1 _ _ _ (by rw [heap_setCell_same _ m 0 _ _ _ hA])])])])])]
    rfl
theorem Sp.paint_more (k : Int) (of l : List Int) (x : Int) : Sp.paint k of (l ++ [x]) = (Sp.paint k of l).set x.toNat k := by
  simp [Sp.paint, List.foldl_append]
/-- Along a face that is not laid yet. -/
theorem Sp.FSt.along {st : List Int} (hp : Sp.Perm st) {d k : Nat} {of : List Int} (h : Sp.FSt st d of k) (hd : d < st.length) (h0 : of.getD d 0 = -1) (t : Nat) (ht : t < Sp.per st d) :
    (Sp.paint k of (Sp.rounds st d t)).getD (itf (Sp.fn st) d t) 0 = -1 := by
  have hx := hp.fnP.it hd t
  have hin : ∀ m, of.getD (itf (Sp.fn st) d m) 0 = -1 := fun m => by
    induction m with
    | zero => exact h0
    | succ m ih => exact (h.inv _ (hp.fnP.it hd m)).trans ih
  rw [Sp.paint_get k _ of _ (fun x hx' => ?_) (by rw [h.len]; exact hx), if_neg ?_]
  · exact hin t
  · intro hm
    obtain ⟨i, hi, e⟩ := List.mem_map.1 hm
    rw [List.mem_range] at hi
    rw [hp.nth_it hd] at e
    have e2 : Sp.nth st d (i + (t - i)) = Sp.nth st d i := by rw [show i + (t - i) = t by omega, hp.nth_it hd, hp.nth_it hd, e]
    exact (hp.per hd).2.2.2 (t - i) (by omega) (by omega) (hp.back hd i (t - i) e2)
  · obtain ⟨i, -, rfl⟩ := List.mem_map.1 hx'
    rw [hp.nth_it hd]
    omega
theorem Sp.FSt.round {st : List Int} (hp : Sp.Perm st) {d k : Nat} {of : List Int} (h : Sp.FSt st d of k) (hd : d < st.length) :
    (Sp.paint k of (Sp.rounds st d (Sp.per st d))).getD d 0 = (k : Int) := by
  have hpp := hp.per hd
  rw [Sp.paint_get k _ of _ (fun x hx' => ?_) (by rw [h.len]; exact hd), if_pos ?_]
  · exact List.mem_map.2 ⟨0, List.mem_range.2 (by omega), rfl⟩
  · obtain ⟨i, -, rfl⟩ := List.mem_map.1 hx'
    rw [hp.nth_it hd]
    omega
set_option maxRecDepth 100000 in
set_option maxHeartbeats 4000000 in
theorem meshOf_any (q : Sp.Net) (v tv nv cv : Value) (w : World) (hv : NetI w v q tv nv cv) (hq1 : q.next.length = q.tail.length) (hn : q.tail.length ≤ 60) (hev : q.tail.length % 2 = 0) (hp : Sp.Perm q.next) :
    Calls Try.prog 41 #[v] w fun e w' => ∃ O, e = .returned (.agg #[.int .i64 q.n, tv, nv, cv, .slice (some ⟨O, 0, none⟩) q.tail.length q.tail.length, .int .i64 ((max (Sp.faces2 q).2 1 : Nat) : Int)]) ∧ OwnI w' w.heap.size (.slice (some ⟨O, 0, none⟩) q.tail.length q.tail.length) (Sp.faces2 q).1 ∧ Below w.heap.size w w' := by
  have hv' := hv
  obtain ⟨rfl, h1, h2, h3⟩ := hv
  obtain ⟨ta, tc, rfl, htc, htm⟩ := h1.form
  obtain ⟨na, nc, rfl, -, -⟩ := h2.form
  obtain ⟨ca, cc, rfl, -, -⟩ := h3.form
  clear h1 h2 h3
  have HPm := hide (hp.behind (by rw [hq1]; exact hev))
  have HBL : Hid ((Sp.behindL q.next).length = q.tail.length) := hide (by rw [Sp.behindL_len, hq1])
  have HF1 : Hid (Sp.faces2 q = Sp.faces2Go (Sp.behindL q.next) q.tail.length 0 (List.replicate q.tail.length (-1)) 0) := hide rfl
  generalize Sp.faces2 q = R at *
  obtain ⟨W2, hW2⟩ : ∃ W2, W2 = (w.alloc (.cells #[.int .i64 q.n, .slice ta q.tail.length tc, .slice na q.next.length nc, .slice ca q.cap.length cc] 26)).alloc (.cells #[.int .i64 0, .slice none 0 0, .slice none 0 0, .slice none 0 0, .slice none 0 0, .int .i64 0] 68) := ⟨_, rfl⟩
  have hs2 : W2.heap.size = w.heap.size + 2 := by rw [hW2]; simp
  have hbW : Below w.heap.size w W2 := by rw [hW2]; exact ((Below.refl _ w).alloc (Nat.le_refl _) _).alloc (by simp) _
  have HW : Hid (∀ w', Below (w.heap.size + 2) W2 w' → Below w.heap.size w w') := hide fun w' hb => hbW.trans (hb.mono (by omega))
  have HV : Hid (∀ w', Below (w.heap.size + 2) W2 w' → NetI w' (.agg #[.int .i64 q.n, .slice ta q.tail.length tc, .slice na q.next.length nc, .slice ca q.cap.length cc]) q (.slice ta q.tail.length tc) (.slice na q.next.length nc) (.slice ca q.cap.length cc)) := hide fun w' hb => hv'.below (unhide HW _ hb)
  have HBX : Hid (∀ w', Below (w.heap.size + 2) W2 w' → w'.cell? ⟨w.heap.size, 0, none⟩ = some (.int .i64 q.n) ∧ w'.cell? ⟨w.heap.size, 1, none⟩ = some (.slice ta q.tail.length tc) ∧ w'.cell? ⟨w.heap.size, 2, none⟩ = some (.slice na q.next.length nc) ∧ w'.cell? ⟨w.heap.size, 3, none⟩ = some (.slice ca q.cap.length cc)) := hide fun w' hb => by
    have h1 := heap_alloc_new w (.cells #[.int .i64 q.n, .slice ta q.tail.length tc, .slice na q.next.length nc, .slice ca q.cap.length cc] 26)
    have h2 : w'.heap[w.heap.size]? = some (.cells #[.int .i64 q.n, .slice ta q.tail.length tc, .slice na q.next.length nc, .slice ca q.cap.length cc] 26) := by
      rw [hb.block w.heap.size (by omega), hW2]
      exact (((Below.refl (w.heap.size + 1) _).alloc (by simp) _).block w.heap.size (by omega)).trans h1
    obtain ⟨e0, e1, e2, e3, -⟩ := obj_cells h2
    exact ⟨e0, e1, e2, e3⟩
  have HRC : Hid (∀ w', Below (w.heap.size + 2) W2 w' → w'.heap[w.heap.size + 1]? = some (.cells #[.int .i64 0, .slice none 0 0, .slice none 0 0, .slice none 0 0, .slice none 0 0, .int .i64 0] 68 (0, 0))) := hide fun w' hb => by
    rw [hb.block (w.heap.size + 1) (by omega), hW2]
    have h := heap_alloc_new (w.alloc (.cells #[.int .i64 q.n, .slice ta q.tail.length tc, .slice na q.next.length nc, .slice ca q.cap.length cc] 26)) (.cells #[.int .i64 0, .slice none 0 0, .slice none 0 0, .slice none 0 0, .slice none 0 0, .int .i64 0] 68)
    rw [show (w.alloc (.cells #[.int .i64 q.n, .slice ta q.tail.length tc, .slice na q.next.length nc, .slice ca q.cap.length cc] 26)).heap.size = w.heap.size + 1 by simp] at h
    exact h
  have HW2 := hide hW2
  have Hs2 := hide hs2
  obtain ⟨P, hP⟩ : ∃ P : Ending → World → Prop, P = fun e w' => ∃ O, e = .returned (.agg #[.int .i64 q.n, .slice ta q.tail.length tc, .slice na q.next.length nc, .slice ca q.cap.length cc, .slice (some ⟨O, 0, none⟩) q.tail.length q.tail.length, .int .i64 ((max R.2 1 : Nat) : Int)]) ∧ OwnI w' w.heap.size (.slice (some ⟨O, 0, none⟩) q.tail.length q.tail.length) R.1 ∧ Below w.heap.size w w' := ⟨_, rfl⟩
  rw [← hP]
  have HP := hide hP
  have Hev := hide hev
  have Hq1 := hide hq1
  clear hv' hP hs2 hbW hW2 hp hq1 hev
  go_enter Try.func41, Try.ntmps41
  go_upto_region 1 with fail
  rw [← unhide HW2]
  have hbr : Below (w.heap.size + 2) W2 W2 := Below.refl _ _
  go_cut [3] (fun s3 wx => ∃ m O, s3 = .pointer (some ⟨m, 0, none⟩) ∧ Hid (MK (w.heap.size + 2) m O q.tail.length q.n (.slice ta q.tail.length tc) (.slice na q.next.length nc) (.slice ca q.cap.length cc) W2 wx (List.replicate q.tail.length (-1)) 0))
  case first =>
    have hb0 := hbr.drew
    clear hbr
    have hs3 : W2.drew.heap.size = w.heap.size + 2 := unhide Hs2
    have HS : Hid (∀ w', Below W2.drew.heap.size W2.drew w' → w'.cell? ⟨w.heap.size, 0, none⟩ = some (.int .i64 q.n) ∧ w'.cell? ⟨w.heap.size, 1, none⟩ = some (.slice ta q.tail.length tc) ∧ w'.cell? ⟨w.heap.size, 2, none⟩ = some (.slice na q.next.length nc) ∧ w'.cell? ⟨w.heap.size, 3, none⟩ = some (.slice ca q.cap.length cc)) := hide fun w' hb => unhide HBX w' (hb0.trans (hb.mono (by rw [hs3]; exact Nat.le_refl _)))
    refine wp_region_G (fun w' => w'.cell? ⟨w.heap.size, 0, none⟩ = some (.int .i64 q.n) ∧ w'.cell? ⟨w.heap.size, 1, none⟩ = some (.slice ta q.tail.length tc) ∧ w'.cell? ⟨w.heap.size, 2, none⟩ = some (.slice na q.next.length nc) ∧ w'.cell? ⟨w.heap.size, 3, none⟩ = some (.slice ca q.cap.length cc)) (fun i => i == 8) (by kernel_rfl) (unhide HS _ (Below.refl _ _)) (fun hHeld => ?_)
    have hbW3 := hb0
    have mesh_met := @mesh_met w W2 W2.drew q ta na ca tc nc cc hs3 hbW3
    clear hbW3 hb0 hs3
    generalize W2.drew = W3 at *
    have hb0 : Below W3.heap.size W3 W3 := Below.refl _ _
    refine wpAnyG_take (v := ?_) 0 (by rfl) (by kernel_rfl) (by kernel_rfl) (by kernel_rfl) (by kernel_rfl) (fun _ _ _ h => h) (Or.inl ⟨by rfl, ?_⟩) (by assumption) ?_
    rotate_left
    · (intro w' hSw; (try dsimp only at hSw); (try simp only [List.getElem_toArray, List.getElem_cons_zero]); go_simp; try (with_reducible rfl))
    simp only [Act.put, List.getElem_toArray, List.getElem_cons_zero, List.setIfInBounds_toArray, List.set_cons_zero, List.set_cons_succ]
    refine wpAnyG_take (v := ?_) 2 (by rfl) (by kernel_rfl) (by kernel_rfl) (by kernel_rfl) (by kernel_rfl) (fun _ _ _ h => h) (Or.inl ⟨by rfl, ?_⟩) (by assumption) ?_
    rotate_left
    · (intro w' hSw; (try dsimp only at hSw); (try simp only [List.getElem_toArray, List.getElem_cons_succ, List.getElem_cons_zero]); go_simp; try (with_reducible rfl))
    simp only [Act.put, List.getElem_toArray, List.getElem_cons_succ, List.getElem_cons_zero, List.setIfInBounds_toArray, List.set_cons_zero, List.set_cons_succ]
    refine wpAnyG_take (v := ?_) 3 (by rfl) (by kernel_rfl) (by kernel_rfl) (by kernel_rfl) (by kernel_rfl) (fun _ _ _ h => h) (Or.inl ⟨by rfl, ?_⟩) (by assumption) ?_
    rotate_left
    · (intro w' hSw; (try dsimp only at hSw); (try simp only [List.getElem_toArray, List.getElem_cons_succ, List.getElem_cons_zero]); go_simp; try (with_reducible rfl))
    simp only [Act.put, List.getElem_toArray, List.getElem_cons_succ, List.getElem_cons_zero, List.setIfInBounds_toArray, List.set_cons_zero, List.set_cons_succ]
    refine wpAnyG_take (v := ?_) 4 (by rfl) (by kernel_rfl) (by kernel_rfl) (by kernel_rfl) (by kernel_rfl) (fun _ _ _ h => h) (Or.inl ⟨by rfl, ?_⟩) (by assumption) ?_
    rotate_left
    · (intro w' hSw; (try dsimp only at hSw); (try simp only [List.getElem_toArray, List.getElem_cons_succ, List.getElem_cons_zero]); go_simp; try (with_reducible rfl))
    simp only [Act.put, List.getElem_toArray, List.getElem_cons_succ, List.getElem_cons_zero, List.setIfInBounds_toArray, List.set_cons_zero, List.set_cons_succ]
    refine wpAnyG_ready [1, 7] (by kernel_rfl) (by simp) ?_
    refine AllReadyG.cons 1 (by rfl) (fun K hK => ?_) ?_
    · simp only [List.getElem_toArray, List.getElem_cons_succ, List.getElem_cons_zero]
      go_simp
      refine hK.out _ _ (unhide HS _ (hb0.alloc hb0.size _)) (fun _ => ?_)
      clear hK K
      try simp only [Act.put, List.setIfInBounds_toArray, List.set_cons_zero, List.set_cons_succ]
      obtain ⟨gl, hgl⟩ : ∃ g, g = W3.heap.size := ⟨_, rfl⟩
      rw [← hgl]
      have hL : (W3.alloc (.cells #[.int .i64 (-1)] 3)).cell? ⟨gl, 0, none⟩ = some (.int .i64 (-1)) := by rw [hgl]; exact own_cell (own_lit W3 0 W3.heap.size 1 [-1] rfl rfl (Nat.zero_le _) (by simp)) 0 (by simp)
      have hLs : gl < (W3.alloc (.cells #[.int .i64 (-1)] 3)).heap.size := by rw [hgl]; simp
      have hbA : Below W3.heap.size W3 (W3.alloc (.cells #[.int .i64 (-1)] 3)) := hb0.alloc hb0.size _
      have hxL : Below W3.heap.size W3 (W3.alloc (.cells #[.int .i64 (-1)] 3)) := (Below.refl _ _).alloc (Nat.le_refl _) _
      clear hxL hgl
      generalize W3.alloc (.cells #[.int .i64 (-1)] 3) = whbA at *
      refine wpAnyG_ready [5, 7] (by kernel_rfl) (by simp) ?_
      refine AllReadyG.cons 5 (by rfl) (fun K hK => ?_) ?_
      · simp only [List.getElem_toArray, List.getElem_cons_succ, List.getElem_cons_zero]
        go_simp
        go_at_call 50
        refine (repeat_any (-1) gl q.tail.length whbA hn hL hLs).mono ?_
        rintro e whbB ⟨rfl, hO, hxR⟩
        have hbB : Below W3.heap.size W3 whbB := hbA.trans (hxR.mono hbA.size)
        have hOB : W3.heap.size ≤ whbA.heap.size := hbA.size
        refine hK.out _ _ (unhide HS _ hbB) (fun _ => ?_)
        clear hK K
        try simp only [Act.put, List.setIfInBounds_toArray, List.set_cons_zero, List.set_cons_succ]
        obtain ⟨O, hOe⟩ : ∃ O, O = whbA.heap.size := ⟨_, rfl⟩
        rw [← hOe] at hO hOB ⊢
        clear hxR hOe
        refine wpAnyG_take (v := ?_) 6 (by rfl) (by kernel_rfl) (by kernel_rfl) (by kernel_rfl) (by kernel_rfl) (fun _ _ _ h => h) (Or.inl ⟨by rfl, ?_⟩) (by assumption) ?_
        rotate_left
        · (intro w' hSw; (try dsimp only at hSw); (try simp only [List.getElem_toArray, List.getElem_cons_succ, List.getElem_cons_zero]); go_simp; try (with_reducible rfl))
        simp only [Act.put, List.getElem_toArray, List.getElem_cons_succ, List.getElem_cons_zero, List.setIfInBounds_toArray, List.set_cons_zero, List.set_cons_succ]
        refine wpAnyG_ready [7] (by kernel_rfl) (by simp) ?_
        refine AllReadyG.cons 7 (by rfl) (fun K hK => ?_) ?_
        · simp only [List.getElem_toArray, List.getElem_cons_succ, List.getElem_cons_zero]
          go_simp
          refine hK.out _ _ (unhide HS _ (hbB.alloc hbB.size _)) (fun _ => ?_)
          clear hK K
          try simp only [Act.put, List.setIfInBounds_toArray, List.set_cons_zero, List.set_cons_succ]
          obtain ⟨m, hm⟩ : ∃ m, m = whbB.heap.size := ⟨_, rfl⟩
          rw [← hm]
          have hA : (whbB.alloc (.cells #[.int .i64 0, .slice none 0 0, .slice none 0 0, .slice none 0 0, .slice none 0 0, .int .i64 0] 68)).heap[m]? = some (.cells #[.int .i64 0, .slice none 0 0, .slice none 0 0, .slice none 0 0, .slice none 0 0, .int .i64 0] 68) := by rw [hm]; exact heap_alloc_new whbB _
          have hbZ : Below W3.heap.size W3 (whbB.alloc (.cells #[.int .i64 0, .slice none 0 0, .slice none 0 0, .slice none 0 0, .slice none 0 0, .int .i64 0] 68)) := hbB.alloc hbB.size _
          have hxA : Below whbB.heap.size whbB (whbB.alloc (.cells #[.int .i64 0, .slice none 0 0, .slice none 0 0, .slice none 0 0, .slice none 0 0, .int .i64 0] 68)) := (Below.refl _ _).alloc (Nat.le_refl _) _
          have hmB : W3.heap.size ≤ m := by rw [hm]; exact hbB.size
          have hne : m ≠ O := by have := (hO.lt O rfl).2; omega
          replace hO := own_below hO hxA
          clear hxA hm
          generalize whbB.alloc (.cells #[.int .i64 0, .slice none 0 0, .slice none 0 0, .slice none 0 0, .slice none 0 0, .int .i64 0] 68) = whbZ at *
          obtain ⟨⟨y0, y1, y2, y3, y4, y5⟩, f0, f1, f2, f3, f4, f5⟩ := obj_cells6 hA
          refine wpAnyG_ready [8] (by kernel_rfl) (by simp) ?_
          refine AllReadyG.last 8 (by rfl) (by kernel_rfl) (fun K hK => ?_) ?_
          · simp only [List.getElem_toArray, List.getElem_cons_succ, List.getElem_cons_zero]
            go_simp
            refine hK.out _ _ ?_
            clear hK K
            try simp only [Act.put, List.setIfInBounds_toArray, List.set_cons_zero, List.set_cons_succ]
            refine wpAnyG_done (by kernel_rfl) ?_ _
            refine NoPanic.normal ?_
            go_wp2
            go_meet
            exact ⟨m, O, rfl, hide (mesh_met hO hA hne hbZ hmB hOB)⟩
          exact AllReadyG.nil
        exact AllReadyG.nil
      refine AllReadyG.cons 7 (by rfl) (fun K hK => ?_) ?_
      · simp only [List.getElem_toArray, List.getElem_cons_succ, List.getElem_cons_zero]
        go_simp
        refine hK.out _ _ (unhide HS _ (hbA.alloc hbA.size _)) (fun _ => ?_)
        clear hK K
        try simp only [Act.put, List.setIfInBounds_toArray, List.set_cons_zero, List.set_cons_succ]
        obtain ⟨m, hm⟩ : ∃ m, m = whbA.heap.size := ⟨_, rfl⟩
        rw [← hm]
        have hA : (whbA.alloc (.cells #[.int .i64 0, .slice none 0 0, .slice none 0 0, .slice none 0 0, .slice none 0 0, .int .i64 0] 68)).heap[m]? = some (.cells #[.int .i64 0, .slice none 0 0, .slice none 0 0, .slice none 0 0, .slice none 0 0, .int .i64 0] 68) := by rw [hm]; exact heap_alloc_new whbA _
        have hbC : Below W3.heap.size W3 (whbA.alloc (.cells #[.int .i64 0, .slice none 0 0, .slice none 0 0, .slice none 0 0, .slice none 0 0, .int .i64 0] 68)) := hbA.alloc hbA.size _
        have hxA : Below whbA.heap.size whbA (whbA.alloc (.cells #[.int .i64 0, .slice none 0 0, .slice none 0 0, .slice none 0 0, .slice none 0 0, .int .i64 0] 68)) := (Below.refl _ _).alloc (Nat.le_refl _) _
        have hmB : W3.heap.size ≤ m := by rw [hm]; exact hbA.size
        replace hL := (hxA.cell (by exact hLs)).trans hL
        replace hLs := Nat.lt_of_lt_of_le hLs hxA.size
        clear hxA hm
        generalize whbA.alloc (.cells #[.int .i64 0, .slice none 0 0, .slice none 0 0, .slice none 0 0, .slice none 0 0, .int .i64 0] 68) = whbC at *
        refine wpAnyG_ready [5] (by kernel_rfl) (by simp) ?_
        refine AllReadyG.cons 5 (by rfl) (fun K hK => ?_) ?_
        · simp only [List.getElem_toArray, List.getElem_cons_succ, List.getElem_cons_zero]
          go_simp
          go_at_call 50
          refine (repeat_any (-1) gl q.tail.length whbC hn hL hLs).mono ?_
          rintro e whbZ ⟨rfl, hO, hxR⟩
          have hbZ : Below W3.heap.size W3 whbZ := hbC.trans (hxR.mono hbC.size)
          have hOB : W3.heap.size ≤ whbC.heap.size := hbC.size
          have hA0 := hA
          replace hA := (hxR.block _ (heap_lt hA)).trans hA
          refine hK.out _ _ (unhide HS _ hbZ) (fun _ => ?_)
          clear hK K
          try simp only [Act.put, List.setIfInBounds_toArray, List.set_cons_zero, List.set_cons_succ]
          obtain ⟨O, hOe⟩ : ∃ O, O = whbC.heap.size := ⟨_, rfl⟩
          rw [← hOe] at hO hOB ⊢
          have hne : m ≠ O := by have := heap_lt hA0; omega
          clear hxR hOe
          refine wpAnyG_take (v := ?_) 6 (by rfl) (by kernel_rfl) (by kernel_rfl) (by kernel_rfl) (by kernel_rfl) (fun _ _ _ h => h) (Or.inl ⟨by rfl, ?_⟩) (by assumption) ?_
          rotate_left
          · (intro w' hSw; (try dsimp only at hSw); (try simp only [List.getElem_toArray, List.getElem_cons_succ, List.getElem_cons_zero]); go_simp; try (with_reducible rfl))
          simp only [Act.put, List.getElem_toArray, List.getElem_cons_succ, List.getElem_cons_zero, List.setIfInBounds_toArray, List.set_cons_zero, List.set_cons_succ]
          obtain ⟨⟨y0, y1, y2, y3, y4, y5⟩, f0, f1, f2, f3, f4, f5⟩ := obj_cells6 hA
          refine wpAnyG_ready [8] (by kernel_rfl) (by simp) ?_
          refine AllReadyG.last 8 (by rfl) (by kernel_rfl) (fun K hK => ?_) ?_
          · simp only [List.getElem_toArray, List.getElem_cons_succ, List.getElem_cons_zero]
            go_simp
            refine hK.out _ _ ?_
            clear hK K
            try simp only [Act.put, List.setIfInBounds_toArray, List.set_cons_zero, List.set_cons_succ]
            refine wpAnyG_done (by kernel_rfl) ?_ _
            refine NoPanic.normal ?_
            go_wp2
            go_meet
            exact ⟨m, O, rfl, hide (mesh_met hO hA hne hbZ hmB hOB)⟩
          exact AllReadyG.nil
        exact AllReadyG.nil
      exact AllReadyG.nil
    refine AllReadyG.cons 7 (by rfl) (fun K hK => ?_) ?_
    · simp only [List.getElem_toArray, List.getElem_cons_succ, List.getElem_cons_zero]
      go_simp
      refine hK.out _ _ (unhide HS _ (hb0.alloc hb0.size _)) (fun _ => ?_)
      clear hK K
      try simp only [Act.put, List.setIfInBounds_toArray, List.set_cons_zero, List.set_cons_succ]
      obtain ⟨m, hm⟩ : ∃ m, m = W3.heap.size := ⟨_, rfl⟩
      rw [← hm]
      have hA : (W3.alloc (.cells #[.int .i64 0, .slice none 0 0, .slice none 0 0, .slice none 0 0, .slice none 0 0, .int .i64 0] 68)).heap[m]? = some (.cells #[.int .i64 0, .slice none 0 0, .slice none 0 0, .slice none 0 0, .slice none 0 0, .int .i64 0] 68) := by rw [hm]; exact heap_alloc_new W3 _
      have hbA : Below W3.heap.size W3 (W3.alloc (.cells #[.int .i64 0, .slice none 0 0, .slice none 0 0, .slice none 0 0, .slice none 0 0, .int .i64 0] 68)) := hb0.alloc hb0.size _
      have hxA : Below W3.heap.size W3 (W3.alloc (.cells #[.int .i64 0, .slice none 0 0, .slice none 0 0, .slice none 0 0, .slice none 0 0, .int .i64 0] 68)) := (Below.refl _ _).alloc (Nat.le_refl _) _
      have hmB : W3.heap.size ≤ m := by rw [hm]; exact hb0.size
      clear hxA hm
      generalize W3.alloc (.cells #[.int .i64 0, .slice none 0 0, .slice none 0 0, .slice none 0 0, .slice none 0 0, .int .i64 0] 68) = whbA at *
      refine wpAnyG_ready [1] (by kernel_rfl) (by simp) ?_
      refine AllReadyG.cons 1 (by rfl) (fun K hK => ?_) ?_
      · simp only [List.getElem_toArray, List.getElem_cons_succ, List.getElem_cons_zero]
        go_simp
        refine hK.out _ _ (unhide HS _ (hbA.alloc hbA.size _)) (fun _ => ?_)
        clear hK K
        try simp only [Act.put, List.setIfInBounds_toArray, List.set_cons_zero, List.set_cons_succ]
        obtain ⟨gl, hgl⟩ : ∃ g, g = whbA.heap.size := ⟨_, rfl⟩
        rw [← hgl]
        have hL : (whbA.alloc (.cells #[.int .i64 (-1)] 3)).cell? ⟨gl, 0, none⟩ = some (.int .i64 (-1)) := by rw [hgl]; exact own_cell (own_lit whbA 0 whbA.heap.size 1 [-1] rfl rfl (Nat.zero_le _) (by simp)) 0 (by simp)
        have hLs : gl < (whbA.alloc (.cells #[.int .i64 (-1)] 3)).heap.size := by rw [hgl]; simp
        have hbC : Below W3.heap.size W3 (whbA.alloc (.cells #[.int .i64 (-1)] 3)) := hbA.alloc hbA.size _
        have hxL : Below whbA.heap.size whbA (whbA.alloc (.cells #[.int .i64 (-1)] 3)) := (Below.refl _ _).alloc (Nat.le_refl _) _
        replace hA := (hxL.block _ (heap_lt hA)).trans hA
        clear hxL hgl
        generalize whbA.alloc (.cells #[.int .i64 (-1)] 3) = whbC at *
        refine wpAnyG_ready [5] (by kernel_rfl) (by simp) ?_
        refine AllReadyG.cons 5 (by rfl) (fun K hK => ?_) ?_
        · simp only [List.getElem_toArray, List.getElem_cons_succ, List.getElem_cons_zero]
          go_simp
          go_at_call 50
          refine (repeat_any (-1) gl q.tail.length whbC hn hL hLs).mono ?_
          rintro e whbZ ⟨rfl, hO, hxR⟩
          have hbZ : Below W3.heap.size W3 whbZ := hbC.trans (hxR.mono hbC.size)
          have hOB : W3.heap.size ≤ whbC.heap.size := hbC.size
          have hA0 := hA
          replace hA := (hxR.block _ (heap_lt hA)).trans hA
          refine hK.out _ _ (unhide HS _ hbZ) (fun _ => ?_)
          clear hK K
          try simp only [Act.put, List.setIfInBounds_toArray, List.set_cons_zero, List.set_cons_succ]
          obtain ⟨O, hOe⟩ : ∃ O, O = whbC.heap.size := ⟨_, rfl⟩
          rw [← hOe] at hO hOB ⊢
          have hne : m ≠ O := by have := heap_lt hA0; omega
          clear hxR hOe
          refine wpAnyG_take (v := ?_) 6 (by rfl) (by kernel_rfl) (by kernel_rfl) (by kernel_rfl) (by kernel_rfl) (fun _ _ _ h => h) (Or.inl ⟨by rfl, ?_⟩) (by assumption) ?_
          rotate_left
          · (intro w' hSw; (try dsimp only at hSw); (try simp only [List.getElem_toArray, List.getElem_cons_succ, List.getElem_cons_zero]); go_simp; try (with_reducible rfl))
          simp only [Act.put, List.getElem_toArray, List.getElem_cons_succ, List.getElem_cons_zero, List.setIfInBounds_toArray, List.set_cons_zero, List.set_cons_succ]
          obtain ⟨⟨y0, y1, y2, y3, y4, y5⟩, f0, f1, f2, f3, f4, f5⟩ := obj_cells6 hA
          refine wpAnyG_ready [8] (by kernel_rfl) (by simp) ?_
          refine AllReadyG.last 8 (by rfl) (by kernel_rfl) (fun K hK => ?_) ?_
          · simp only [List.getElem_toArray, List.getElem_cons_succ, List.getElem_cons_zero]
            go_simp
            refine hK.out _ _ ?_
            clear hK K
            try simp only [Act.put, List.setIfInBounds_toArray, List.set_cons_zero, List.set_cons_succ]
            refine wpAnyG_done (by kernel_rfl) ?_ _
            refine NoPanic.normal ?_
            go_wp2
            go_meet
            exact ⟨m, O, rfl, hide (mesh_met hO hA hne hbZ hmB hOB)⟩
          exact AllReadyG.nil
        exact AllReadyG.nil
      exact AllReadyG.nil
    exact AllReadyG.nil
  case rest =>
    obtain ⟨wP, rfl⟩ : ∃ wP, wP = wc := ⟨_, rfl⟩
    obtain ⟨m, O, rfl, HM⟩ := hcut
    clear hbr
    obtain ⟨n, hnn⟩ : ∃ n, q.tail.length = n := ⟨_, rfl⟩
    rw [hnn] at HM HF1 HBX HV HBL hn htc HP ⊢
    have Hnn := hide hnn
    clear hnn
    have hst0 : Sp.FSt (Sp.behindL q.next) 0 (List.replicate n (-1)) 0 := by
      have h := Sp.FSt.first (Sp.behindL q.next) (unhide HPm)
      rw [unhide HBL] at h
      exact h
    have HI0 := hide (And.intro (unhide HM) (And.intro hst0 (unhide HF1)))
    obtain ⟨⟨x0, x1, x2, x3, x4, x5⟩, -⟩ := obj_cells6 (unhide HM).ob
    clear HM hst0 HF1
    go_wp2
    clear x0 x1 x2 x3 x4 x5
    go_loopg [16] n (fun g s16 wr => ∃ (d k : Nat) (of : List Int), d + g = n ∧ k ≤ d ∧ s16 = .int .i64 (d : Int) ∧ Hid (MK (w.heap.size + 2) m O n q.n (.slice ta n tc) (.slice na q.next.length nc) (.slice ca q.cap.length cc) W2 wr of (k : Int) ∧ Sp.FSt (Sp.behindL q.next) d of k ∧ R = Sp.faces2Go (Sp.behindL q.next) g d of k))
    case atStart => exact ⟨0, 0, _, by omega, by omega, rfl, HI0⟩
    case round =>
      clear HI0
      obtain ⟨d, k, of, hdg, hkd, rfl, HI⟩ := hrel
      obtain ⟨⟨x0, x1, x2, x3, x4, x5⟩, z0, z1, z2, z3, z4, z5⟩ := obj_cells6 (unhide HI).1.ob
      cases gk with
      | zero =>
        obtain rfl : d = n := by omega
        have HF : Hid (R = (of, k)) := hide (unhide HI).2.2
        obtain ⟨⟨r0, r1, r2, r3, r4, r5⟩, s0, s1, s2, s3, s4, s5⟩ := obj_cells6 (unhide HRC wr (unhide HI).1.pk.bel)
        have hm1 : m ≠ w.heap.size + 1 := by have := (unhide HI).1.mb; omega
        have hm2 := hm1.symm
        have hmx : (if (k : Int) < 1 then (1 : Int) else k) = ((max k 1 : Nat) : Int) := by split <;> omega
        have HI1 := hide (unhide HI).1
        clear HI
        go_wp2
        have HI2 := (unhide HI1).setK ((max k 1 : Nat) : Int)
        have hfin0 : (wr.setCell ⟨m, 5, none⟩ (.int .i64 ((max k 1 : Nat) : Int))).heap[w.heap.size + 1]? = some (.cells #[.int .i64 0, .slice none 0 0, .slice none 0 0, .slice none 0 0, .slice none 0 0, .int .i64 0] 68 (0, 0)) := by
          rw [heap_setCell_other _ _ _ _ (by exact hm2)]
          exact unhide HRC wr (unhide HI1).pk.bel
        have hfin := six_cells hfin0 (.int .i64 q.n) (.slice ta d tc) (.slice na q.next.length nc) (.slice ca q.cap.length cc) (.slice (some ⟨O, 0, none⟩) d d) (.int .i64 ((max k 1 : Nat) : Int))
        have hown := six_own HI2.pk.own (show w.heap.size + 1 < w.heap.size + 2 by omega) (.int .i64 q.n) (.slice ta d tc) (.slice na q.next.length nc) (.slice ca q.cap.length cc) (.slice (some ⟨O, 0, none⟩) d d) (.int .i64 ((max k 1 : Nat) : Int))
        have hbl := six_below (unhide HW _ HI2.pk.bel) (show w.heap.size ≤ w.heap.size + 1 by omega) (.int .i64 q.n) (.slice ta d tc) (.slice na q.next.length nc) (.slice ca q.cap.length cc) (.slice (some ⟨O, 0, none⟩) d d) (.int .i64 ((max k 1 : Nat) : Int))
        clear hfin0 x0 x1 x2 x3 x4 x5 z0 z1 z2 z3 z4 z5 r0 r1 r2 r3 r4 r5 s0 s1 s2 s3 s4 s5
        generalize ((((((wr.setCell ⟨m, 5, none⟩ (.int .i64 ((max k 1 : Nat) : Int))).setCell ⟨w.heap.size + 1, 0, none⟩ (.int .i64 q.n)).setCell ⟨w.heap.size + 1, 1, none⟩ (.slice ta d tc)).setCell ⟨w.heap.size + 1, 2, none⟩ (.slice na q.next.length nc)).setCell ⟨w.heap.size + 1, 3, none⟩ (.slice ca q.cap.length cc)).setCell ⟨w.heap.size + 1, 4, none⟩ (.slice (some ⟨O, 0, none⟩) d d)).setCell ⟨w.heap.size + 1, 5, none⟩ (.int .i64 ((max k 1 : Nat) : Int)) = WF at *
        obtain ⟨⟨r0, r1, r2, r3, r4, r5⟩, -⟩ := obj_cells6 hfin
        refine bodyPost_ret (v := .agg #[.int .i64 q.n, .slice ta d tc, .slice na q.next.length nc, .slice ca q.cap.length cc, .slice (some ⟨O, 0, none⟩) d d, .int .i64 ((max k 1 : Nat) : Int)]) (by simp [results, Try.results41, go_sem, r0, r1, r2, r3, r4, r5]) rfl ?_
        rw [unhide HP]
        exact ⟨O, by rw [unhide HF], by rw [unhide HF]; exact own_base hown (by omega), hbl⟩
      | succ g' =>
        have hlt : d < n := by omega
        have hltI : (d : Int) < (n : Int) := by omega
        have hdl : d < (Sp.behindL q.next).length := by rw [unhide HBL]; exact hlt
        have c1 := own_cell (unhide HI).1.pk.own d (by rw [(unhide HI).1.pk.len]; exact hlt)
        rw [← Sp.getD_eq] at c1
        have hbd := (unhide HI).2.1.bd d hdl
        by_cases hz : of.getD d 0 = -1
        · have HZ := hide hz
          rw [hz] at c1
          have hcz : ((-1 : Int) != -1) = false := by decide
          have HJ0 : Hid (MK (w.heap.size + 2) m O n q.n (.slice ta n tc) (.slice na q.next.length nc) (.slice ca q.cap.length cc) W2 wr (Sp.paint k of (Sp.rounds (Sp.behindL q.next) d 0)) (k : Int)) := hide (unhide HI).1
          obtain ⟨m1, m2, m3, m4⟩ := (unhide HPm).per hdl
          have HAl := hide (fun t ht => (unhide HI).2.1.along (unhide HPm) hdl hz t ht)
          have HRd := hide ((unhide HI).2.1.round (unhide HPm) hdl)
          have HNx : Hid (∀ t, (Sp.behindL q.next).getD (itf (Sp.fn (Sp.behindL q.next)) d t) 0 = ((itf (Sp.fn (Sp.behindL q.next)) d (t + 1) : Nat) : Int)) := hide fun t => by
            have h := (unhide HPm).nth_it hdl (t + 1)
            rw [← h]
            show _ = (Sp.behindL q.next).getD (Sp.nth (Sp.behindL q.next) d t).toNat 0
            rw [(unhide HPm).nth_it hdl t, Int.toNat_natCast]
          have HXl : Hid (∀ t, itf (Sp.fn (Sp.behindL q.next)) d t < n) := hide fun t => by
            have h := (unhide HPm).fnP.it hdl t
            rw [unhide HBL] at h
            exact h
          have HXp : Hid (itf (Sp.fn (Sp.behindL q.next)) d (Sp.per (Sp.behindL q.next) d) = d) := hide (by
            have h := (unhide HPm).nth_it hdl (Sp.per (Sp.behindL q.next) d)
            rw [m3] at h
            omega)
          have HPs : Hid (∀ t, Sp.paint k of (Sp.rounds (Sp.behindL q.next) d (t + 1)) = (Sp.paint k of (Sp.rounds (Sp.behindL q.next) d t)).set (itf (Sp.fn (Sp.behindL q.next)) d t) k) := hide fun t => by
            rw [Sp.rounds_succ, Sp.paint_more, (unhide HPm).nth_it hdl t, Int.toNat_natCast]
          have HR2 : Hid (R = Sp.faces2Go (Sp.behindL q.next) g' (d + 1) (Sp.paint k of (Sp.rounds (Sp.behindL q.next) d (Sp.per (Sp.behindL q.next) d))) (k + 1) ∧ Sp.FSt (Sp.behindL q.next) (d + 1) (Sp.paint k of (Sp.rounds (Sp.behindL q.next) d (Sp.per (Sp.behindL q.next) d))) (k + 1)) := hide ⟨by rw [(unhide HI).2.2, Sp.faces2Go, if_neg (by rw [hz]; decide)], (unhide HI).2.1.new (unhide HPm) hdl (by rw [hz]; decide)⟩
          have HX0 : Hid (itf (Sp.fn (Sp.behindL q.next)) d 0 = d) := hide rfl
          generalize Sp.per (Sp.behindL q.next) d = pr at *
          generalize itf (Sp.fn (Sp.behindL q.next)) d = xt at *
          generalize hpt : (fun t => Sp.paint k of (Sp.rounds (Sp.behindL q.next) d t)) = pt at *
          have hpt' : ∀ t, Sp.paint k of (Sp.rounds (Sp.behindL q.next) d t) = pt t := fun t => by rw [← hpt]
          simp only [hpt'] at HJ0 HAl HRd HPs HR2
          clear hpt hpt' HI hbd hz m3 m4 HZ
          go_wp2
          clear x0 x1 x2 x3 x4 x5 z0 z1 z2 z3 z4 z5 c1
          go_loopg [5] pr (fun g2 s5 wr => ∃ t, t + g2 = pr ∧ s5 = .int .i64 ((xt t : Nat) : Int) ∧ Hid (MK (w.heap.size + 2) m O n q.n (.slice ta n tc) (.slice na q.next.length nc) (.slice ca q.cap.length cc) W2 wr (pt t) (k : Int)))
          case atStart => exact ⟨0, by omega, by rw [unhide HX0], HJ0⟩
          case round =>
            clear HJ0
            obtain ⟨t, htg, rfl, HJ⟩ := hrel
            obtain ⟨⟨x0, x1, x2, x3, x4, x5⟩, z0, z1, z2, z3, z4, z5⟩ := obj_cells6 (unhide HJ).ob
            have hxl := unhide HXl t
            have c1 := own_cell (unhide HJ).pk.own (xt t) (by rw [(unhide HJ).pk.len]; exact hxl)
            have f1 := own_frozen (unhide HJ).pk.own (xt t)
            rw [← Sp.getD_eq] at c1
            have hxI : ((xt t : Nat) : Int) < (n : Int) := by omega
            cases gk with
            | zero =>
              obtain rfl : t = pr := by omega
              rw [unhide HXp] at c1 f1 hxl hxI ⊢
              rw [unhide HRd] at c1
              have hkz : ((k : Int) == -1) = false := beq_eq_false_iff_ne.2 (by omega)
              have HN := hide ((unhide HJ).setK ((k : Int) + 1))
              have hkw : IntKind.i64.wrap ((k : Int) + 1) = (k : Int) + 1 := by rw [IntKind.wrap_i64]; omega
              clear HJ
              go_wp2
              go_roundg g'
              case rel => exact ⟨d + 1, k + 1, pt t, by omega, by omega, by go_num, hide ⟨unhide HN, (unhide HR2).2, (unhide HR2).1⟩⟩
              case measure => omega
            | succ g2 =>
              rw [unhide HAl t (by omega)] at c1
              have HMb := hide (fun (w' : World) (h : MeshI w' (.agg #[.int .i64 q.n, .slice ta n tc, .slice na q.next.length nc, .slice ca q.cap.length cc, .slice (some ⟨O, 0, none⟩) n n, .int .i64 (k : Int)]) q ((pt t).set (xt t) (k : Int)) k (.slice ta n tc) (.slice na q.next.length nc) (.slice ca q.cap.length cc) (.slice (some ⟨O, 0, none⟩) n n)) => mbehind_any q _ k _ _ _ _ _ (xt t) w' h (by rw [unhide Hq1, unhide Hnn]; exact hxl) (by rw [unhide Hq1]; exact unhide Hev) (by rw [unhide Hq1, unhide Hnn]; omega))
              rw [unhide HNx t] at HMb
              have HJ2 := hide ((unhide HJ).setO (xt t) (k : Int))
              rw [← unhide HPs t] at HJ2
              have HMI : Hid (MeshI (wr.setCell ⟨O, xt t, none⟩ (.int .i64 (k : Int))) (.agg #[.int .i64 q.n, .slice ta n tc, .slice na q.next.length nc, .slice ca q.cap.length cc, .slice (some ⟨O, 0, none⟩) n n, .int .i64 (k : Int)]) q ((pt t).set (xt t) (k : Int)) k (.slice ta n tc) (.slice na q.next.length nc) (.slice ca q.cap.length cc) (.slice (some ⟨O, 0, none⟩) n n)) := hide (by
                have h := unhide HV _ (unhide HJ2).pk.bel
                have ho := (unhide HJ2).pk.own.ints
                rw [unhide HPs t] at ho
                exact ⟨rfl, h.tail, h.next, h.cap, ho⟩)
              have HC := hide (unhide HMb _ (unhide HMI))
              have hOm := (unhide HJ).ne
              have hOm2 := hOm.symm
              clear HJ HMI HMb
              go_wp2_with fail
              go_at_call 51
              refine (unhide HC).mono ?_
              rintro e w6 ⟨rfl, hl6⟩
              have HJ6 := hide ((unhide HJ2).below hl6)
              clear hl6 HC HJ2 x0 x1 x2 x3 x4 x5 z0 z1 z2 z3 z4 z5 c1 f1
              go_wp2
              go_roundg g2
              case rel => exact ⟨t + 1, by omega, by rfl, HJ6⟩
              case measure => omega
        · have hz0 : 0 ≤ of.getD d 0 := by rcases hbd with e | e; · exact absurd e hz
                                           · exact e.1
          have hcz : (of.getD d 0 != -1) = true := by simpa using hz
          have HN : Hid (MK (w.heap.size + 2) m O n q.n (.slice ta n tc) (.slice na q.next.length nc) (.slice ca q.cap.length cc) W2 wr of (k : Int) ∧ Sp.FSt (Sp.behindL q.next) (d + 1) of k ∧ R = Sp.faces2Go (Sp.behindL q.next) g' (d + 1) of k) := hide ⟨(unhide HI).1, (unhide HI).2.1.old hdl hz0, by rw [(unhide HI).2.2, Sp.faces2Go, if_pos hz0]⟩
          generalize of.getD d 0 = z at *
          clear HI hbd hz0 hz
          go_wp2
          go_roundg g'
          case rel => exact ⟨d + 1, k, of, by omega, by omega, by go_num, HN⟩
          case measure => omega
end Go.Proofs.Ytoegjnolccabjab


/- Package dual: Make. -/
namespace Go.Proofs.Ytoegjnolccabjab
open Go Go.RowKit

/-- The dual (P301). -/
def Sp.dual (q : Sp.Net) : Sp.Net := ⟨((max (Sp.faces2 q).2 1 : Nat) : Int), (Sp.faces2 q).1, Sp.behindL q.next, q.cap⟩
/-- What Make and the others ask of a net. -/
structure Sp.LinkQ (q : Sp.Net) : Prop where
  nx : q.next.length = q.tail.length
  cp : q.cap.length = q.tail.length
  le : q.tail.length ≤ 60
  ev : q.tail.length % 2 = 0
  pm : Sp.Perm q.next
end Go.Proofs.Ytoegjnolccabjab


/- Package dual: meets; the reference's. -/
namespace Go.Proofs.Ytoegjnolccabjab
open Go Go.RowKit

/-- Has a face a dart that begins at a vertex? -/
def Sp.meets (T F : List Int) (f v : Int) : Prop := ∃ d, d < T.length ∧ T.getD d 0 = v ∧ F.getD d 0 = f
noncomputable def Sp.meetsB (T F : List Int) (f v : Int) : Bool := @decide (Sp.meets T F f v) (Classical.propDecidable _)
theorem Sp.meetsB_true {T F : List Int} {f v : Int} (h : Sp.meets T F f v) : Sp.meetsB T F f v = true := @decide_eq_true _ (Classical.propDecidable _) h
theorem Sp.meetsB_false {T F : List Int} {f v : Int} (h : ¬ Sp.meets T F f v) : Sp.meetsB T F f v = false := @decide_eq_false _ (Classical.propDecidable _) h
theorem Sp.meetsB_of {T F : List Int} {f v : Int} (h : Sp.meetsB T F f v = true) : Sp.meets T F f v := @of_decide_eq_true _ (Classical.propDecidable _) h
set_option maxRecDepth 100000 in
set_option maxHeartbeats 2000000 in
theorem meets_any (q : Sp.Net) (F : List Int) (K : Nat) (v tv nv cv fv : Value) (f x : Int) (w : World) (hv : MeshI w v q F K tv nv cv fv) (hF : F.length = q.tail.length) (hn : q.tail.length ≤ 240) :
    Calls Try.prog 49 #[v, .int .i64 f, .int .i64 x] w fun e w' => e = .returned (.bool (Sp.meetsB q.tail F f x)) ∧ Below w.heap.size w w' := by
  have hval := hv.val
  obtain ⟨ta, tc, rfl, -, -, HT⟩ := hv.tail.allG
  obtain ⟨na, nc, rfl, -, -⟩ := hv.next.form
  obtain ⟨ca, cc, rfl, -, -⟩ := hv.cap.form
  obtain ⟨fa, fc, rfl, -, -, HF⟩ := hv.of.allG
  subst hval
  have HBX := hide (mesh_new w q.n (.slice ta q.tail.length tc) (.slice na q.next.length nc) (.slice ca q.cap.length cc) (.slice fa F.length fc) (K : Int))
  obtain ⟨W1, hW1⟩ : ∃ W1, W1 = w.alloc (.cells #[.int .i64 q.n, .slice ta q.tail.length tc, .slice na q.next.length nc, .slice ca q.cap.length cc, .slice fa F.length fc, .int .i64 (K : Int)] 68) := ⟨_, rfl⟩
  have hb1 : Below w.heap.size w W1 := by rw [hW1]; exact (Below.refl _ w).alloc (Nat.le_refl _) _
  rw [← hW1] at HBX
  have HB1 := hide hb1
  have HTr := hide (fun (h : Sp.meets q.tail F f x) => Sp.meetsB_true h)
  have HFa := hide (fun (h : ¬ Sp.meets q.tail F f x) => Sp.meetsB_false h)
  have HDf : Hid (Sp.meets q.tail F f x = ∃ d, d < q.tail.length ∧ q.tail.getD d 0 = x ∧ F.getD d 0 = f) := hide rfl
  generalize Sp.meetsB q.tail F f x = R at *
  generalize Sp.meets q.tail F f x = M at *
  obtain ⟨P, hP⟩ : ∃ P : Ending → World → Prop, P = fun e w' => e = .returned (.bool R) ∧ Below w.heap.size w w' := ⟨_, rfl⟩
  rw [← hP]
  have HP := hide hP
  obtain ⟨x0, x1, x2, x3, x4, x5, -⟩ := unhide HBX W1 (Below.refl _ _)
  have HX := hide (And.intro x1 x4)
  clear hP hb1 hv
  rw [hF] at *
  subst hW1
  go_enter Try.func49, Try.ntmps49
  go_wp2
  clear x0 x1 x2 x3 x4 x5
  generalize w.alloc (.cells #[.int .i64 q.n, .slice ta q.tail.length tc, .slice na q.next.length nc, .slice ca q.cap.length cc, .slice fa q.tail.length fc, .int .i64 (K : Int)] 68) = W1 at *
  generalize hln : q.tail.length = n at *
  go_loop [13] (fun i => ∃ k : Nat, k ≤ n ∧ i = .int .i64 (k : Int) ∧ Hid (∀ j, j < k → ¬ (q.tail.getD j 0 = x ∧ F.getD j 0 = f))) (fun i => n - (intOf i).toNat)
  case atStart => exact ⟨0, by omega, rfl, hide (fun j h => by omega)⟩
  case round =>
    obtain ⟨k, hk, rfl, HA⟩ := hrel
    obtain ⟨x1, x4⟩ := unhide HX
    by_cases hlt : k < n
    · have hltI : (k : Int) < (n : Int) := by omega
      obtain ⟨b, o, rfl, -, hcx⟩ := unhide HT k hlt
      obtain ⟨b2, o2, rfl, -, hcy⟩ := unhide HF k hlt
      have c1 := hcx W1 (unhide HB1)
      have c2 := hcy W1 (unhide HB1)
      by_cases ht : q.tail.getD k 0 = x ∧ F.getD k 0 = f
      · have HM : Hid (R = true) := hide (unhide HTr (by rw [unhide HDf]; exact ⟨k, hlt, ht⟩))
        rw [ht.1] at c1
        rw [ht.2] at c2
        have e1 : (x == x) = true := beq_self_eq_true _
        have e2 : (f == f) = true := beq_self_eq_true _
        clear hcx hcy ht
        go_wp2
        rw [unhide HP]
        exact ⟨by rw [unhide HM], unhide HB1⟩
      · have HN : Hid (∀ j, j < k + 1 → ¬ (q.tail.getD j 0 = x ∧ F.getD j 0 = f)) := hide fun j h => by
          rcases Nat.lt_or_ge j k with h' | h'
          · exact unhide HA j h'
          · obtain rfl : j = k := by omega
            exact ht
        generalize q.tail.getD k 0 = z at *
        generalize F.getD k 0 = z2 at *
        clear hcx hcy
        by_cases ht1 : z = x
        · have ht2 : ¬ z2 = f := fun e => ht ⟨ht1, e⟩
          subst ht1
          have e1 : (z == z) = true := beq_self_eq_true _
          have e2 : (z2 == f) = false := beq_eq_false_iff_ne.2 ht2
          clear ht ht2
          go_wp2
          go_round
          case rel => exact ⟨k + 1, by omega, by go_num, HN⟩
          case measure => simp [intOf]; omega
        · have e1 : (z == x) = false := beq_eq_false_iff_ne.2 ht1
          clear ht ht1
          go_wp2
          go_round
          case rel => exact ⟨k + 1, by omega, by go_num, HN⟩
          case measure => simp [intOf]; omega
    · have HM : Hid (R = false) := hide (unhide HFa (by
        rw [unhide HDf]
        rintro ⟨d, hd, h1, h2⟩
        exact unhide HA d (by omega) ⟨h1, h2⟩))
      go_wp2
      rw [unhide HP]
      exact ⟨by rw [unhide HM], unhide HB1⟩
end Go.Proofs.Ytoegjnolccabjab


