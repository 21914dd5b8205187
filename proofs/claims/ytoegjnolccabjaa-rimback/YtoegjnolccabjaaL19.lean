/- What the proof needs, part 19. -/
import Derived.Test.YtoegjnolccabjaaL18
/- By which arc each place was shortened last, pass by pass (P601: Any's round). -/
namespace Go.Proofs.Ytoegjnolccabjaa
open Go Go.RowKit

/-- The arc that a place's number names. -/
def Sp.byA (L : List Sp.Arc) (Y : Nat → Int) (v : Nat) : Option Sp.Arc := if Y v = -1 then none else some (L.getD (Y v).toNat Sp.arc0)
/-- While pass K is made, i arcs of it tried. -/
structure Sp.Pas (L : List Sp.Arc) (n K i : Nat) (D Y : Nat → Int) (tm pn : Nat → Nat) (clock : Nat) : Prop where
  tr : Sp.Tr 1152921504606846976 L n D (Sp.byA L Y) tm pn clock
  le : ∀ v, pn v ≤ K
  num : ∀ v, v < n → Y v = -1 ∨ ∃ m : Nat, Y v = (m : Int) ∧ m < L.length
  old : ∀ m, m < L.length → pn (L.getD m Sp.arc0).f + 1 < K → D (L.getD m Sp.arc0).f ≠ 1152921504606846976 → D (L.getD m Sp.arc0).t ≤ D (L.getD m Sp.arc0).f + (L.getD m Sp.arc0).l
  new_ : ∀ m, m < i → m < L.length → pn (L.getD m Sp.arc0).f < K → D (L.getD m Sp.arc0).f ≠ 1152921504606846976 → D (L.getD m Sp.arc0).t ≤ D (L.getD m Sp.arc0).f + (L.getD m Sp.arc0).l
theorem Sp.Pas.start (L : List Sp.Arc) (n s : Nat) : Sp.Pas L n 0 0 (Sp.pk L s 0) (fun _ => -1) (fun _ => 0) (fun _ => 0) 1 :=
  ⟨⟨fun v a _ h => by unfold Sp.byA at h; simp at h, fun v => by omega, fun v _ h => by omega⟩, fun _ => Nat.le_refl _, fun _ _ => .inl rfl, fun m _ h => by omega, fun m h => by omega⟩
/-- The next pass. -/
theorem Sp.Pas.next {L : List Sp.Arc} {n K : Nat} {D Y : Nat → Int} {tm pn : Nat → Nat} {clock : Nat} (h : Sp.Pas L n K L.length D Y tm pn clock) : Sp.Pas L n (K + 1) 0 D Y tm pn clock :=
  ⟨h.tr, fun v => by have := h.le v; omega, h.num, fun m hm hp hne => h.new_ m hm hm (by omega) hne, fun m hm => by omega⟩
/-- An arc that changes nothing. -/
theorem Sp.Pas.no {L : List Sp.Arc} {n K i : Nat} {D Y : Nat → Int} {tm pn : Nat → Nat} {clock : Nat} (h : Sp.Pas L n K i D Y tm pn clock) (hno : ¬ (D (L.getD i Sp.arc0).f ≠ 1152921504606846976 ∧ D (L.getD i Sp.arc0).f + (L.getD i Sp.arc0).l < D (L.getD i Sp.arc0).t)) : Sp.Pas L n K (i + 1) D Y tm pn clock :=
  ⟨h.tr, h.le, h.num, h.old, fun m hm hml hp hne => by
    by_cases e : m = i
    · subst e
      exact Int.not_lt.1 (fun hh => hno ⟨hne, hh⟩)
    · exact h.new_ m (by omega) hml hp hne⟩
/-- An arc that shortens a way. -/
theorem Sp.Pas.yes {L : List Sp.Arc} {n K i : Nat} {D Y : Nat → Int} {tm pn : Nat → Nat} {clock : Nat} (h : Sp.Pas L n K i D Y tm pn clock) (hi : i < L.length) (hg : D (L.getD i Sp.arc0).f ≠ 1152921504606846976) (hlt : D (L.getD i Sp.arc0).f + (L.getD i Sp.arc0).l < D (L.getD i Sp.arc0).t) (hx : D (L.getD i Sp.arc0).f + (L.getD i Sp.arc0).l ≠ 1152921504606846976) :
    Sp.Pas L n K (i + 1) (Sp.upd D (L.getD i Sp.arc0).t (D (L.getD i Sp.arc0).f + (L.getD i Sp.arc0).l)) (Sp.upd Y (L.getD i Sp.arc0).t (i : Int)) (fun v => if v = (L.getD i Sp.arc0).t then clock else tm v) (fun v => if v = (L.getD i Sp.arc0).t then K else pn v) (clock + 1) := by
  have hk : K ≤ pn (L.getD i Sp.arc0).f + 1 := by
    rcases Nat.lt_or_ge (pn (L.getD i Sp.arc0).f + 1) K with e | e
    · have := h.old i hi e hg; omega
    · exact e
  have hput := h.tr.put (Sp.arc_mem hi) hg hlt hx hk (h.le _)
  have eB : (fun v => if v = (L.getD i Sp.arc0).t then some (L.getD i Sp.arc0) else Sp.byA L Y v) = Sp.byA L (Sp.upd Y (L.getD i Sp.arc0).t (i : Int)) := funext fun v => by
    unfold Sp.byA Sp.upd
    by_cases e : v = (L.getD i Sp.arc0).t
    · rw [if_pos e, if_pos e, if_neg (by omega), Int.toNat_natCast]
    · rw [if_neg e, if_neg e]
  rw [eB] at hput
  refine ⟨hput, fun v => ?_, fun v hv => ?_, fun m hm hp hne => ?_, fun m hm hml hp hne => ?_⟩
  · show (if v = _ then K else pn v) ≤ K
    split
    · exact Nat.le_refl _
    · exact h.le v
  · unfold Sp.upd
    by_cases e : v = (L.getD i Sp.arc0).t
    · rw [if_pos e]; exact .inr ⟨i, rfl, hi⟩
    · rw [if_neg e]; exact h.num v hv
  · have hp' : (if (L.getD m Sp.arc0).f = (L.getD i Sp.arc0).t then K else pn (L.getD m Sp.arc0).f) + 1 < K := hp
    by_cases e : (L.getD m Sp.arc0).f = (L.getD i Sp.arc0).t
    · rw [if_pos e] at hp'; omega
    · rw [if_neg e] at hp'
      rw [Sp.upd_other _ _ e] at hne ⊢
      have h1 := h.old m hm hp' hne
      unfold Sp.upd
      split
      · rename_i e2; rw [e2] at h1; omega
      · exact h1
  · have hp' : (if (L.getD m Sp.arc0).f = (L.getD i Sp.arc0).t then K else pn (L.getD m Sp.arc0).f) < K := hp
    by_cases e : (L.getD m Sp.arc0).f = (L.getD i Sp.arc0).t
    · rw [if_pos e] at hp'; omega
    · rw [if_neg e] at hp'
      rw [Sp.upd_other _ _ e] at hne ⊢
      by_cases em : m = i
      · subst em
        rw [Sp.upd_same]; exact Int.le_refl _
      · have h1 := h.new_ m (by omega) hml hp' hne
        unfold Sp.upd
        split
        · rename_i e2; rw [e2] at h1; omega
        · exact h1
/-- Along a whole pass: what was shortened last was so in this pass. -/
theorem Sp.Pas.pass {L : List Sp.Arc} {n K : Nat} {D Y : Nat → Int} (hb : ∀ i, i < L.length → ∀ v, v < n → (Sp.pq L D Y i).1 v = 1152921504606846976 ∨ (Sp.pq L D Y i).1 v < 1000000000000000000) (hL : ∀ a ∈ L, a.f < n ∧ a.t < n ∧ a.l ≤ 1099511627776) :
    ∀ i, i ≤ L.length → (∃ tm pn clock, Sp.Pas L n K 0 D Y tm pn clock) → ∃ tm pn clock, Sp.Pas L n K i (Sp.pq L D Y i).1 (Sp.pq L D Y i).2.1 tm pn clock ∧ ((Sp.pq L D Y i).2.2 = -1 ∨ ∃ x : Nat, (Sp.pq L D Y i).2.2 = (x : Int) ∧ x < n ∧ pn x = K)
  | 0, _, ⟨tm, pn, clock, h⟩ => ⟨tm, pn, clock, h, .inl rfl⟩
  | i + 1, hi, h0 => by
    obtain ⟨tm, pn, clock, h, hs⟩ := Sp.Pas.pass hb hL i (by omega) h0
    obtain ⟨g1, g2, g3⟩ := hL _ (Sp.arc_mem (show i < L.length by omega))
    have hbf := hb i (by omega) _ g1
    rw [Sp.pq]
    by_cases hc : (Sp.pq L D Y i).1 (L.getD i Sp.arc0).f ≠ 1152921504606846976 ∧ (Sp.pq L D Y i).1 (L.getD i Sp.arc0).f + (L.getD i Sp.arc0).l < (Sp.pq L D Y i).1 (L.getD i Sp.arc0).t
    · rw [if_pos hc]
      have hx := hbf.resolve_left hc.1
      exact ⟨_, _, _, h.yes (by omega) hc.1 hc.2 (by omega), .inr ⟨_, rfl, g2, by show (if _ = _ then K else _) = K; rw [if_pos rfl]⟩⟩
    · rw [if_neg hc]
      exact ⟨tm, pn, clock, h.no hc, hs⟩
end Go.Proofs.Ytoegjnolccabjaa


/- Back along the arcs that shortened last: n steps back stands a place of a round, below 0 (P601: Any's round). -/
namespace Go.Proofs.Ytoegjnolccabjaa
open Go Go.RowKit

def Sp.bk (L : List Sp.Arc) (Y : Nat → Int) (v : Nat) : Nat := (L.getD (Y v).toNat Sp.arc0).f
def Sp.itb (L : List Sp.Arc) (Y : Nat → Int) : Nat → Nat → Nat
  | 0, x => x
  | m + 1, x => Sp.bk L Y (Sp.itb L Y m x)
theorem Sp.itb_add (L : List Sp.Arc) (Y : Nat → Int) (x : Nat) (i : Nat) : ∀ j, Sp.itb L Y (j + i) x = Sp.itb L Y j (Sp.itb L Y i x)
  | 0 => by rw [Nat.zero_add]; rfl
  | j + 1 => by
    rw [show j + 1 + i = j + i + 1 by omega]
    show Sp.bk L Y (Sp.itb L Y (j + i) x) = Sp.bk L Y _
    rw [Sp.itb_add L Y x i j]
theorem Sp.itb_succ (L : List Sp.Arc) (Y : Nat → Int) (x m : Nat) : Sp.itb L Y (m + 1) x = Sp.itb L Y m (Sp.bk L Y x) := Sp.itb_add L Y x 1 m
/-- How long m arcs back are together. -/
def Sp.smb (L : List Sp.Arc) (Y : Nat → Int) : Nat → Nat → Int
  | 0, _ => 0
  | m + 1, x => (L.getD (Y x).toNat Sp.arc0).l + Sp.smb L Y m (Sp.bk L Y x)
theorem Sp.byA_some {L : List Sp.Arc} {Y : Nat → Int} {v : Nat} (h : Y v ≠ -1) : Sp.byA L Y v = some (L.getD (Y v).toNat Sp.arc0) := by
  unfold Sp.byA; rw [if_neg h]
theorem Sp.Bk.of_it {L : List Sp.Arc} {Y : Nat → Int} : ∀ m x, (∀ j, j < m → Y (Sp.itb L Y j x) ≠ -1) → Sp.Bk (Sp.byA L Y) m x (Sp.itb L Y m x) (Sp.smb L Y m x)
  | 0, x, _ => ⟨rfl, rfl⟩
  | m + 1, x, h => by
    refine ⟨_, Sp.byA_some (h 0 (by omega)), ?_⟩
    have ih := Sp.Bk.of_it (L := L) (Y := Y) m (Sp.bk L Y x) (fun j hj => by rw [← Sp.itb_succ]; exact h (j + 1) (by omega))
    rw [← Sp.itb_succ] at ih
    have e : Sp.smb L Y (m + 1) x - (L.getD (Y x).toNat Sp.arc0).l = Sp.smb L Y m (Sp.bk L Y x) := by
      show (L.getD (Y x).toNat Sp.arc0).l + Sp.smb L Y m (Sp.bk L Y x) - _ = _
      omega
    rw [e]; exact ih
/-- The state behind pass K, as far as the way back asks it. -/
structure Sp.Ago (L : List Sp.Arc) (n : Nat) (D Y : Nat → Int) (pn : Nat → Nat) : Prop where
  tr : ∃ tm clock, Sp.Tr 1152921504606846976 L n D (Sp.byA L Y) tm pn clock
  rng : ∀ a ∈ L, a.f < n ∧ a.t < n
  num : ∀ v, v < n → Y v = -1 ∨ ∃ m : Nat, Y v = (m : Int) ∧ m < L.length
theorem Sp.Ago.ne {L : List Sp.Arc} {n : Nat} {D Y : Nat → Int} {pn : Nat → Nat} (h : Sp.Ago L n D Y pn) {v : Nat} (hv : v < n) (hp : 0 < pn v) : Y v ≠ -1 := fun e => by
  obtain ⟨tm, clock, ht⟩ := h.tr
  exact ht.some_ v hv hp (by unfold Sp.byA; rw [if_pos e])
theorem Sp.Ago.arc {L : List Sp.Arc} {n : Nat} {D Y : Nat → Int} {pn : Nat → Nat} (h : Sp.Ago L n D Y pn) {v : Nat} (hv : v < n) (hy : Y v ≠ -1) : (L.getD (Y v).toNat Sp.arc0).t = v ∧ Sp.bk L Y v < n ∧ D (Sp.bk L Y v) ≠ 1152921504606846976 ∧ pn v ≤ pn (Sp.bk L Y v) + 1 ∧ ∃ m : Nat, Y v = (m : Int) ∧ m < L.length := by
  obtain ⟨tm, clock, ht⟩ := h.tr
  obtain ⟨h1, h2, h3, -, -, h6⟩ := ht.arc v _ hv (Sp.byA_some hy)
  exact ⟨h2, (h.rng _ h1).1, h3, h6, (h.num v hv).resolve_left hy⟩
theorem Sp.Ago.back {L : List Sp.Arc} {n : Nat} {D Y : Nat → Int} {pn : Nat → Nat} (h : Sp.Ago L n D Y pn) {x : Nat} (hx : x < n) : ∀ m, m ≤ pn x → Sp.itb L Y m x < n ∧ pn x ≤ pn (Sp.itb L Y m x) + m
  | 0, _ => ⟨hx, by show pn x ≤ pn x + 0; omega⟩
  | m + 1, hm => by
    obtain ⟨h1, h2⟩ := Sp.Ago.back h hx m (by omega)
    obtain ⟨-, h3, -, h4, -⟩ := h.arc h1 (h.ne h1 (by omega))
    exact ⟨h3, by show pn x ≤ pn (Sp.bk L Y (Sp.itb L Y m x)) + (m + 1); omega⟩
/-- Of n + 1 places two are one. -/
theorem Sp.pigeon {n : Nat} (f : Nat → Nat) (hf : ∀ m, m ≤ n → f m < n) : ∃ i j, i < j ∧ j ≤ n ∧ f i = f j := by
  rcases Classical.em (∃ i j, i < j ∧ j ≤ n ∧ f i = f j) with h | h
  · exact h
  · exfalso
    have hnd : ((List.range (n + 1)).map fun m => ((f m : Nat) : Int)).Nodup := by
      unfold List.Nodup
      rw [List.pairwise_iff_getElem]
      intro i j hi hj hij e
      simp only [List.length_map, List.length_range] at hi hj
      simp only [List.getElem_map, List.getElem_range] at e
      exact h ⟨i, j, hij, by omega, by omega⟩
    have := nodup_le n _ hnd (fun x hx => by
      obtain ⟨m, hm, rfl⟩ := List.mem_map.1 hx
      have := hf m (by have := List.mem_range.1 hm; omega)
      omega)
    rw [List.length_map, List.length_range] at this
    omega
theorem Sp.least_nat {P : Nat → Prop} : ∀ m, P m → ∃ q, q ≤ m ∧ P q ∧ ∀ j, j < q → ¬ P j
  | m, h => by
    rcases Classical.em (∃ j, j < m ∧ P j) with ⟨j, hj, hp⟩ | hn
    · obtain ⟨q, h1, h2, h3⟩ := Sp.least_nat j hp
      exact ⟨q, by omega, h2, h3⟩
    · exact ⟨m, Nat.le_refl _, h, fun j hj hp => hn ⟨j, hj, hp⟩⟩
/-- n steps back stands a place of a round: q arcs lead back to it, none fewer; together they are below 0. -/
theorem Sp.Ago.round {L : List Sp.Arc} {n : Nat} {D Y : Nat → Int} {pn : Nat → Nat} (h : Sp.Ago L n D Y pn) {x : Nat} (hx : x < n) (hp : n ≤ pn x) :
    ∃ q, 0 < q ∧ q ≤ n ∧ Sp.itb L Y q (Sp.itb L Y n x) = Sp.itb L Y n x ∧ (∀ j, Sp.itb L Y j (Sp.itb L Y n x) < n ∧ Y (Sp.itb L Y j (Sp.itb L Y n x)) ≠ -1) ∧ (∀ j, 0 < j → j < q → Sp.itb L Y j (Sp.itb L Y n x) ≠ Sp.itb L Y n x) ∧ Sp.smb L Y q (Sp.itb L Y n x) < 0 := by
  obtain ⟨i, j, hij, hj, e⟩ := Sp.pigeon (n := n) (fun m => Sp.itb L Y m x) (fun m hm => (h.back hx m (by omega)).1)
  have e' : Sp.itb L Y i x = Sp.itb L Y j x := e
  obtain ⟨c, hc⟩ : ∃ c, Sp.itb L Y i x = c := ⟨_, rfl⟩
  obtain ⟨p, hpj⟩ : ∃ p, j = p + i := ⟨j - i, by omega⟩
  have hp0 : 0 < p := by omega
  have hcyc : Sp.itb L Y p c = c := by rw [← hc, ← Sp.itb_add, ← hpj]; exact e'.symm
  have hmod : ∀ m, Sp.itb L Y m c = Sp.itb L Y (m % p) c := by
    intro m
    induction m using Nat.strongRecOn with
    | _ m ih =>
      by_cases hm : m < p
      · rw [Nat.mod_eq_of_lt hm]
      · have h1 := ih (m - p) (by omega)
        rw [show m = (m - p) + p by omega, Sp.itb_add, hcyc, Nat.add_mod_right]
        exact h1
  have hgood : ∀ m, Sp.itb L Y m c < n ∧ Y (Sp.itb L Y m c) ≠ -1 := fun m => by
    rw [hmod m]
    have hlt := Nat.mod_lt m hp0
    generalize m % p = r at *
    rw [← hc, ← Sp.itb_add]
    obtain ⟨h1, h2⟩ := h.back hx (r + i) (by omega)
    exact ⟨h1, h.ne h1 (by omega)⟩
  obtain ⟨a, ha⟩ : ∃ a, Sp.itb L Y n x = a := ⟨_, rfl⟩
  have hac : a = Sp.itb L Y (n - i) c := by rw [← ha, ← hc, ← Sp.itb_add]; congr 1; omega
  rw [ha]
  have hpa : Sp.itb L Y p a = a := by
    rw [hac, ← Sp.itb_add, show p + (n - i) = (n - i) + p by omega, Sp.itb_add, hcyc]
  have hga : ∀ m, Sp.itb L Y m a < n ∧ Y (Sp.itb L Y m a) ≠ -1 := fun m => by
    rw [hac, ← Sp.itb_add]; exact hgood _
  obtain ⟨q, hq1, ⟨hq2, hq3⟩, hq4⟩ := Sp.least_nat (P := fun q => 0 < q ∧ Sp.itb L Y q a = a) p ⟨hp0, hpa⟩
  refine ⟨q, hq2, by omega, hq3, hga, fun j h1 h2 h3 => hq4 j h2 ⟨h1, h3⟩, ?_⟩
  obtain ⟨tm, clock, ht⟩ := h.tr
  have hB := Sp.Bk.of_it (L := L) (Y := Y) q a (fun j _ => (hga j).2)
  rw [hq3] at hB
  exact ht.round h.rng (hga 0).1 hq2 hB
end Go.Proofs.Ytoegjnolccabjaa


/- slices.Reverse of a row of ints. -/
namespace Go.Proofs.Ytoegjnolccabjaa
open Go Go.RowKit

theorem Sp.map_set (n : Nat) (f : Nat → Int) (i : Nat) (a : Int) : ((List.range n).map f).set i a = (List.range n).map (Sp.upd f i a) := by
  apply List.ext_getElem
  · simp
  · intro k h1 h2
    simp only [List.getElem_set, List.getElem_map, List.getElem_range, Sp.upd]
    by_cases e : i = k
    · rw [if_pos e, if_pos e.symm]
    · rw [if_neg e, if_neg (fun h => e h.symm)]
end Go.Proofs.Ytoegjnolccabjaa


/- Package path: Any where no row of lengths is: a round is told. (gen_a25.py makes this from A12.) -/
namespace Go.Proofs.Ytoegjnolccabjaa
open Go Go.RowKit

/-- Before the first pass. -/
theorem Sp.Pas.zero {L : List Sp.Arc} {n : Nat} {D Y : Nat → Int} {clock : Nat} (h : Sp.Pas L n 0 0 D Y (fun _ => 0) (fun _ => 0) clock) : Sp.Pas L n (0 + 1) 0 D Y (fun _ => 0) (fun _ => 0) clock :=
  ⟨h.tr, fun _ => by omega, h.num, fun m _ hp => by omega, fun m hm => by omega⟩
end Go.Proofs.Ytoegjnolccabjaa


/- Every pass shortens a way: then a round below 0 is reached, and no row of lengths is (P601). -/
namespace Go.Proofs.Ytoegjnolccabjaa
open Go Go.RowKit

/-- Along the arcs back no row of lengths rises by more than they are long. -/
theorem Sp.Short.back {N s : Nat} {L : List Sp.Arc} {D D0 Y : Nat → Int} {pn : Nat → Nat} (hD : Sp.Short 1152921504606846976 L s N D) (hA : Sp.Ago L N D0 Y pn) (hr : ∀ v, v < N → D0 v ≠ 1152921504606846976 → D v ≠ 1152921504606846976) :
    ∀ m a, (∀ j, Sp.itb L Y j a < N ∧ Y (Sp.itb L Y j a) ≠ -1) → D a ≤ D (Sp.itb L Y m a) + Sp.smb L Y m a
  | 0, a, _ => by show D a ≤ D a + 0; omega
  | m + 1, a, h => by
    have ih := Sp.Short.back hD hA hr m (Sp.bk L Y a) (fun j => by rw [← Sp.itb_succ]; exact h (j + 1))
    obtain ⟨h1, h2, h3, -, k, h5, h6⟩ := hA.arc (h 0).1 (h 0).2
    have h7 := (hD.arc _ (Sp.arc_mem h6) (by
      have e : (L.getD k Sp.arc0).f = Sp.bk L Y a := by unfold Sp.bk; rw [show Y a = (k : Int) from h5, Int.toNat_natCast]
      rw [e]; exact hr _ h2 h3)).2
    have e : (Y a).toNat = k := by rw [show Y a = (k : Int) from h5, Int.toNat_natCast]
    have h1' : (L.getD (Y a).toNat Sp.arc0).t = a := h1
    rw [e] at h1'
    rw [h1'] at h7
    rw [Sp.itb_succ]
    show D a ≤ _ + ((L.getD (Y a).toNat Sp.arc0).l + Sp.smb L Y m (Sp.bk L Y a))
    have e2 : (L.getD k Sp.arc0).f = Sp.bk L Y a := by unfold Sp.bk; rw [e]
    rw [e2] at h7
    rw [e]; omega
end Go.Proofs.Ytoegjnolccabjaa


/- What any arcs reach; the arcs of a round, told backwards (P601: the reference's Round). -/
namespace Go.Proofs.Ytoegjnolccabjaa
open Go Go.RowKit

/-- A row of truths that no arc leads out of. -/
def Sp.clo (L : List Sp.Arc) (s : Nat) (B : Nat → Bool) : Prop := B s = true ∧ ∀ k, k < L.length → B (L.getD k Sp.arc0).f = true → B (L.getD k Sp.arc0).t = true
theorem Sp.clo.wk {L : List Sp.Arc} {s : Nat} {B : Nat → Bool} (h : Sp.clo L s B) : ∀ m v x, Sp.Wk L s m v x → B v = true
  | 0, v, x, hw => by obtain ⟨rfl, -⟩ := hw; exact h.1
  | m + 1, v, x, hw => by
    obtain ⟨a, ha, rfl, hw⟩ := hw
    have ih := Sp.clo.wk h m a.f _ hw
    obtain ⟨k, hk, e⟩ := List.getElem_of_mem ha
    have e2 : L.getD k Sp.arc0 = a := by rw [List.getD_eq_getElem?_getD, List.getElem?_eq_getElem hk, e]; rfl
    have := h.2 k hk
    rw [e2] at this
    exact this ih
/-- An arc leads out of what is known: it is known as well; fewer are unknown. -/
def Sp.updB (z : Nat → Bool) (j : Nat) (v : Bool) : Nat → Bool := fun k => if k = j then v else z k
end Go.Proofs.Ytoegjnolccabjaa


/- What is reached along what is left (chapter 9): found one by one. -/
namespace Go.Proofs.Ytoegjnolccabjaa
open Go Go.RowKit

/-- What stays while the reference looks for what is reached: of the i-th of the row Q the first d darts are looked at. -/
structure Sp.RcI (T C F : List Int) (N s i d : Nat) (Q : List Int) (B : Nat → Bool) (Y : Nat → Int) : Prop where
  pos : 0 < Q.length
  q0 : Q.getD 0 0 = (s : Int)
  qb : ∀ j, j < Q.length → 0 ≤ Q.getD j 0 ∧ Q.getD j 0 < (N : Int)
  inj : ∀ j k, j < Q.length → k < Q.length → Q.getD j 0 = Q.getD k 0 → j = k
  mem : ∀ v, v < N → (B v = true ↔ ∃ j, j < Q.length ∧ Q.getD j 0 = (v : Int))
  way : ∀ j, 0 < j → j < Q.length → ∃ d' : Nat, d' < T.length ∧ Y (Q.getD j 0).toNat = (d' : Int) ∧ T.getD (Sp.oth d') 0 = Q.getD j 0 ∧ F.getD d' 0 < C.getD d' 0 ∧ ∃ k, k < j ∧ T.getD d' 0 = Q.getD k 0
  clo : ∀ d', d' < T.length → ∀ j, (j < i ∨ (j = i ∧ d' < d)) → j < Q.length → T.getD d' 0 = Q.getD j 0 → F.getD d' 0 < C.getD d' 0 → B (T.getD (Sp.oth d') 0).toNat = true
/-- What is reached from s; the dart by which each was found; in which order. -/
structure Sp.RchQ (T C F : List Int) (N s : Nat) (B : Nat → Bool) (Y : Nat → Int) (rk : Nat → Nat) : Prop where
  src : B s = true
  clo : ∀ d, d < T.length → B (T.getD d 0).toNat = true → F.getD d 0 < C.getD d 0 → B (T.getD (Sp.oth d) 0).toNat = true
  way : ∀ v, v < N → B v = true → v ≠ s → ∃ d : Nat, d < T.length ∧ Y v = (d : Int) ∧ T.getD (Sp.oth d) 0 = (v : Int) ∧ F.getD d 0 < C.getD d 0 ∧ B (T.getD d 0).toNat = true ∧ rk (T.getD d 0).toNat < rk v
  rkN : ∀ v, v < N → B v = true → rk v < N
theorem app1_get (Q : List Int) (x : Int) (j : Nat) (hj : j < Q.length + 1) : (Q ++ [x]).getD j 0 = if j < Q.length then Q.getD j 0 else x := by
  rw [List.getD_eq_getElem?_getD]
  by_cases h : j < Q.length
  · rw [if_pos h, List.getElem?_append_left h, ← List.getD_eq_getElem?_getD]
  · rw [if_neg h, List.getElem?_append_right (by omega), show j - Q.length = 0 by omega]; rfl
theorem Sp.RcI.first {T C F : List Int} {N s : Nat} (hs : s < N) (Y : Nat → Int) : Sp.RcI T C F N s 0 0 [(s : Int)] (Sp.updB (fun _ => false) s true) Y where
  pos := Nat.one_pos
  q0 := rfl
  qb := fun j hj => by
    have hj' : j < 1 := hj
    obtain rfl : j = 0 := by omega
    show 0 ≤ (s : Int) ∧ (s : Int) < N
    omega
  inj := fun j k hj hk _ => by
    have hj' : j < 1 := hj
    have hk' : k < 1 := hk
    omega
  mem := fun v _ => by
    unfold Sp.updB
    by_cases e : v = s
    · rw [if_pos e]
      exact ⟨fun _ => ⟨0, Nat.one_pos, by rw [e]; rfl⟩, fun _ => rfl⟩
    · rw [if_neg e]
      refine ⟨fun h => (by cases h), fun ⟨j, hj, h⟩ => ?_⟩
      have hj' : j < 1 := hj
      obtain rfl : j = 0 := by omega
      have h' : (s : Int) = (v : Int) := h
      omega
  way := fun j h0 hj => by
    have hj' : j < 1 := hj
    omega
  clo := fun d' _ j h _ _ _ => by omega
theorem Sp.RcI.le {T C F : List Int} {N s i d : Nat} {Q : List Int} {B : Nat → Bool} {Y : Nat → Int} (h : Sp.RcI T C F N s i d Q B Y) : Q.length ≤ N := by
  rcases Nat.lt_or_ge N Q.length with hlt | hge
  · obtain ⟨i, j, hij, hj, e⟩ := Sp.pigeon (n := N) (fun m => (Q.getD m 0).toNat) (fun m hm => by
      have := h.qb m (by omega)
      omega)
    have b1 := h.qb i (by omega)
    have b2 := h.qb j (by omega)
    have := h.inj i j (by omega) (by omega) (by omega)
    omega
  · exact hge
theorem Sp.RcI.stay {T C F : List Int} {N s i d : Nat} {Q : List Int} {B : Nat → Bool} {Y : Nat → Int} (h : Sp.RcI T C F N s i d Q B Y) (hd : T.getD d 0 = Q.getD i 0 → F.getD d 0 < C.getD d 0 → B (T.getD (Sp.oth d) 0).toNat = true) : Sp.RcI T C F N s i (d + 1) Q B Y := by
  refine ⟨h.pos, h.q0, h.qb, h.inj, h.mem, h.way, fun d' h1 j h2 h3 h4 h5 => ?_⟩
  by_cases e : j = i ∧ d' = d
  · obtain ⟨rfl, rfl⟩ := e
    exact hd h4 h5
  · exact h.clo d' h1 j (by omega) h3 h4 h5
theorem Sp.RcI.next {T C F : List Int} {N s i : Nat} {Q : List Int} {B : Nat → Bool} {Y : Nat → Int} (h : Sp.RcI T C F N s i T.length Q B Y) : Sp.RcI T C F N s (i + 1) 0 Q B Y :=
  ⟨h.pos, h.q0, h.qb, h.inj, h.mem, h.way, fun d' h1 j h2 h3 h4 h5 => h.clo d' h1 j (by omega) h3 h4 h5⟩
theorem Sp.RcI.put {T C F : List Int} {N s i d : Nat} {Q : List Int} {B : Nat → Bool} {Y : Nat → Int} (h : Sp.RcI T C F N s i d Q B Y) (hT : ∀ x ∈ T, 0 ≤ x ∧ x < (N : Int)) (hev : T.length % 2 = 0) (hi : i < Q.length) (hd : d < T.length) (h1 : T.getD d 0 = Q.getD i 0) (h2 : F.getD d 0 < C.getD d 0) {x : Nat} (hx : T.getD (Sp.oth d) 0 = (x : Int)) (h3 : B x = false) :
    Sp.RcI T C F N s i (d + 1) (Q ++ [(x : Int)]) (Sp.updB B x true) (Sp.upd Y x (d : Int)) := by
  have hxb := hT _ (Sp.getD_mem (l := T) (oth_lt hd hev))
  rw [hx] at hxb
  have hxN : x < N := by omega
  have hl : (Q ++ [(x : Int)]).length = Q.length + 1 := by simp
  have hnew : ∀ j, j < Q.length → Q.getD j 0 ≠ (x : Int) := fun j hj e => by
    have := (h.mem x hxN).2 ⟨j, hj, e⟩
    rw [h3] at this
    cases this
  have hmo : ∀ v, B v = true → Sp.updB B x true v = true := fun v hv => by
    unfold Sp.updB
    split
    · rfl
    · exact hv
  refine ⟨by omega, ?_, fun j hj => ?_, fun j k hj hk e => ?_, fun v hv => ?_, fun j h0 hj => ?_, fun d' h4 j h5 h6 h7 h8 => ?_⟩
  · rw [app1_get _ _ _ (by omega), if_pos h.pos]; exact h.q0
  · rw [app1_get _ _ _ (by omega)]
    split
    · exact h.qb j (by omega)
    · omega
  · rw [app1_get _ _ _ (by omega), app1_get _ _ _ (by omega)] at e
    by_cases e1 : j < Q.length
    · rw [if_pos e1] at e
      by_cases e2 : k < Q.length
      · rw [if_pos e2] at e; exact h.inj j k e1 e2 e
      · rw [if_neg e2] at e; exact absurd e (hnew j e1)
    · rw [if_neg e1] at e
      by_cases e2 : k < Q.length
      · rw [if_pos e2] at e; exact absurd e.symm (hnew k e2)
      · omega
  · unfold Sp.updB
    by_cases e : v = x
    · rw [if_pos e]
      exact ⟨fun _ => ⟨Q.length, by omega, by rw [app1_get _ _ _ (by omega), if_neg (by omega), e]⟩, fun _ => rfl⟩
    · rw [if_neg e, h.mem v hv]
      constructor
      · rintro ⟨j, hj, h9⟩
        exact ⟨j, by omega, by rw [app1_get _ _ _ (by omega), if_pos hj]; exact h9⟩
      · rintro ⟨j, hj, h9⟩
        rw [app1_get _ _ _ (by omega)] at h9
        by_cases e1 : j < Q.length
        · rw [if_pos e1] at h9; exact ⟨j, e1, h9⟩
        · rw [if_neg e1] at h9; omega
  · by_cases e1 : j < Q.length
    · obtain ⟨d', a1, a2, a3, a4, k, a5, a6⟩ := h.way j h0 e1
      have hq := h.qb j e1
      have hne := hnew j e1
      refine ⟨d', a1, ?_, ?_, a4, k, a5, ?_⟩
      · rw [app1_get _ _ _ (by omega), if_pos e1]
        unfold Sp.upd
        rw [if_neg (by omega)]
        exact a2
      · rw [app1_get _ _ _ (by omega), if_pos e1]; exact a3
      · rw [app1_get _ _ _ (by omega), if_pos (by omega)]; exact a6
    · obtain rfl : j = Q.length := by omega
      refine ⟨d, hd, ?_, ?_, h2, i, hi, ?_⟩
      · rw [app1_get _ _ _ (by omega), if_neg (by omega), Int.toNat_natCast]
        unfold Sp.upd
        rw [if_pos rfl]
      · rw [app1_get _ _ _ (by omega), if_neg (by omega)]; exact hx
      · rw [app1_get _ _ _ (by omega), if_pos hi]; exact h1
  · by_cases e : j = i ∧ d' = d
    · obtain ⟨rfl, rfl⟩ := e
      rw [hx, Int.toNat_natCast]
      unfold Sp.updB
      rw [if_pos rfl]
    · rw [app1_get _ _ _ (by omega)] at h7
      have e1 : j < Q.length := by omega
      rw [if_pos e1] at h7
      exact hmo _ (h.clo d' h4 j (by omega) e1 h7 h8)
theorem Sp.RcI.done {T C F : List Int} {N s i : Nat} {Q : List Int} {B : Nat → Bool} {Y : Nat → Int} (h : Sp.RcI T C F N s i 0 Q B Y) (hT : ∀ x ∈ T, 0 ≤ x ∧ x < (N : Int)) (hi : Q.length ≤ i) (hs : s < N) : ∃ rk, Sp.RchQ T C F N s B Y rk := by
  have hch : ∀ v : Nat, ∃ j : Nat, v < N → B v = true → j < Q.length ∧ Q.getD j 0 = (v : Int) := fun v => by
    by_cases hv : v < N ∧ B v = true
    · obtain ⟨j, h1, h2⟩ := (h.mem v hv.1).1 hv.2
      exact ⟨j, fun _ _ => ⟨h1, h2⟩⟩
    · exact ⟨0, fun h1 h2 => absurd ⟨h1, h2⟩ hv⟩
  obtain ⟨rk, hrk⟩ := Classical.axiomOfChoice hch
  have hle := h.le
  have hTd : ∀ d, d < T.length → ∃ u : Nat, T.getD d 0 = (u : Int) ∧ u < N := fun d hd => by
    have := hT _ (Sp.getD_mem (l := T) hd)
    exact ⟨(T.getD d 0).toNat, by omega, by omega⟩
  refine ⟨rk, (h.mem s hs).2 ⟨0, h.pos, h.q0⟩, fun d hd h1 h2 => ?_, fun v hv h1 h2 => ?_, fun v hv h1 => ?_⟩
  · obtain ⟨u, e, hu⟩ := hTd d hd
    rw [e, Int.toNat_natCast] at h1
    obtain ⟨j, h3, h4⟩ := (h.mem u hu).1 h1
    exact h.clo d hd j (.inl (by omega)) h3 (by rw [e, h4]) h2
  · obtain ⟨h3, h4⟩ := hrk v hv h1
    have h0 : 0 < rk v := by
      rcases Nat.eq_zero_or_pos (rk v) with e | e
      · rw [e, h.q0] at h4
        omega
      · exact e
    obtain ⟨d', a1, a2, a3, a4, k, a5, a6⟩ := h.way (rk v) h0 h3
    rw [h4] at a3
    rw [h4, Int.toNat_natCast] at a2
    obtain ⟨u, e, hu⟩ := hTd d' a1
    have hB : B u = true := (h.mem u hu).2 ⟨k, by omega, by rw [← a6, e]⟩
    refine ⟨d', a1, a2, a3, a4, by rw [e, Int.toNat_natCast]; exact hB, ?_⟩
    rw [e, Int.toNat_natCast]
    obtain ⟨h5, h6⟩ := hrk u hu hB
    have := h.inj (rk u) k h5 (by omega) (by rw [h6, ← a6, e])
    omega
  · have := (hrk v hv h1).1
    omega
/-- What is reached is the same, however it is found. -/
theorem Sp.RchQ.least {T C F : List Int} {N s : Nat} {B B' : Nat → Bool} {Y : Nat → Int} {rk : Nat → Nat} (h : Sp.RchQ T C F N s B Y rk) (hT : ∀ x ∈ T, 0 ≤ x ∧ x < (N : Int)) (h0 : B' s = true) (hc : ∀ d, d < T.length → B' (T.getD d 0).toNat = true → F.getD d 0 < C.getD d 0 → B' (T.getD (Sp.oth d) 0).toNat = true) : ∀ m v, v < N → rk v ≤ m → B v = true → B' v = true := by
  intro m
  induction m with
  | zero =>
    intro v hv hm hb
    by_cases e : v = s
    · rw [e]; exact h0
    · obtain ⟨d, -, -, -, -, -, h6⟩ := h.way v hv hb e
      omega
  | succ m ih =>
    intro v hv hm hb
    by_cases e : v = s
    · rw [e]; exact h0
    · obtain ⟨d, a1, a2, a3, a4, a5, a6⟩ := h.way v hv hb e
      have hb1 := hT _ (Sp.getD_mem (l := T) a1)
      have := hc d a1 (ih _ (by omega) (by omega) a5) a4
      rw [a3, Int.toNat_natCast] at this
      exact this
end Go.Proofs.Ytoegjnolccabjaa


/- A row of truths in a block of its own, as a function; make([]bool, n). -/
namespace Go.Proofs.Ytoegjnolccabjaa
open Go Go.RowKit

def RowB (w : World) (b n : Nat) (z : Nat → Bool) : Prop := ∃ c, w.heap[b]? = some (.cells c 4) ∧ c.size = n ∧ ∀ j, j < n → c[j]? = some (.bool (z j))
theorem RowB.lt {w : World} {b n : Nat} {z : Nat → Bool} (h : RowB w b n z) : b < w.heap.size := by
  obtain ⟨c, hc, -⟩ := h
  exact (Array.getElem?_eq_some_iff.1 hc).1
theorem RowB.cell {w : World} {b n : Nat} {z : Nat → Bool} (h : RowB w b n z) {j : Nat} (hj : j < n) : w.cell? ⟨b, j, none⟩ = some (.bool (z j)) := by
  obtain ⟨c, hc, -, hz⟩ := h
  simp only [World.cell?, hc]
  exact hz j hj
theorem RowB.frozen {w : World} {b n : Nat} {z : Nat → Bool} (h : RowB w b n z) (j : Nat) (s : Option Nat) : w.frozen? ⟨b, j, s⟩ = false := by
  obtain ⟨c, hc, -⟩ := h
  simp only [World.frozen?, hc]
  simp
theorem RowB.of_block {w w' : World} {b n : Nat} {z : Nat → Bool} (h : RowB w b n z) (e : w'.heap[b]? = w.heap[b]?) : RowB w' b n z := by
  obtain ⟨c, hc, h1⟩ := h
  exact ⟨c, by rw [e]; exact hc, h1⟩
theorem RowB.set {w : World} {b n : Nat} {z : Nat → Bool} (h : RowB w b n z) (j : Nat) (v : Bool) : RowB (w.setCell ⟨b, j, none⟩ (.bool v)) b n (Sp.updB z j v) := by
  obtain ⟨c, hc, hs, hz⟩ := h
  refine ⟨c.setIfInBounds j (.bool v), ?_, by simpa using hs, fun k hk => ?_⟩
  · simp only [World.setCell, Array.getElem?_modify, if_pos, hc]
    rfl
  · rw [Array.getElem?_setIfInBounds]
    unfold Sp.updB
    by_cases hjk : j = k
    · rw [if_pos hjk, if_pos (by omega), if_pos hjk.symm]
    · rw [if_neg hjk, hz k hk, if_neg (fun e => hjk e.symm)]
theorem RowB.below {w w' : World} {b n : Nat} {z : Nat → Bool} (h : RowB w b n z) (hb : Below w.heap.size w w') : RowB w' b n z := h.of_block (hb.block b h.lt)
theorem RowB.congr {w : World} {b n : Nat} {z z' : Nat → Bool} (h : RowB w b n z) (e : ∀ j, j < n → z j = z' j) : RowB w b n z' := by
  obtain ⟨c, hc, hs, hz⟩ := h
  exact ⟨c, hc, hs, fun j hj => by rw [← e j hj]; exact hz j hj⟩
theorem RowB.of_rep {w : World} {B b n : Nat} {x : Bool} (h : OwnB w B (.slice (some ⟨b, 0, none⟩) n n) (List.replicate n x)) : RowB w b n (fun _ => x) ∧ B ≤ b := by
  unfold OwnB at h
  obtain ⟨h1, ⟨h2, -⟩ | ⟨g', cap, cur, e, hg, hh, hnc, hcm, hsz, htk⟩⟩ := h
  · cases h2
  · injection e with e1 e2 e3
    injection e1 with e1
    injection e1 with e1 _
    subst e1
    rw [List.length_replicate] at hnc htk
    refine ⟨⟨cur, hh, by omega, fun j hj => ?_⟩, hg⟩
    have e4 : cur.toList = (List.replicate n x).map Value.bool := by
      rw [← htk, List.take_of_length_le]
      simp; omega
    rw [← Array.getElem?_toList, e4, List.getElem?_map, List.getElem?_replicate, if_pos hj]; rfl
end Go.Proofs.Ytoegjnolccabjaa


/- In a plane net what sums to nothing about each vertex is a rise: of heights of its faces. -/
namespace Go.Proofs.Ytoegjnolccabjaa

/-- What sums to nothing about each vertex is a rise of heights that are one about each face. -/
def Sp.Cir (q : Sp.Net) : Prop := ∀ g : Nat → Int, (∀ d, d < q.tail.length → g (Sp.oth d) = - g d) → (∀ v : Int, Sp.sumN (fun d => if q.tail.getD d 0 = v then g d else 0) q.tail.length = 0) →
  ∃ H : Nat → Int, (∀ x, x < q.tail.length → H (Sp.fn (Sp.behindL q.next) x) = H x) ∧ ∀ d, d < q.tail.length → g d = H (Sp.oth d) - H d
/-- Heights that are one about each face: the rise sums to nothing about each vertex. -/
theorem Sp.PlaneQ.vzero {q : Sp.Net} {i : Nat} (hq : Sp.PlaneQ q i) {H : Nat → Int} (h : ∀ x, x < q.tail.length → H (Sp.fn (Sp.behindL q.next) x) = H x) (v : Int) :
    Sp.sumN (fun d => if q.tail.getD d 0 = v then H (Sp.oth d) - H d else 0) q.tail.length = 0 := by
  have e : Sp.sumN (fun d => if q.tail.getD d 0 = v then H (Sp.oth d) - H d else 0) q.tail.length = Sp.sumN (fun d => (if q.tail.getD (Sp.fn q.next d) 0 = v then H (Sp.fn q.next d) else 0) - (if q.tail.getD d 0 = v then H d else 0)) q.tail.length :=
    Sp.sumN_congr _ fun d hd => by
      have ho := oth_lt hd hq.ev
      have h1 := h _ ho
      rw [fn_behind _ _ (by rw [hq.nx]; exact ho), oth_oth] at h1
      have h2 : q.tail.getD (Sp.fn q.next d) 0 = q.tail.getD d 0 := hq.tn d (by rw [hq.nx]; exact hd)
      rw [h2, h1]
      by_cases e : q.tail.getD d 0 = v
      · rw [if_pos e, if_pos e, if_pos e]
      · rw [if_neg e, if_neg e, if_neg e]; rfl
  rw [e, Sp.sumN_sub, Sp.sumN_perm (f := Sp.fn q.next) (g := fun j => if q.tail.getD j 0 = v then H j else 0) hq.mpN (fun i j hi hj e => ?_) (fun j hj => ?_)]
  · omega
  · exact hq.pm.fnP.inj i j (by rw [hq.nx]; exact hi) (by rw [hq.nx]; exact hj) e
  · obtain ⟨i, h1, h2⟩ := Sp.perm_onto hq.pm (d := j) (by rw [hq.nx]; exact hj)
    exact ⟨i, by rw [hq.nx] at h1; exact h1, h2⟩
theorem Sp.Cir.loop (c d : Int) : Sp.Cir ⟨1, [0, 0], [1, 0], [c, d]⟩ := by
  intro g ha hv
  have h0 : g 1 = - g 0 := ha 0 (by show 0 < 2; omega)
  refine ⟨fun x => if x = 0 then 0 else g 0, fun x hx => ?_, fun d hd => ?_⟩
  · have hx' : x < 2 := hx
    rcases (show x = 0 ∨ x = 1 by omega) with rfl | rfl
    · rfl
    · rfl
  · have hd' : d < 2 := hd
    rcases (show d = 0 ∨ d = 1 by omega) with rfl | rfl
    · show g 0 = g 0 - 0; omega
    · show g 1 = 0 - g 0; omega
theorem Sp.Cir.edge (c d : Int) : Sp.Cir ⟨2, [0, 1], [0, 1], [c, d]⟩ := by
  intro g ha hv
  have h0 : g 1 = - g 0 := ha 0 (by show 0 < 2; omega)
  have h1 : 0 + g 0 + 0 = 0 := hv 0
  refine ⟨fun _ => 0, fun x hx => rfl, fun d hd => ?_⟩
  have hd' : d < 2 := hd
  rcases (show d = 0 ∨ d = 1 by omega) with rfl | rfl
  · show g 0 = 0 - 0; omega
  · show g 1 = 0 - 0; omega
theorem Sp.Cir.growN {q : Sp.Net} {i : Nat} (hq : Sp.PlaneQ q i) (h : Sp.Cir q) (e : Nat) (he : e < q.tail.length) (c d : Int) : Sp.Cir (Sp.growN q e c d) := by
  intro g ha hv
  have hL : (Sp.growN q e c d).tail.length = q.tail.length + 2 := by simp [Sp.growN]
  have ht : ∀ x, x < q.tail.length + 2 → (Sp.growN q e c d).tail.getD x 0 = if x < q.tail.length then q.tail.getD x 0 else if x = q.tail.length then q.tail.getD e 0 else q.n := fun x hx => app2_get _ _ _ _ hx
  have t0 : (Sp.growN q e c d).tail.getD q.tail.length 0 = q.tail.getD e 0 := by rw [ht _ (by omega), if_neg (by omega), if_pos rfl]
  have t1 : (Sp.growN q e c d).tail.getD (q.tail.length + 1) 0 = q.n := by rw [ht _ (by omega), if_neg (by omega), if_neg (by omega)]
  have hen : e < q.next.length := by rw [hq.nx]; exact he
  have hevn : q.next.length % 2 = 0 := by rw [hq.nx]; exact hq.ev
  have hoe := oth_lt he hq.ev
  have o := oth_new hq.ev
  have htb := hq.tb _ (Sp.getD_mem he)
  rw [hL] at ha hv ⊢
  have hn : g (q.tail.length + 1) = 0 := by
    have h1 := hv q.n
    rw [Sp.sumN, Sp.sumN] at h1
    rw [Sp.sumN_congr q.tail.length (g := fun d_1 => if (Sp.growN q e c d).tail.getD d_1 0 = q.n then g d_1 else 0) (h := fun _ => 0) (fun x hx => by
      show (if (Sp.growN q e c d).tail.getD x 0 = q.n then g x else 0) = 0
      have hb := hq.tb _ (Sp.getD_mem hx)
      rw [ht x (by omega), if_pos hx, if_neg (by omega)]), Sp.sumN_zero, t0, t1, if_pos rfl] at h1
    rw [if_neg (by omega)] at h1
    omega
  have hL0 : g q.tail.length = 0 := by
    have h1 := ha q.tail.length (by omega)
    rw [o.1] at h1
    omega
  obtain ⟨H, h1, h2⟩ := h g (fun d hd => ha d (by omega)) (fun v => by
    have h3 := hv v
    rw [Sp.sumN, Sp.sumN, hL0, hn, ite_self, ite_self] at h3
    rw [← Sp.sumN_congr q.tail.length (g := fun d_1 => if (Sp.growN q e c d).tail.getD d_1 0 = v then g d_1 else 0) (fun x hx => by
      show (if (Sp.growN q e c d).tail.getD x 0 = v then g x else 0) = _
      rw [ht x (by omega), if_pos hx])]
    omega)
  have hbm := hq.pmB.mp
  refine ⟨fun x => if x < q.tail.length then H x else H (Sp.oth e), fun x hx => ?_, fun d' hd => ?_⟩
  · have hB := behind_new hen hevn x (by rw [hq.nx]; exact hx)
    rw [hq.nx] at hB
    have hB' : Sp.fn (Sp.behindL (Sp.growN q e c d).next) x = insF (q.tail.length + 1) q.tail.length (insF q.tail.length (Sp.oth e) (Sp.fn (Sp.behindL q.next))) x := hB
    rw [hB']
    unfold insF
    by_cases e1 : x = q.tail.length
    · rw [if_pos e1]
      show (if q.tail.length + 1 < q.tail.length then _ else _) = if x < q.tail.length then _ else _
      rw [if_neg (by omega), if_neg (by omega)]
    · rw [if_neg e1]
      by_cases e2 : x = q.tail.length + 1
      · rw [if_pos e2, if_neg (by omega), if_pos rfl]
        show (if Sp.fn (Sp.behindL q.next) (Sp.oth e) < q.tail.length then _ else _) = if x < q.tail.length then _ else _
        rw [if_pos (hbm _ hoe), if_neg (by omega), h1 _ hoe]
      · rw [if_neg e2]
        have hxl : x < q.tail.length := by omega
        by_cases e3 : x = Sp.oth e
        · rw [if_pos e3]
          show (if q.tail.length < q.tail.length then _ else _) = if x < q.tail.length then _ else _
          rw [if_neg (by omega), if_pos hxl, e3]
        · rw [if_neg e3, if_neg e1]
          show (if Sp.fn (Sp.behindL q.next) x < q.tail.length then _ else _) = if x < q.tail.length then _ else _
          rw [if_pos (hbm _ hxl), if_pos hxl, h1 _ hxl]
  · by_cases e1 : d' < q.tail.length
    · show g d' = (if Sp.oth d' < q.tail.length then _ else _) - if d' < q.tail.length then _ else _
      rw [if_pos (oth_lt e1 hq.ev), if_pos e1]
      exact h2 d' e1
    · show g d' = (if Sp.oth d' < q.tail.length then _ else _) - if d' < q.tail.length then _ else _
      rcases (show d' = q.tail.length ∨ d' = q.tail.length + 1 by omega) with rfl | rfl
      · rw [o.1, if_neg (by omega), if_neg (by omega), hL0]; omega
      · rw [o.2, if_neg (by omega), if_neg (by omega), hn]; omega
theorem Sp.Cir.growF {q : Sp.Net} {i : Nat} (hq : Sp.PlaneQ q i) (hp : Sp.Plain q) (h : Sp.Cir q) (e g : Nat) (he : e < q.tail.length) (hg : g < q.tail.length) (c d : Int) (hcc : 0 ≤ c ∧ c ≤ 2147483648) (hdd : 0 ≤ d ∧ d ≤ 2147483648)
    (hs : (Sp.faces2 q).1.getD (q.next.getD g 0).toNat 0 = (Sp.faces2 q).1.getD (q.next.getD e 0).toNat 0) : Sp.Cir (Sp.growF q e g c d) := by
  intro k ha hv
  have hq' := hq.growF e g he hg c d hcc hdd
  have hL : (Sp.growF q e g c d).tail.length = q.tail.length + 2 := by simp [Sp.growF]
  have ht : ∀ x, x < q.tail.length + 2 → (Sp.growF q e g c d).tail.getD x 0 = if x < q.tail.length then q.tail.getD x 0 else if x = q.tail.length then q.tail.getD e 0 else q.tail.getD g 0 := fun x hx => app2_get _ _ _ _ hx
  have t0 : (Sp.growF q e g c d).tail.getD q.tail.length 0 = q.tail.getD e 0 := by rw [ht _ (by omega), if_neg (by omega), if_pos rfl]
  have t1 : (Sp.growF q e g c d).tail.getD (q.tail.length + 1) 0 = q.tail.getD g 0 := by rw [ht _ (by omega), if_neg (by omega), if_neg (by omega)]
  have hen : e < q.next.length := by rw [hq.nx]; exact he
  have hgn : g < q.next.length := by rw [hq.nx]; exact hg
  have hevn : q.next.length % 2 = 0 := by rw [hq.nx]; exact hq.ev
  have hoe := oth_lt he hq.ev
  have hog := oth_lt hg hq.ev
  have o := oth_new hq.ev
  have hbm := hq.pmB.mp
  have hk1 := ha q.tail.length (by rw [hL]; omega)
  rw [o.1] at hk1
  by_cases hge : g = e
  · have hnx : (Sp.growF q e g c d).next = Sp.layIn (Sp.layIn (q.next ++ [(q.next.length : Int), ((q.next.length + 1 : Nat) : Int)]) e q.next.length) q.next.length (q.next.length + 1) := by
      unfold Sp.growF
      rw [hq.nx]
      show Sp.layIn _ (if g = e then _ else g) _ = _
      rw [if_pos hge]
    rw [hL] at ha hv ⊢
    obtain ⟨H, h1, h2⟩ := h k (fun d hd => ha d (by omega)) (fun v => by
      have h3 := hv v
      rw [Sp.sumN, Sp.sumN, t0, t1, hge, hk1] at h3
      rw [← Sp.sumN_congr q.tail.length (g := fun d_1 => if (Sp.growF q e g c d).tail.getD d_1 0 = v then k d_1 else 0) (fun x hx => by
        show (if (Sp.growF q e g c d).tail.getD x 0 = v then k x else 0) = _
        rw [ht x (by omega), if_pos hx])]
      subst hge
      split at h3 <;> omega)
    refine ⟨fun x => if x < q.tail.length then H x else if x = q.tail.length then H (Sp.oth e) else H (Sp.oth e) + k q.tail.length, fun x hx => ?_, fun d' hd => ?_⟩
    · have hB := behind_loop hen hevn x (by rw [hq.nx]; exact hx)
      rw [hnx, hB, hq.nx]
      unfold fixF insF
      show (if (if x = q.tail.length + 1 then _ else _) < q.tail.length then _ else _) = if x < q.tail.length then _ else _
      by_cases e2 : x = q.tail.length + 1
      · rw [if_pos e2, if_neg (by omega), if_neg (by omega), if_neg (by omega), if_neg (by omega)]
      · rw [if_neg e2]
        by_cases e3 : x = Sp.oth e
        · rw [if_pos e3, if_neg (by omega), if_pos rfl, if_pos (by omega), e3]
        · rw [if_neg e3]
          by_cases e1 : x = q.tail.length
          · rw [if_pos e1, if_pos (hbm _ hoe), if_neg (by omega), if_pos e1, h1 _ hoe]
          · have hxl : x < q.tail.length := by omega
            rw [if_neg e1, if_pos (hbm _ hxl), if_pos hxl, h1 _ hxl]
    · show k d' = (if Sp.oth d' < q.tail.length then _ else _) - if d' < q.tail.length then _ else _
      by_cases e1 : d' < q.tail.length
      · rw [if_pos (oth_lt e1 hq.ev), if_pos e1]
        exact h2 d' e1
      · rcases (show d' = q.tail.length ∨ d' = q.tail.length + 1 by omega) with rfl | rfl
        · rw [o.1, if_neg (by omega), if_neg (by omega), if_neg (by omega), if_pos rfl]; omega
        · rw [o.2, if_neg (by omega), if_pos rfl, if_neg (by omega), if_neg (by omega), hk1]; omega
  · have hnx : (Sp.growF q e g c d).next = Sp.layIn (Sp.layIn (q.next ++ [(q.next.length : Int), ((q.next.length + 1 : Nat) : Int)]) e q.next.length) g (q.next.length + 1) := by
      unfold Sp.growF
      rw [hq.nx]
      show Sp.layIn _ (if g = e then _ else g) _ = _
      rw [if_neg hge]
    have hoge : Sp.oth g ≠ Sp.oth e := fun h => hge (oth_inj h)
    have hBf : ∀ x, x < q.tail.length + 2 → Sp.fn (Sp.behindL (Sp.growF q e g c d).next) x = swpF q.tail.length (q.tail.length + 1) (insF (q.tail.length + 1) (Sp.oth g) (insF q.tail.length (Sp.oth e) (Sp.fn (Sp.behindL q.next)))) x := fun x hx => by
      have := behind_across hen hgn hge hevn x (by rw [hq.nx]; exact hx)
      rw [hq.nx] at this
      rw [hnx, hq.nx]
      exact this
    obtain ⟨lab, F, hf, he2⟩ := hp.face
    have hmpB := insF_mp hbm hoe
    have hsame : lab (Sp.oth e) = lab (Sp.oth g) := by
      have hc := (Sp.faces2_st hq.pm hq.nx hq.ev).cls
      rw [Sp.behindL_len, hq.nx] at hc
      have fe : Sp.fn (Sp.behindL q.next) (Sp.oth e) = (q.next.getD e 0).toNat := by rw [fn_behind _ _ (by rw [hq.nx]; exact hoe), oth_oth]; rfl
      have fg : Sp.fn (Sp.behindL q.next) (Sp.oth g) = (q.next.getD g 0).toNat := by rw [fn_behind _ _ (by rw [hq.nx]; exact hog), oth_oth]; rfl
      have a1 := hbm _ hoe
      have a2 := hbm _ hog
      have ho := hc.sep _ _ a1 a2 (by rw [fe, fg, hs])
      have := hf.orb hbm a1 ho
      rw [hf.inv _ hoe, hf.inv _ hog] at this
      exact this
    have hc2 := (hf.ins hbm hoe).ins hmpB (u := Sp.oth g) (by omega)
    have hp2 := insF_perm (insF_perm hq.pmB hoe) (u := Sp.oth g) (by omega)
    have horb := hc2.sep q.tail.length (q.tail.length + 1) (by omega) (by omega) (by
      show (if q.tail.length = q.tail.length + 1 then _ else if q.tail.length = q.tail.length then lab (Sp.oth e) else _) = if q.tail.length + 1 = q.tail.length + 1 then (if Sp.oth g = q.tail.length then lab (Sp.oth e) else lab (Sp.oth g)) else _
      rw [if_neg (by omega), if_pos rfl, if_pos rfl, if_neg (by omega), hsame])
    obtain ⟨lab3, hc3⟩ := hc2.split hp2 (by omega) (by omega) (by omega) horb
    have hp3 := swpF_perm hp2 (u := q.tail.length) (v := q.tail.length + 1) (by omega) (by omega)
    have hne : lab3 q.tail.length ≠ lab3 (q.tail.length + 1) := fun hh => by
      obtain ⟨lab4, hc4⟩ := hc3.split hp3 (by omega) (by omega) (by omega) (hc3.sep _ _ (by omega) (by omega) hh)
      have h5 := hc4.congr (f' := insF (q.tail.length + 1) (Sp.oth g) (insF q.tail.length (Sp.oth e) (Sp.fn (Sp.behindL q.next)))) (swpF_perm hp3 (by omega) (by omega)).mp (fun x _ => by
        generalize insF (q.tail.length + 1) (Sp.oth g) (insF q.tail.length (Sp.oth e) (Sp.fn (Sp.behindL q.next))) = f2
        unfold swpF
        by_cases x1 : x = q.tail.length
        · rw [if_pos x1, if_neg (by omega), if_pos rfl, x1]
        · rw [if_neg x1]
          by_cases x2 : x = q.tail.length + 1
          · rw [if_pos x2, if_pos rfl, x2]
          · rw [if_neg x2, if_neg x1, if_neg x2]) (fun x _ => rfl)
      have := hc2.count hp2.mp h5
      omega
    have hB3 : ∀ x, x < q.tail.length + 2 → lab3 (Sp.fn (Sp.behindL (Sp.growF q e g c d).next) x) = lab3 x := fun x hx => by rw [hBf x hx]; exact hc3.inv x hx
    obtain ⟨R, hR⟩ : ∃ R : Nat → Int, (fun x => if lab3 x = lab3 (q.tail.length + 1) then k q.tail.length else 0) = R := ⟨_, rfl⟩
    have hvz := hq'.vzero (H := R) (fun x hx => by
      rw [← hR]
      show (if lab3 _ = _ then _ else _) = if lab3 x = _ then _ else _
      rw [hB3 x (by omega)])
    rw [hL] at ha hv hvz ⊢
    have hRL : R q.tail.length = 0 := by rw [← hR]; exact if_neg hne
    have hRL1 : R (q.tail.length + 1) = k q.tail.length := by rw [← hR]; exact if_pos rfl
    have hRb : ∀ x, x < q.tail.length + 2 → R (Sp.fn (Sp.behindL (Sp.growF q e g c d).next) x) = R x := fun x hx => by
      rw [← hR]
      show (if lab3 _ = _ then _ else _) = if lab3 x = _ then _ else _
      rw [hB3 x hx]
    obtain ⟨H, h1, h2⟩ := h (fun x => k x - (R (Sp.oth x) - R x)) (fun d hd => by
        show k (Sp.oth d) - (R (Sp.oth (Sp.oth d)) - R (Sp.oth d)) = -(k d - (R (Sp.oth d) - R d))
        have := ha d (by omega)
        rw [oth_oth]
        omega) (fun v => by
      have h3 := hv v
      have h4 := hvz v
      have h5 := Sp.sumN_sub (fun d_1 => if (Sp.growF q e g c d).tail.getD d_1 0 = v then k d_1 else 0) (fun d_1 => if (Sp.growF q e g c d).tail.getD d_1 0 = v then R (Sp.oth d_1) - R d_1 else 0) (q.tail.length + 2)
      rw [h3, h4] at h5
      rw [Sp.sumN, Sp.sumN, o.1, o.2, hRL, hRL1, hk1] at h5
      have e1 : ∀ (p : Prop) [Decidable p], (if p then k q.tail.length else 0) - (if p then k q.tail.length - 0 else 0) = 0 := fun p _ => by split <;> omega
      have e2 : ∀ (p : Prop) [Decidable p], (if p then -k q.tail.length else 0) - (if p then 0 - k q.tail.length else 0) = 0 := fun p _ => by split <;> omega
      rw [e1, e2] at h5
      rw [← Sp.sumN_congr q.tail.length (g := fun d_1 => (if (Sp.growF q e g c d).tail.getD d_1 0 = v then k d_1 else 0) - (if (Sp.growF q e g c d).tail.getD d_1 0 = v then R (Sp.oth d_1) - R d_1 else 0)) (fun x hx => by
        show (if (Sp.growF q e g c d).tail.getD x 0 = v then k x else 0) - (if (Sp.growF q e g c d).tail.getD x 0 = v then R (Sp.oth x) - R x else 0) = _
        rw [ht x (by omega), if_pos hx]
        split <;> omega)]
      omega)
    have hH : ∀ x, x < q.tail.length → ∀ m, itf (Sp.fn (Sp.behindL q.next)) x m < q.tail.length ∧ H (itf (Sp.fn (Sp.behindL q.next)) x m) = H x := fun x hx m => by
      induction m with
      | zero => exact ⟨hx, rfl⟩
      | succ m ih =>
        refine ⟨hbm _ ih.1, ?_⟩
        show H (Sp.fn (Sp.behindL q.next) _) = _
        rw [h1 _ ih.1, ih.2]
    have hHge : H (Sp.oth e) = H (Sp.oth g) := by
      obtain ⟨m, hm⟩ := hf.sep _ _ hoe hog hsame
      rw [← hm, (hH _ hoe m).2]
    refine ⟨fun x => (if x < q.tail.length then H x else H (Sp.oth e)) + R x, fun x hx => ?_, fun d' hd => ?_⟩
    · show (if Sp.fn _ x < q.tail.length then _ else _) + R (Sp.fn _ x) = (if x < q.tail.length then _ else _) + R x
      rw [hRb x hx, hBf x hx]
      congr 1
      have f2L1 : insF (q.tail.length + 1) (Sp.oth g) (insF q.tail.length (Sp.oth e) (Sp.fn (Sp.behindL q.next))) (q.tail.length + 1) = Sp.fn (Sp.behindL q.next) (Sp.oth g) := by
        unfold insF
        rw [if_neg (show ¬ q.tail.length + 1 = Sp.oth g by omega), if_pos rfl, if_neg hoge, if_neg (show ¬ Sp.oth g = q.tail.length by omega)]
      have f2L : insF (q.tail.length + 1) (Sp.oth g) (insF q.tail.length (Sp.oth e) (Sp.fn (Sp.behindL q.next))) q.tail.length = Sp.fn (Sp.behindL q.next) (Sp.oth e) := by
        unfold insF
        rw [if_neg (show ¬ q.tail.length = Sp.oth g by omega), if_neg (show ¬ q.tail.length = q.tail.length + 1 by omega), if_neg (show ¬ q.tail.length = Sp.oth e by omega), if_pos rfl]
      unfold swpF
      by_cases x1 : x = q.tail.length
      · rw [if_pos x1, f2L1, if_pos (hbm _ hog), if_neg (show ¬ x < q.tail.length by omega), h1 _ hog, hHge]
      · rw [if_neg x1]
        by_cases x2 : x = q.tail.length + 1
        · rw [if_pos x2, f2L, if_pos (hbm _ hoe), if_neg (show ¬ x < q.tail.length by omega), h1 _ hoe]
        · have hxl : x < q.tail.length := by omega
          rw [if_neg x2]
          unfold insF
          by_cases x3 : x = Sp.oth g
          · rw [if_pos x3, if_neg (show ¬ q.tail.length + 1 < q.tail.length by omega), if_pos hxl, x3, hHge]
          · rw [if_neg x3]
            by_cases x4 : x = Sp.oth e
            · rw [if_neg x2, if_pos x4, if_neg (show ¬ q.tail.length < q.tail.length by omega), if_pos hxl, x4]
            · rw [if_neg x2, if_neg x4, if_neg x1, if_pos (hbm _ hxl), if_pos hxl, h1 _ hxl]
    · show k d' = ((if Sp.oth d' < q.tail.length then _ else _) + R (Sp.oth d')) - ((if d' < q.tail.length then _ else _) + R d')
      by_cases e1 : d' < q.tail.length
      · rw [if_pos (oth_lt e1 hq.ev), if_pos e1]
        have h3 : k d' - (R (Sp.oth d') - R d') = H (Sp.oth d') - H d' := h2 d' e1
        omega
      · rcases (show d' = q.tail.length ∨ d' = q.tail.length + 1 by omega) with rfl | rfl
        · rw [o.1, if_neg (by omega), if_neg (by omega), hRL, hRL1]; omega
        · rw [o.2, if_neg (by omega), if_neg (by omega), hRL, hRL1, hk1]; omega
theorem Sp.planeN_cir (ns : List Int) : ∀ i, Sp.planeN ns i = ⟨1, [], [], []⟩ ∨ (0 < (Sp.planeN ns i).tail.length ∧ Sp.Cir (Sp.planeN ns i))
  | 0 => .inl rfl
  | i + 1 => by
    right
    have hq := Sp.planeN_ok ns i
    have ih := Sp.planeN_cir ns i
    have hpl := Sp.planeN_plain ns i
    show 0 < (Sp.planeK (Sp.planeN ns i) (ns.getD i 0 % 1125899906842624)).tail.length ∧ Sp.Cir (Sp.planeK (Sp.planeN ns i) (ns.getD i 0 % 1125899906842624))
    generalize Sp.planeN ns i = q at *
    generalize ns.getD i 0 % 1125899906842624 = k
    unfold Sp.planeK
    by_cases h0 : q.tail.length = 0
    · rw [if_pos h0]
      split
      · exact ⟨by simp, Sp.Cir.loop _ _⟩
      · exact ⟨by simp, Sp.Cir.edge _ _⟩
    · rw [if_neg h0]
      have hl : 0 < q.tail.length := by omega
      have hc : Sp.Cir q := by
        rcases ih with e | e
        · rw [e] at h0; exact absurd rfl h0
        · exact e.2
      have hp : Sp.Plain q := by
        rcases hpl with e | e
        · rw [e] at h0; exact absurd rfl h0
        · exact e.2
      split
      · exact ⟨by simp [Sp.growN], hc.growN hq _ (Sp.planeE_lt q k hl) _ _⟩
      · exact ⟨by simp [Sp.growF], hc.growF hq hp _ _ (Sp.planeE_lt q k hl) (Sp.planeG_lt q k hl) _ _ (Sp.capOf_bd _) (Sp.capOf_bd _) (Sp.planeG_same q k hl)⟩
theorem Sp.plane_cir (ns : List Int) : Sp.Cir (Sp.plane ns) := by
  rcases Sp.planeN_cir ns (min ns.length 24) with h | h
  · have e : Sp.plane ns = ⟨1, [], [], []⟩ := h
    rw [e]
    exact fun g _ _ => ⟨fun _ => 0, fun x hx => absurd hx (Nat.not_lt_zero _), fun d hd => absurd hd (Nat.not_lt_zero _)⟩
  · exact h.2
end Go.Proofs.Ytoegjnolccabjaa


/- Heights that rise no more than is held are no bound above the shortest ways; with more held they are no lower. -/
namespace Go.Proofs.Ytoegjnolccabjaa

theorem Sp.wk_ub {L : List Sp.Arc} {s : Nat} {P : Nat → Int} (hp : ∀ a ∈ L, P a.t ≤ P a.f + a.l) : ∀ m v x, Sp.Wk L s m v x → P v ≤ P s + x
  | 0, v, x, hw => by
    obtain ⟨rfl, rfl⟩ := hw
    omega
  | m + 1, v, x, ⟨a, ha, e, hw⟩ => by
    have h1 := Sp.wk_ub hp m a.f _ hw
    have h2 := hp a ha
    rw [e] at h2
    omega
/-- A row of heights whose rises are no more than the darts hold: b lies no higher over a than the shortest way is long. -/
theorem Sp.rise_ub {F C : List Int} {m s n : Nat} {D P : Nat → Int} (hD : Sp.Short 1152921504606846976 (Sp.rimR F C m) s n D) (hp : ∀ d, d < m → P (F.getD (Sp.oth d) 0).toNat - P (F.getD d 0).toNat ≤ C.getD d 0) {v : Nat} (hv : v < n) (hn : D v ≠ 1152921504606846976) : P v - P s ≤ D v := by
  obtain ⟨k, hk⟩ := hD.att v hv hn
  have h := Sp.wk_ub (P := P) (fun a ha => by
    obtain ⟨d, hd, rfl⟩ := Sp.mem_rimR.1 ha
    have := hp d hd
    show P (F.getD (Sp.oth d) 0).toNat ≤ P (F.getD d 0).toNat + C.getD d 0
    omega) k v _ hk
  omega
/-- Twice as much held: twice as high. -/
theorem Sp.wk_twice {F C C' : List Int} {m s : Nat} (hc : ∀ d, d < m → C'.getD d 0 = 2 * C.getD d 0) : ∀ k v x, Sp.Wk (Sp.rimR F C m) s k v x → Sp.Wk (Sp.rimR F C' m) s k v (2 * x)
  | 0, v, x, hw => by
    obtain ⟨rfl, rfl⟩ := hw
    exact ⟨rfl, rfl⟩
  | k + 1, v, x, ⟨a, ha, e, hw⟩ => by
    obtain ⟨d, hd, rfl⟩ := Sp.mem_rimR.1 ha
    refine ⟨Sp.rimA F C' d, Sp.mem_rimR.2 ⟨d, hd, rfl⟩, e, ?_⟩
    have h := Sp.wk_twice hc k _ _ hw
    show Sp.Wk _ s k (F.getD d 0).toNat (2 * x - C'.getD d 0)
    rw [hc d hd, show 2 * x - 2 * C.getD d 0 = 2 * (x - C.getD d 0) by omega]
    exact h
theorem Sp.short_twice {F C C' : List Int} {m s n : Nat} {D : Nat → Int} (hc : ∀ d, d < m → C'.getD d 0 = 2 * C.getD d 0) (hD : Sp.Short 1152921504606846976 (Sp.rimR F C m) s n D) (hr : ∀ d, d < m → (F.getD d 0).toNat < n) (hr' : ∀ d, d < m → (F.getD (Sp.oth d) 0).toNat < n) (hn : ∀ v, v < n → D v < 576460752303423488) : Sp.Short 1152921504606846976 (Sp.rimR F C' m) s n (fun v => 2 * D v) where
  src := by show 2 * D s = 0; rw [hD.src]; rfl
  arc := fun a ha _ => by
    obtain ⟨d, hd, rfl⟩ := Sp.mem_rimR.1 ha
    have h1 := hn _ (hr d hd)
    have h2 := hn _ (hr' d hd)
    have h3 := (hD.arc (Sp.rimA F C d) (Sp.mem_rimR.2 ⟨d, hd, rfl⟩) (by show D (F.getD d 0).toNat ≠ _; omega)).2
    have h4 : D (F.getD (Sp.oth d) 0).toNat ≤ D (F.getD d 0).toNat + C.getD d 0 := h3
    have h5 := hc d hd
    show 2 * D (F.getD (Sp.oth d) 0).toNat ≠ _ ∧ 2 * D (F.getD (Sp.oth d) 0).toNat ≤ 2 * D (F.getD d 0).toNat + C'.getD d 0
    omega
  att := fun v hv _ => by
    obtain ⟨k, hk⟩ := hD.att v hv (by have := hn v hv; omega)
    exact ⟨k, Sp.wk_twice hc k v _ hk⟩
end Go.Proofs.Ytoegjnolccabjaa


/- Every flow of two that share a face is a rise. -/
namespace Go.Proofs.Ytoegjnolccabjaa

theorem Sp.DualQ.flow_rise {q : Sp.Net} (h : Sp.DualQ q) (hr : Sp.RimQ q) (hc : Sp.Cir q) {s t : Int} {f d0 a jb : Nat} (hs : Sp.SplitQ q s t f d0 a jb) (hst : s ≠ t) {g : Nat → Int} {x : Int} (ha : ∀ d, d < q.tail.length → g (Sp.oth d) = - g d)
    (hv : ∀ u, u ≠ s → u ≠ t → Sp.sumN (fun d => if q.tail.getD d 0 = u then g d else 0) q.tail.length = 0)
    (hx : Sp.sumN (fun d => if q.tail.getD d 0 = s then g d else 0) q.tail.length = x) (hy : Sp.sumN (fun d => if q.tail.getD d 0 = t then g d else 0) q.tail.length = -x) :
    ∃ P : Nat → Int, P (Sp.landK q) - P f = x ∧ ∀ d, d < q.tail.length → g d = P ((Sp.splitL q f d0 a jb).getD (Sp.oth d) 0).toNat - P ((Sp.splitL q f d0 a jb).getD d 0).toNat := by
  have hh := h.halves hs
  have hev := h.link.ev
  have hkk : max (Sp.faces2 q).2 1 = Sp.landK q := rfl
  have hfK : f < Sp.landK q := by rw [← hkk]; exact hh.fK
  have hbm := (h.fp).fnP.mp
  rw [h.bl] at hbm
  have hvs := fun u => h.vsum hs ((List.range (Sp.landK q + 1)).map fun c => if c = Sp.landK q then x else 0) u
  rw [hkk] at hvs
  have e1 : ((List.range (Sp.landK q + 1)).map fun c => if c = Sp.landK q then x else 0).getD f 0 = 0 := by
    rw [Sp.rowD (D := fun c => if c = Sp.landK q then x else 0) (by omega), if_neg (by omega)]
  have e2 : ((List.range (Sp.landK q + 1)).map fun c => if c = Sp.landK q then x else 0).getD (Sp.landK q) 0 = x := by
    rw [Sp.rowD (D := fun c => if c = Sp.landK q then x else 0) (by omega), if_pos rfl]
  simp only [e1, e2] at hvs
  obtain ⟨H, h1, h2⟩ := hc (fun d => g d - Sp.rise (Sp.splitL q f d0 a jb) ((List.range (Sp.landK q + 1)).map fun c => if c = Sp.landK q then x else 0) d) (fun d hd => by
      show g (Sp.oth d) - Sp.rise _ _ (Sp.oth d) = -(g d - Sp.rise _ _ d)
      rw [Sp.rise_oth, ha d hd]
      omega) (fun u => by
      have e : Sp.sumN (fun d => if q.tail.getD d 0 = u then g d - Sp.rise (Sp.splitL q f d0 a jb) ((List.range (Sp.landK q + 1)).map fun c => if c = Sp.landK q then x else 0) d else 0) q.tail.length = Sp.sumN (fun d => (if q.tail.getD d 0 = u then g d else 0) - (if q.tail.getD d 0 = u then Sp.rise (Sp.splitL q f d0 a jb) ((List.range (Sp.landK q + 1)).map fun c => if c = Sp.landK q then x else 0) d else 0)) q.tail.length :=
        Sp.sumN_congr _ fun d _ => by
          by_cases e : q.tail.getD d 0 = u
          · rw [if_pos e, if_pos e, if_pos e]
          · rw [if_neg e, if_neg e, if_neg e]; rfl
      show Sp.sumN (fun d => if q.tail.getD d 0 = u then g d - Sp.rise (Sp.splitL q f d0 a jb) ((List.range (Sp.landK q + 1)).map fun c => if c = Sp.landK q then x else 0) d else 0) q.tail.length = 0
      rw [e, Sp.sumN_sub, hvs u]
      by_cases es : s = u
      · subst es
        rw [hx, if_neg (fun k => hst k.symm), if_pos rfl]
        omega
      · by_cases et : t = u
        · subst et
          rw [hy, if_pos rfl, if_neg es]
          omega
        · rw [hv u (fun k => es k.symm) (fun k => et k.symm), if_neg et, if_neg es]
          rfl)
  have hFl : ∀ d, d < q.tail.length → 0 ≤ (Sp.faces2 q).1.getD d 0 := fun d hd => (hr.fb d hd).1
  have hH : ∀ y, y < q.tail.length → ∀ m, itf (Sp.fn (Sp.behindL q.next)) y m < q.tail.length ∧ H (itf (Sp.fn (Sp.behindL q.next)) y m) = H y := fun y hy m => by
    induction m with
    | zero => exact ⟨hy, rfl⟩
    | succ m ih =>
      refine ⟨hbm _ ih.1, ?_⟩
      show H (Sp.fn (Sp.behindL q.next) _) = _
      rw [h1 _ ih.1, ih.2]
  have hHf : ∀ i j, i < q.tail.length → j < q.tail.length → (Sp.faces2 q).1.getD i 0 = (Sp.faces2 q).1.getD j 0 → H i = H j := fun i j hi hj e => by
    obtain ⟨m, hm⟩ := h.cls.sep i j hi hj (by rw [e])
    rw [← hm, (hH i hi m).2]
  have hF2 : ∀ i j, i < q.tail.length → j < q.tail.length → (Sp.splitL q f d0 a jb).getD i 0 = (Sp.splitL q f d0 a jb).getD j 0 → (Sp.faces2 q).1.getD i 0 = (Sp.faces2 q).1.getD j 0 := fun i j hi hj e => by
    have l1 := hh.lt i hi
    have l2 := hh.lt j hj
    by_cases fi : (Sp.faces2 q).1.getD i 0 = (f : Int)
    · by_cases fj : (Sp.faces2 q).1.getD j 0 = (f : Int)
      · omega
      · have o2 := hh.out j hj fj
        rcases hh.inn i hi fi with o1 | o1 <;> omega
    · have o1 := hh.out i hi fi
      by_cases fj : (Sp.faces2 q).1.getD j 0 = (f : Int)
      · rcases hh.inn j hj fj with o2 | o2 <;> omega
      · have o2 := hh.out j hj fj
        omega
  have hex : ∀ c : Nat, ∃ y : Int, ∀ d, d < q.tail.length → (Sp.splitL q f d0 a jb).getD d 0 = (c : Int) → y = H d := fun c => by
    by_cases hh : ∃ d, d < q.tail.length ∧ (Sp.splitL q f d0 a jb).getD d 0 = (c : Int)
    · obtain ⟨d, hd, e⟩ := hh
      exact ⟨H d, fun d' hd' e' => hHf d d' hd hd' (hF2 d d' hd hd' (by rw [e, e']))⟩
    · exact ⟨0, fun d hd e => absurd ⟨d, hd, e⟩ hh⟩
  obtain ⟨P2, hP2⟩ := Classical.axiomOfChoice hex
  have hPd : ∀ d, d < q.tail.length → P2 ((Sp.splitL q f d0 a jb).getD d 0).toNat = H d := fun d hd => by
    have := hr.rng hs hd
    exact hP2 _ d hd (by omega)
  refine ⟨fun c => (if c = Sp.landK q then x else 0) + P2 c, ?_, fun d hd => ?_⟩
  · obtain ⟨i, hi, ei⟩ := hh.has1
    obtain ⟨j, hj, ej⟩ := hh.has2
    rw [hkk] at ej
    have p1 := hP2 f i hi ei
    have p2 := hP2 (Sp.landK q) j hj ej
    have l1 := hh.lt i hi
    have l2 := hh.lt j hj
    rw [hkk] at l1 l2
    have fi : (Sp.faces2 q).1.getD i 0 = (f : Int) := by
      by_cases fi : (Sp.faces2 q).1.getD i 0 = (f : Int)
      · exact fi
      · have := hh.out i hi fi; omega
    have fj : (Sp.faces2 q).1.getD j 0 = (f : Int) := by
      by_cases fj : (Sp.faces2 q).1.getD j 0 = (f : Int)
      · exact fj
      · have := hh.out j hj fj; omega
    have := hHf i j hi hj (by rw [fi, fj])
    show (if Sp.landK q = Sp.landK q then x else 0) + P2 (Sp.landK q) - ((if f = Sp.landK q then x else 0) + P2 f) = x
    rw [if_pos rfl, if_neg (by omega)]
    omega
  · have h3 : g d - Sp.rise (Sp.splitL q f d0 a jb) ((List.range (Sp.landK q + 1)).map fun c => if c = Sp.landK q then x else 0) d = H (Sp.oth d) - H d := h2 d hd
    have ho := oth_lt hd hev
    have r1 := hr.rng hs hd
    have r2 := hr.rng hs ho
    have h4 : Sp.rise (Sp.splitL q f d0 a jb) ((List.range (Sp.landK q + 1)).map fun c => if c = Sp.landK q then x else 0) d = (if ((Sp.splitL q f d0 a jb).getD (Sp.oth d) 0).toNat = Sp.landK q then x else 0) - (if ((Sp.splitL q f d0 a jb).getD d 0).toNat = Sp.landK q then x else 0) := by
      unfold Sp.rise
      rw [Sp.rowD (D := fun c => if c = Sp.landK q then x else 0) (by omega), Sp.rowD (D := fun c => if c = Sp.landK q then x else 0) (by omega)]
    show g d = (if ((Sp.splitL q f d0 a jb).getD (Sp.oth d) 0).toNat = Sp.landK q then x else 0) + P2 ((Sp.splitL q f d0 a jb).getD (Sp.oth d) 0).toNat - ((if ((Sp.splitL q f d0 a jb).getD d 0).toNat = Sp.landK q then x else 0) + P2 ((Sp.splitL q f d0 a jb).getD d 0).toNat)
    rw [hPd d hd, hPd _ ho]
    omega
/-- So no flow within what the darts hold has more value than b is high. -/
theorem Sp.DualQ.flow_ub {q : Sp.Net} (h : Sp.DualQ q) (hr : Sp.RimQ q) (hc : Sp.Cir q) {s t : Int} {f d0 a jb : Nat} (hs : Sp.SplitQ q s t f d0 a jb) (hst : s ≠ t) {D : Nat → Int} (hD : Sp.Short 1152921504606846976 (Sp.rimR (Sp.splitL q f d0 a jb) q.cap q.tail.length) f (Sp.landK q + 1) D) {g : Nat → Int} {x : Int} (ha : ∀ d, d < q.tail.length → g (Sp.oth d) = - g d)
    (hg : ∀ d, d < q.tail.length → g d ≤ q.cap.getD d 0)
    (hv : ∀ u, u ≠ s → u ≠ t → Sp.sumN (fun d => if q.tail.getD d 0 = u then g d else 0) q.tail.length = 0)
    (hx : Sp.sumN (fun d => if q.tail.getD d 0 = s then g d else 0) q.tail.length = x) (hy : Sp.sumN (fun d => if q.tail.getD d 0 = t then g d else 0) q.tail.length = -x) : x ≤ D (Sp.landK q) := by
  obtain ⟨P, h1, h2⟩ := h.flow_rise hr hc hs hst ha hv hx hy
  have h3 := Sp.rise_ub (P := P) hD (fun d hd => by rw [← h2 d hd]; exact hg d hd) (v := Sp.landK q) (by omega) (h.near hr hs hst hD _ (by omega))
  omega
end Go.Proofs.Ytoegjnolccabjaa


/- What rim tells is the greatest; along an edge runs what it holds. -/
namespace Go.Proofs.Ytoegjnolccabjaa
open Go Go.RowKit

theorem Sp.RimIs.most {q : Sp.Net} (hd : 0 < q.tail.length → Sp.DualQ q) (hq : Sp.RimQ q) (hc : Sp.Cir q) {s t : Int} {P L : List Int} {x : Int} (h : Sp.RimIs q s t P L x) (h0 : Sp.rimE q s t = 0) {L' : List Int} {x' : Int} (hF : Sp.FlowQ q s t L' x') : x' ≤ x := by
  rcases h with ⟨he, -⟩ | ⟨-, h0, h1, hst, hE, f, d0, a, jb, D, hs, hD, rfl, rfl, rfl⟩
  · exact absurd h0 he
  · exact (hd (by have := hs.d0l; omega)).flow_ub hq hc hs hst hD.1 (g := fun d => L'.getD d 0) hF.op hF.le hF.mid hF.src hF.snk
/-- What runs along one edge alone. -/
def Sp.edgeL (m x : Nat) (c : Int) : List Int := (List.range m).map fun d => if d = x then c else if d = Sp.oth x then -c else 0
theorem Sp.oth_ne (x : Nat) : Sp.oth x ≠ x := by
  unfold Sp.oth
  split <;> omega
theorem Sp.FlowQ.edge {q : Sp.Net} (hev : q.tail.length % 2 = 0) (hcb : ∀ d, d < q.tail.length → 0 ≤ q.cap.getD d 0) {x : Nat} (hx : x < q.tail.length) (hn : q.tail.getD x 0 ≠ q.tail.getD (Sp.oth x) 0) :
    Sp.FlowQ q (q.tail.getD x 0) (q.tail.getD (Sp.oth x) 0) (Sp.edgeL q.tail.length x (q.cap.getD x 0)) (q.cap.getD x 0) := by
  have ho := oth_lt hx hev
  have hne := Sp.oth_ne x
  have hL : ∀ d, d < q.tail.length → (Sp.edgeL q.tail.length x (q.cap.getD x 0)).getD d 0 = if d = x then q.cap.getD x 0 else if d = Sp.oth x then -q.cap.getD x 0 else 0 := fun d hd => Sp.rowD (D := fun d => if d = x then q.cap.getD x 0 else if d = Sp.oth x then -q.cap.getD x 0 else 0) hd
  have hS : ∀ u, Sp.sumN (fun d => if q.tail.getD d 0 = u then (Sp.edgeL q.tail.length x (q.cap.getD x 0)).getD d 0 else 0) q.tail.length = (if q.tail.getD x 0 = u then q.cap.getD x 0 else 0) + (if q.tail.getD (Sp.oth x) 0 = u then -q.cap.getD x 0 else 0) := fun u => by
    have e : Sp.sumN (fun d => if q.tail.getD d 0 = u then (Sp.edgeL q.tail.length x (q.cap.getD x 0)).getD d 0 else 0) q.tail.length = Sp.sumN (fun d => (if d = x then (if q.tail.getD x 0 = u then q.cap.getD x 0 else 0) else 0) + (if d = Sp.oth x then (if q.tail.getD (Sp.oth x) 0 = u then -q.cap.getD x 0 else 0) else 0)) q.tail.length :=
      Sp.sumN_congr _ fun d hd => by
        rw [hL d hd]
        by_cases e1 : d = x
        · subst e1
          rw [if_pos rfl, if_pos rfl, if_neg (show ¬ d = Sp.oth d from fun k => hne k.symm)]
          omega
        · by_cases e2 : d = Sp.oth x
          · subst e2
            rw [if_neg (show ¬ Sp.oth x = x from hne), if_pos rfl, if_neg (show ¬ Sp.oth x = x from hne), if_pos rfl]
            omega
          · rw [if_neg e1, if_neg e2, if_neg e1, if_neg e2, ite_self]
            omega
    rw [e, Sp.sumN_add, Sp.sumN_one, Sp.sumN_one, if_pos hx, if_pos ho]
  refine ⟨by unfold Sp.edgeL; rw [List.length_map, List.length_range], fun d hd => ?_, fun d hd => ?_, ?_, ?_, fun u us ut => ?_⟩
  · rw [hL d hd, hL _ (oth_lt hd hev)]
    by_cases e1 : d = x
    · subst e1
      rw [if_neg hne, if_pos rfl, if_pos rfl]
    · by_cases e2 : d = Sp.oth x
      · subst e2
        rw [oth_oth, if_pos rfl, if_neg hne, if_pos rfl]
        omega
      · have e3 : Sp.oth d ≠ x := fun k => e2 (by rw [← k, oth_oth])
        have e4 : Sp.oth d ≠ Sp.oth x := fun k => e1 (oth_inj k)
        rw [if_neg e3, if_neg e4, if_neg e1, if_neg e2]
        rfl
  · rw [hL d hd]
    have h1 := hcb d hd
    have h2 := hcb x hx
    by_cases e1 : d = x
    · subst e1; rw [if_pos rfl]; omega
    · rw [if_neg e1]
      split <;> omega
  · rw [hS, if_pos rfl, if_neg (fun k => hn k.symm)]
    omega
  · rw [hS, if_neg hn, if_pos rfl]
    omega
  · rw [hS, if_neg (fun k => us k.symm), if_neg (fun k => ut k.symm)]
    rfl
/-- The cells of a row. -/
theorem Ints.at_ {w : World} {a : Option Addr} {n c : Nat} {l : List Int} (h : Ints w (.slice a n c) l) : ∀ k, k < l.length → ∃ b o, a = some ⟨b, o, none⟩ ∧ b < w.heap.size ∧ ∀ w', Below w.heap.size w w' → w'.cell? ⟨b, o + k, none⟩ = some (.int .i64 (l.getD k 0)) := fun k hk => by
  obtain ⟨a', c', e, -, -, hA⟩ := h.allA
  injection e with e1 e2 e3
  subst e1
  exact unhide hA k hk
end Go.Proofs.Ytoegjnolccabjaa


/- The reference's reach (chapter 9): what is reached along what is left. -/
namespace Go.Proofs.Ytoegjnolccabjaa
open Go Go.RowKit

/-- The world of reach: the row of truths in G1, the darts in G2, the row of those that were found. -/
structure RcW (B0 : Nat) (W1 wr : World) (N G1 G2 : Nat) (qv : Value) (Q : List Int) (B : Nat → Bool) (Y : Nat → Int) : Prop where
  bel : Below B0 W1 wr
  rb : RowB wr G1 N B
  ry : RowAt wr G2 N Y
  qo : OwnI wr (G2 + 1) qv Q
theorem RcW.below {B0 : Nat} {W1 wr w' : World} {N G1 G2 : Nat} {qv : Value} {Q : List Int} {B : Nat → Bool} {Y : Nat → Int} (h : RcW B0 W1 wr N G1 G2 qv Q B Y) (h0 : B0 ≤ G1) (hb : Below wr.heap.size wr w') : RcW B0 W1 w' N G1 G2 qv Q B Y :=
  ⟨h.bel.trans (hb.mono (by have := h.rb.lt; omega)), h.rb.below hb, h.ry.below hb, own_below h.qo hb⟩
theorem RcW.app {B0 : Nat} {W1 wr w' : World} {N G1 G2 : Nat} {qv qv' : Value} {Q Q' : List Int} {B : Nat → Bool} {Y : Nat → Int} (h : RcW B0 W1 wr N G1 G2 qv Q B Y) (h1 : B0 ≤ G1) (h2 : G1 < G2) (hb : Below (G2 + 1) wr w') (hq : OwnI w' (G2 + 1) qv' Q') : RcW B0 W1 w' N G1 G2 qv' Q' B Y :=
  ⟨h.bel.trans (hb.mono (by omega)), h.rb.of_block (hb.block _ (by omega)), h.ry.of_block (hb.block _ (by omega)), hq⟩
end Go.Proofs.Ytoegjnolccabjaa


