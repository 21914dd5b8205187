/- What the proof needs, part 24. -/
import Derived.Test.YtoegjnolccabjabL23
/- Where the program finds each vertex's darts one round, and only there, so does the reference. -/
namespace Go.Proofs.Ytoegjnolccabjab
open Go Go.RowKit

/-- Onto is one to one. -/
theorem onto_inj {L : Nat} {f : Nat → Nat} (ho : ∀ x, x < L → ∃ y, y < L ∧ f y = x) {i j : Nat} (hi : i < L) (hj : j < L) (e : f i = f j) : i = j := by
  apply Classical.byContradiction
  intro hne
  have hnd : ((List.range L).map fun x : Nat => (x : Int)).Nodup := by
    unfold List.Nodup
    rw [List.pairwise_map]
    refine List.Pairwise.imp (R := fun a b : Nat => a ≠ b) (fun {a b} (h : a ≠ b) (e : (a : Int) = (b : Int)) => h (by omega)) ?_
    exact List.nodup_range
  have hlen : (((List.range L).filter fun x => decide (x ≠ i)).map fun x : Nat => ((f x : Nat) : Int)).length < L := by
    rw [List.length_map]
    have h1 : ((List.range L).filter fun x => decide (x ≠ i)).length < (List.range L).length := by
      rcases Nat.lt_or_ge ((List.range L).filter fun x => decide (x ≠ i)).length (List.range L).length with h | h
      · exact h
      · have h2 := List.length_filter_le (fun x => decide (x ≠ i)) (List.range L)
        have h3 := List.length_filter_eq_length_iff.1 (Nat.le_antisymm h2 h) i (List.mem_range.2 hi)
        simp at h3
    rw [List.length_range] at h1
    exact h1
  have := nodup_sub _ (((List.range L).filter fun x => decide (x ≠ i)).map fun x : Nat => ((f x : Nat) : Int)) hnd (fun x hx => by
    obtain ⟨k, hk, rfl⟩ := List.mem_map.1 hx
    obtain ⟨y, hy, ey⟩ := ho k (List.mem_range.1 hk)
    by_cases hyi : y = i
    · exact List.mem_map.2 ⟨j, List.mem_filter.2 ⟨List.mem_range.2 hj, decide_eq_true (fun h => hne h.symm)⟩, by rw [← e, ← hyi, ey]⟩
    · exact List.mem_map.2 ⟨y, List.mem_filter.2 ⟨List.mem_range.2 hy, decide_eq_true hyi⟩, by rw [ey]⟩)
  rw [List.length_map, List.length_range] at this
  omega
theorem perm_of_onto {st : List Int} (hx : ∀ x ∈ st, 0 ≤ x ∧ x < (st.length : Int)) (ho : ∀ x, x < st.length → ∃ y, y < st.length ∧ Sp.fn st y = x) : Sp.Perm st := by
  refine ⟨hx, fun i j hi hj e => onto_inj ho hi hj ?_⟩
  unfold Sp.fn
  rw [e]
/-- Each of a row has one of it ahead. -/
def Sp.Led (st row : List Int) : Prop := ∀ x ∈ row, ∃ y : Nat, (y : Int) ∈ row ∧ y < st.length ∧ st.getD y 0 = x
theorem Sp.walkR_led {st : List Int} (hx : ∀ x ∈ st, 0 ≤ x ∧ x < (st.length : Int)) (least : Int) : ∀ f (d : Int) row row', 0 ≤ d → d < (st.length : Int) →
    (∀ x ∈ row, (0 ≤ x ∧ x < (st.length : Int)) ∧ (x = least ∨ ∃ y : Nat, (y : Int) ∈ row ∧ y < st.length ∧ st.getD y 0 = x)) → (d = least ∨ ∃ y : Nat, (y : Int) ∈ row ∧ y < st.length ∧ st.getD y 0 = d) → (d = least → least ∈ row → ∃ y : Nat, (y : Int) ∈ row ∧ y < st.length ∧ st.getD y 0 = d) →
      Sp.walkR st least f d row = some row' → Sp.Led st row' ∧ least ∈ row' ∧ ∀ x ∈ row, x ∈ row'
  | 0, d, row, row', _, _, _, _, _, h => by simp [Sp.walkR] at h
  | f + 1, d, row, row', h0, h1, hr, hd, hl, h => by
    rw [Sp.walkR] at h
    by_cases hm : d ∈ row
    · rw [if_pos hm] at h
      by_cases he : d = least
      · rw [if_pos he] at h
        cases h
        refine ⟨fun x hx' => ?_, he ▸ hm, fun _ hx' => hx'⟩
        rcases (hr x hx').2 with e | e
        · rw [e, ← he]; exact hl he (he ▸ hm)
        · exact e
      · rw [if_neg he] at h
        cases h
    · rw [if_neg hm] at h
      have hdl : d.toNat < st.length := by omega
      have hdd : ((d.toNat : Nat) : Int) = d := by omega
      have hb := hx _ (Sp.getD_mem hdl)
      have hlast : ∃ y : Nat, (y : Int) ∈ row ++ [d] ∧ y < st.length ∧ st.getD y 0 = st.getD d.toNat 0 := ⟨d.toNat, by rw [hdd]; simp, hdl, rfl⟩
      obtain ⟨r1, r2, r3⟩ := Sp.walkR_led hx least f (st.getD d.toNat 0) (row ++ [d]) row' hb.1 hb.2 (fun x hx' => by
        rcases List.mem_append.1 hx' with h2 | h2
        · refine ⟨(hr x h2).1, ?_⟩
          rcases (hr x h2).2 with e | ⟨y, e1, e2, e3⟩
          · exact .inl e
          · exact .inr ⟨y, List.mem_append_left _ e1, e2, e3⟩
        · rw [List.mem_singleton] at h2
          rw [h2]
          refine ⟨⟨h0, h1⟩, ?_⟩
          rcases hd with e | ⟨y, e1, e2, e3⟩
          · exact .inl e
          · exact .inr ⟨y, List.mem_append_left _ e1, e2, e3⟩) (.inr hlast) (fun _ _ => hlast) h
      exact ⟨r1, r2, fun x hx' => r3 x (List.mem_append_left _ hx')⟩
theorem Sp.rgo_led {st : List Int} (hx : ∀ x ∈ st, 0 ≤ x ∧ x < (st.length : Int)) : ∀ f k row ps r, k + f = st.length → Sp.Led st row → (∀ x ∈ row, 0 ≤ x ∧ x < (st.length : Int)) → (∀ i : Nat, i < k → (i : Int) ∈ row) → Sp.rgo st f k row ps = some r → Sp.Led st r.1 ∧ ∀ i : Nat, i < st.length → (i : Int) ∈ r.1
  | 0, k, row, ps, r, hk, hl, _, ha, h => by
    simp only [Sp.rgo, Option.some.injEq] at h
    subst h
    exact ⟨hl, fun i hi => ha i (by omega)⟩
  | f + 1, k, row, ps, r, hk, hl, hb, ha, h => by
    rw [Sp.rgo] at h
    by_cases hm : (k : Int) ∈ row
    · rw [if_pos hm] at h
      refine Sp.rgo_led hx f (k + 1) row ps r (by omega) hl hb (fun i hi => ?_) h
      rcases Nat.lt_or_ge i k with h1 | h1
      · exact ha i h1
      · rw [show i = k by omega]; exact hm
    · rw [if_neg hm] at h
      cases hw : Sp.walkR st k (st.length + 1 - row.length) k row with
      | none => rw [hw] at h; cases h
      | some row1 =>
        rw [hw] at h
        obtain ⟨r1, r2, r3⟩ := Sp.walkR_led hx k _ _ _ _ (by omega) (by omega) (fun x hx' => ⟨hb x hx', .inr (hl x hx')⟩) (.inl rfl) (fun _ h2 => absurd h2 hm) hw
        refine Sp.rgo_led hx f (k + 1) row1 _ r (by omega) r1 (fun x hx' => ?_) (fun i hi => ?_) h
        · obtain ⟨y, -, e2, e3⟩ := r1 x hx'
          rw [← e3]
          exact hx _ (Sp.getD_mem e2)
        · rcases Nat.lt_or_ge i k with h1 | h1
          · exact r3 _ (ha i h1)
          · rw [show i = k by omega]; exact r2
theorem Sp.rnds_perm {st : List Int} (hx : ∀ x ∈ st, 0 ≤ x ∧ x < (st.length : Int)) (h : (Sp.rnds st).isSome = true) : Sp.Perm st := by
  obtain ⟨r, hr⟩ := Option.isSome_iff_exists.1 h
  obtain ⟨h1, h2⟩ := Sp.rgo_led hx st.length 0 [] [] r (by omega) (fun x hx' => by simp at hx') (fun x hx' => by simp at hx') (fun i hi => by omega) hr
  refine perm_of_onto hx (fun x hx' => ?_)
  obtain ⟨y, -, e2, e3⟩ := h1 _ (h2 x hx')
  exact ⟨y, e2, by unfold Sp.fn; rw [e3, Int.toNat_natCast]⟩
theorem Sp.turnC_not (tl : List Int) : ∀ (c : List (List Int)) (bg : List Int), Sp.turnC tl c bg = true → ∀ r ∈ c, ¬ tl.getD (r.getD 0 0).toNat 0 ∈ bg ∧ ∀ x ∈ r, tl.getD x.toNat 0 = tl.getD (r.getD 0 0).toNat 0
  | [], _, _, r, hr => by simp at hr
  | r0 :: c, bg, h, r, hr => by
    rw [Sp.turnC] at h
    by_cases h1 : tl.getD (r0.getD 0 0).toNat 0 ∈ bg
    · rw [if_pos h1] at h; cases h
    · rw [if_neg h1] at h
      by_cases h2 : r0.all (fun d => tl.getD d.toNat 0 == tl.getD (r0.getD 0 0).toNat 0) = true
      · rw [if_pos h2] at h
        rcases List.mem_cons.1 hr with e | e
        · rw [e]
          exact ⟨h1, fun x hx => eq_of_beq (List.all_eq_true.1 h2 x hx)⟩
        · obtain ⟨a1, a2⟩ := Sp.turnC_not tl c _ h r e
          exact ⟨fun hm => a1 (List.mem_append_left _ hm), a2⟩
      · rw [if_neg h2] at h; cases h
theorem Sp.turnC_apart (tl : List Int) : ∀ (c : List (List Int)) (bg : List Int), Sp.turnC tl c bg = true → ∀ r ∈ c, ∀ r' ∈ c, tl.getD (r.getD 0 0).toNat 0 = tl.getD (r'.getD 0 0).toNat 0 → r = r'
  | [], _, _, r, hr, _, _, _ => by simp at hr
  | r0 :: c, bg, h, r, hr, r', hr', e => by
    have h0 := h
    rw [Sp.turnC] at h
    by_cases h1 : tl.getD (r0.getD 0 0).toNat 0 ∈ bg
    · rw [if_pos h1] at h; cases h
    · rw [if_neg h1] at h
      by_cases h2 : r0.all (fun d => tl.getD d.toNat 0 == tl.getD (r0.getD 0 0).toNat 0) = true
      · rw [if_pos h2] at h
        rcases List.mem_cons.1 hr with e1 | e1 <;> rcases List.mem_cons.1 hr' with e2 | e2
        · rw [e1, e2]
        · exact absurd (by rw [← e, e1]; exact List.mem_append_right _ (by simp)) (Sp.turnC_not tl c _ h r' e2).1
        · exact absurd (by rw [e, e2]; exact List.mem_append_right _ (by simp)) (Sp.turnC_not tl c _ h r e1).1
        · exact Sp.turnC_apart tl c _ h r e1 r' e2 e
      · rw [if_neg h2] at h; cases h
/-- What it means that each vertex's darts are one round. -/
theorem Sp.turning_to {q : Sp.Net} (hx : ∀ x ∈ q.next, 0 ≤ x ∧ x < (q.next.length : Int)) (h : Sp.turningB q = true) :
    Sp.Perm q.next ∧ (∀ i, i < q.next.length → q.tail.getD (Sp.fn q.next i) 0 = q.tail.getD i 0) ∧ ∀ i j, i < q.next.length → j < q.next.length → q.tail.getD i 0 = q.tail.getD j 0 → OrbF (Sp.fn q.next) i j := by
  unfold Sp.turningB at h
  rw [Bool.and_eq_true] at h
  have hp := Sp.rnds_perm hx h.2
  have h1 := h.1
  rw [Sp.rndsD_cyc hp] at h1
  have hc := Sp.turnGo_cyc q.tail (Sp.cycs q.next) [] [] (fun r hr => by
    obtain ⟨e, he, rfl⟩ := Sp.cyc_pos hp _ 0 [] (by omega) r hr
    exact (rounds_head hp he).2)
  rw [List.nil_append] at hc
  have h2 : Sp.turnC q.tail (Sp.cycs q.next) [] = true := by rw [← hc]; exact h1
  have hin : ∀ i : Nat, i < q.next.length → ∃ e : Nat, e < q.next.length ∧ Sp.rounds q.next e (Sp.per q.next e) ∈ Sp.cycs q.next ∧ OrbF (Sp.fn q.next) e i ∧ q.tail.getD i 0 = q.tail.getD e 0 := fun i hi => by
    rcases Sp.cyc_all hp q.next.length 0 [] (by omega) (fun i hi => by omega) i hi with h3 | ⟨r, h3, h4⟩
    · simp at h3
    · obtain ⟨e, he, rfl⟩ := Sp.cyc_pos hp _ 0 [] (by omega) r h3
      have h5 := (Sp.turnC_not q.tail _ _ h2 _ h3).2 _ h4
      rw [(rounds_head hp he).1, Int.toNat_natCast, Int.toNat_natCast] at h5
      obtain ⟨j, ej, o⟩ := (hp.mem_rounds he _).1 h4
      have : i = j := by omega
      subst this
      exact ⟨e, he, h3, o, h5⟩
  refine ⟨hp, fun i hi => ?_, fun i j hi hj e => ?_⟩
  · obtain ⟨a, ha, ham, hao, hat⟩ := hin i hi
    have hm : ((Sp.fn q.next i : Nat) : Int) ∈ Sp.rounds q.next a (Sp.per q.next a) := (hp.mem_rounds ha _).2 ⟨_, rfl, hao.trans (OrbF.one _ _)⟩
    have h5 := (Sp.turnC_not q.tail _ _ h2 _ ham).2 _ hm
    rw [(rounds_head hp ha).1, Int.toNat_natCast, Int.toNat_natCast] at h5
    rw [h5, hat]
  · obtain ⟨a, ha, ham, hao, hat⟩ := hin i hi
    obtain ⟨b, hb, hbm, hbo, hbt⟩ := hin j hj
    have h5 := Sp.turnC_apart q.tail _ _ h2 _ ham _ hbm (by rw [(rounds_head hp ha).1, (rounds_head hp hb).1, Int.toNat_natCast, Int.toNat_natCast, ← hat, ← hbt, e])
    have hm : (b : Int) ∈ Sp.rounds q.next a (Sp.per q.next a) := by rw [h5]; exact (hp.mem_rounds hb _).2 ⟨b, rfl, OrbF.refl _ _⟩
    obtain ⟨b', eb, o⟩ := (hp.mem_rounds ha _).1 hm
    have : b = b' := by omega
    subst this
    exact ((hp.sym ha hao).trans o).trans hbo
/-- How far the reference goes from a dart. -/
structure K2 (st : List Int) (d k : Nat) : Prop where
  pos : 1 ≤ k
  le : k ≤ st.length + 1
  no : ∀ m, 1 ≤ m → m < k → Sp.nth st d m ≠ d
  hit : k ≤ st.length → Sp.nth st d k = d
theorem K2.per {st : List Int} {d k : Nat} (h : K2 st d k) (hp : Sp.Perm st) (hd : d < st.length) : k = Sp.per st d := by
  obtain ⟨p1, p2, p3, p4⟩ := hp.per hd
  rcases Nat.lt_trichotomy k (Sp.per st d) with h1 | h1 | h1
  · exact absurd (h.hit (by omega)) (p4 k (by have := h.pos; omega) h1)
  · exact h1
  · exact absurd p3 (h.no _ p1 h1)
theorem per_cnt {st tl : List Int} (hp : Sp.Perm st) (hT : ∀ i, i < st.length → tl.getD (Sp.fn st i) 0 = tl.getD i 0) (hS : ∀ i j, i < st.length → j < st.length → tl.getD i 0 = tl.getD j 0 → OrbF (Sp.fn st) i j) {d : Nat} (hd : d < st.length) : Sp.per st d = Sp.cnt (fun i => decide (tl.getD i 0 = tl.getD d 0)) st.length := by
  have hT' : ∀ m, tl.getD (itf (Sp.fn st) d m) 0 = tl.getD d 0 := fun m => by
    induction m with
    | zero => rfl
    | succ m ih => exact (hT _ (hp.fnP.it hd m)).trans ih
  have hmem : ∀ i : Nat, (i : Int) ∈ Sp.rounds st d (Sp.per st d) ↔ i < st.length ∧ tl.getD i 0 = tl.getD d 0 := fun i => by
    constructor
    · intro h
      obtain ⟨j, e, m, rfl⟩ := (hp.mem_rounds hd _).1 h
      have : i = itf (Sp.fn st) d m := by omega
      rw [this]
      exact ⟨hp.fnP.it hd m, hT' m⟩
    · intro ⟨h1, h2⟩
      exact (hp.mem_rounds hd _).2 ⟨i, rfl, hS d i hd h1 h2.symm⟩
  have hnd : (((List.range st.length).filter fun i => decide (tl.getD i 0 = tl.getD d 0)).map fun i : Nat => (i : Int)).Nodup := by
    unfold List.Nodup
    rw [List.pairwise_map]
    refine List.Pairwise.imp (R := fun a b : Nat => a ≠ b) (fun {a b} (h : a ≠ b) (e : (a : Int) = (b : Int)) => h (by omega)) ?_
    exact List.Pairwise.filter _ List.nodup_range
  have hlen : (((List.range st.length).filter fun i => decide (tl.getD i 0 = tl.getD d 0)).map fun i : Nat => (i : Int)).length = Sp.cnt (fun i => decide (tl.getD i 0 = tl.getD d 0)) st.length := by
    rw [List.length_map]; rfl
  have h1 := nodup_sub _ _ (Sp.rounds_nodup hp hd) (fun y hy => by
    obtain ⟨j, rfl, o⟩ := (hp.mem_rounds hd y).1 hy
    have := (hmem j).1 hy
    exact List.mem_map.2 ⟨j, List.mem_filter.2 ⟨List.mem_range.2 this.1, decide_eq_true this.2⟩, rfl⟩)
  have h2 := nodup_sub _ _ hnd (fun y hy => by
    obtain ⟨j, hj, rfl⟩ := List.mem_map.1 hy
    obtain ⟨a, b⟩ := List.mem_filter.1 hj
    exact (hmem j).2 ⟨List.mem_range.1 a, of_decide_eq_true b⟩)
  rw [hlen, Sp.rounds_len] at h1 h2
  omega
/-- What the reference looked at tells it. -/
theorem Sp.turning_by {q : Sp.Net} (hx : ∀ x ∈ q.next, 0 ≤ x ∧ x < (q.next.length : Int)) (hT : ∀ i, i < q.next.length → q.tail.getD (Sp.fn q.next i) 0 = q.tail.getD i 0)
    (hK : ∀ d, d < q.next.length → K2 q.next d (Sp.cnt (fun i => decide (q.tail.getD i 0 = q.tail.getD d 0)) q.next.length)) : Sp.turningB q = true := by
  have hback : ∀ d, d < q.next.length → Sp.nth q.next d (Sp.cnt (fun i => decide (q.tail.getD i 0 = q.tail.getD d 0)) q.next.length) = d := fun d hd => (hK d hd).hit (Sp.cnt_le _ _)
  have hp : Sp.Perm q.next := perm_of_onto hx (fun d hd => by
    have h1 := (hK d hd).pos
    have h2 := hback d hd
    generalize Sp.cnt (fun i => decide (q.tail.getD i 0 = q.tail.getD d 0)) q.next.length = k at h1 h2
    have hb := Sp.nth_bd (d := (d : Int)) rfl hx (by omega) (by omega) (k - 1)
    refine ⟨(Sp.nth q.next d (k - 1)).toNat, by omega, ?_⟩
    have e : Sp.nth q.next d (k - 1 + 1) = (d : Int) := by rw [show k - 1 + 1 = k by omega]; exact h2
    have e2 : q.next.getD (Sp.nth q.next d (k - 1)).toNat 0 = (d : Int) := e
    unfold Sp.fn
    rw [e2, Int.toNat_natCast])
  have hT' : ∀ d, d < q.next.length → ∀ m, q.tail.getD (itf (Sp.fn q.next) d m) 0 = q.tail.getD d 0 := fun d hd m => by
    induction m with
    | zero => rfl
    | succ m ih => exact (hT _ (hp.fnP.it hd m)).trans ih
  refine Sp.turning_of hp hT (fun i j hi hj e => ?_)
  -- the round has as many places as bear its tail: all of them
  have hper : Sp.per q.next i = Sp.cnt (fun x => decide (q.tail.getD x 0 = q.tail.getD i 0)) q.next.length := ((hK i hi).per hp hi).symm
  apply Classical.byContradiction
  intro hno
  have hnj : ¬ (j : Int) ∈ Sp.rounds q.next i (Sp.per q.next i) := fun hm => by
    obtain ⟨j', ej, o⟩ := (hp.mem_rounds hi _).1 hm
    have : j = j' := by omega
    subst this
    exact hno o
  have hnd : ((j : Int) :: Sp.rounds q.next i (Sp.per q.next i)).Nodup := by
    rw [List.nodup_cons]
    exact ⟨hnj, Sp.rounds_nodup hp hi⟩
  have h1 := nodup_sub _ (((List.range q.next.length).filter fun x => decide (q.tail.getD x 0 = q.tail.getD i 0)).map fun x : Nat => (x : Int)) hnd (fun y hy => by
    rcases List.mem_cons.1 hy with e1 | e1
    · exact List.mem_map.2 ⟨j, List.mem_filter.2 ⟨List.mem_range.2 hj, decide_eq_true e.symm⟩, e1.symm⟩
    · obtain ⟨m', rfl, m, rfl⟩ := (hp.mem_rounds hi y).1 e1
      exact List.mem_map.2 ⟨_, List.mem_filter.2 ⟨List.mem_range.2 (hp.fnP.it hi m), decide_eq_true (hT' i hi m)⟩, rfl⟩)
  rw [List.length_cons, Sp.rounds_len, List.length_map] at h1
  unfold Sp.cnt at hper
  omega
end Go.Proofs.Ytoegjnolccabjab


/- The walk of the second reference's turns. -/
namespace Go.Proofs.Ytoegjnolccabjab
open Go Go.RowKit

theorem Ints.cellF {w : World} {b o n c : Nat} {l : List Int} (h : Ints w (.slice (some ⟨b, o, none⟩) n c) l) (k : Nat) (hk : k < l.length) : w.cell? ⟨b, o + k, none⟩ = some (.int .i64 (l.getD k 0)) := by
  obtain ⟨a, c', e, -, -, h3⟩ := h.all
  injection e with e1 e2 e3
  obtain ⟨b', o', e4, -, h5⟩ := unhide h3 k hk
  rw [← e1] at e4
  injection e4 with e4
  injection e4 with e5 e6
  subst e5 e6
  rw [Sp.getD_eq _ _ hk]
  exact h5 w (Below.refl _ _)
theorem Ints.openF {w : World} {v : Value} {l : List Int} (h : Ints w v l) (hl : 0 < l.length) : ∃ b o c, v = .slice (some ⟨b, o, none⟩) l.length c := by
  obtain ⟨a, c, e, -, -, h3⟩ := h.all
  obtain ⟨b, o, e4, -, -⟩ := unhide h3 0 hl
  exact ⟨b, o, c, by rw [e, e4]⟩
set_option maxRecDepth 100000 in
set_option maxHeartbeats 4000000 in
theorem turns2_any (q : Sp.Net) (v tv nv cv : Value) (w : World) (hv : NetI w v q tv nv cv) (hw : Sp.walkB q = true) :
    Calls Try.prog 27 #[v] w fun e w' => e = .returned (.bool (Sp.turningB q)) ∧ Below w.heap.size w w' := by
  have hq := walkQ hw
  have hv' := hv
  obtain ⟨rfl, h1, h2, h3⟩ := hv
  obtain ⟨ta, tc, rfl, htc, htm⟩ := h1.form
  obtain ⟨na, nc, hnv, hnc, hnm⟩ := h2.form
  obtain ⟨ca, cc, rfl, -, -⟩ := h3.form
  clear h1 h2 h3
  obtain ⟨ln, hln⟩ : ∃ ln, q.tail.length = ln := ⟨_, rfl⟩
  have hnl : q.next.length = ln := by rw [hq.nx, hln]
  rw [hnl] at hnv hnc
  rw [hln] at htc
  subst hnv
  rw [hln] at hv' ⊢
  have HBX := hide (box_new w q.n (.slice ta ln tc) (.slice na ln nc) (.slice ca q.cap.length cc))
  obtain ⟨W1, hW1⟩ : ∃ W1, W1 = w.alloc (.cells #[.int .i64 q.n, .slice ta ln tc, .slice na ln nc, .slice ca q.cap.length cc] 26) := ⟨_, rfl⟩
  rw [← hW1] at HBX
  have hb1 : Below w.heap.size w W1 := by rw [hW1]; exact (Below.refl _ w).alloc (Nat.le_refl _) _
  have HW : Hid (∀ w', Below (w.heap.size + 1) W1 w' → Below w.heap.size w w') := hide fun w' hb => hb1.trans (hb.mono (by omega))
  have HTi : Hid (∀ w', Below (w.heap.size + 1) W1 w' → Ints w' (.slice ta ln tc) q.tail ∧ Ints w' (.slice na ln nc) q.next) := hide fun w' hb => by
    have hb0 := unhide HW w' hb
    exact ⟨hv'.tail.below hb0, hv'.next.below hb0⟩
  have HX := hide hq.nb
  have hb240 : ln ≤ 240 := by have := hq.big; omega
  have Hln := hide hln
  have Hnl := hide hnl
  obtain ⟨P, hP⟩ : ∃ P : Ending → World → Prop, P = fun e w' => e = .returned (.bool (Sp.turningB q)) ∧ Below w.heap.size w w' := ⟨_, rfl⟩
  rw [← hP]
  have HP := hide hP
  have HB1 : Hid (Below (w.heap.size + 1) W1 W1) := hide (Below.refl _ _)
  have HW1 := hide hW1
  clear hP hb1 hv' hq hln hnl hW1
  go_enter Try.func27, Try.ntmps27
  by_cases hz : ln = 0
  · have HTr : Hid (Sp.turningB q = true) := hide (Sp.turning_by (unhide HX) (fun i hi => by rw [unhide Hnl] at hi; omega) (fun i hi => by rw [unhide Hnl] at hi; omega))
    have Hfin := hide (unhide HW _ (unhide HB1))
    subst hz
    go_wp2_with fail
    rw [← unhide HW1]
    obtain ⟨x0, x1, x2, x3, -⟩ := unhide HBX W1 (unhide HB1)
    go_loopg [3] 0 (fun g s3 wr => g = 0 ∧ s3 = .int .i64 0 ∧ wr = W1)
    case atStart => exact ⟨rfl, rfl, rfl⟩
    case round =>
      obtain ⟨-, rfl, hwr⟩ := hrel
      subst hwr
      go_wp2_with fail
      go_loopg [4] 0 (fun g s4 wy => g = 0 ∧ s4 = .int .i64 0 ∧ wy = wr)
      case atStart => exact ⟨rfl, rfl, rfl⟩
      case round =>
        obtain ⟨-, rfl, hwr⟩ := hrel
        subst hwr
        go_wp2
        rw [unhide HP]
        exact ⟨by rw [unhide HTr]; rfl, unhide Hfin⟩
  · obtain ⟨tb, tt, rfl⟩ : ∃ tb tt, ta = some ⟨tb, tt, none⟩ := by
      obtain ⟨b, o, c', e⟩ := (unhide HTi W1 (unhide HB1)).1.openF (by rw [unhide Hln]; omega)
      injection e with e1
      exact ⟨b, o, e1⟩
    obtain ⟨nb, nt, rfl⟩ : ∃ nb nt, na = some ⟨nb, nt, none⟩ := by
      obtain ⟨b, o, c', e⟩ := (unhide HTi W1 (unhide HB1)).2.openF (by rw [unhide Hnl]; omega)
      injection e with e1
      exact ⟨b, o, e1⟩
    have HTc : Hid (∀ k w', k < ln → Below (w.heap.size + 1) W1 w' → w'.cell? ⟨tb, tt + k, none⟩ = some (.int .i64 (q.tail.getD k 0))) := hide fun k w' hk hb => (unhide HTi w' hb).1.cellF k (by rw [unhide Hln]; exact hk)
    have HNc : Hid (∀ k w', k < ln → Below (w.heap.size + 1) W1 w' → w'.cell? ⟨nb, nt + k, none⟩ = some (.int .i64 (q.next.getD k 0))) := hide fun k w' hk hb => (unhide HTi w' hb).2.cellF k (by rw [unhide Hnl]; exact hk)
    have HNb : Hid (∀ k, k < ln → ∃ y : Nat, q.next.getD k 0 = (y : Int) ∧ y < ln) := hide fun k hk => by
      have := unhide HX _ (Sp.getD_mem (l := q.next) (k := k) (by rw [unhide Hnl]; exact hk))
      rw [unhide Hnl] at this
      exact ⟨(q.next.getD k 0).toNat, by omega, by omega⟩
    clear HTi
    go_wp2_with fail
    rw [← unhide HW1]
    go_loopg [3] ln (fun g s3 wr => ∃ i : Nat, i + g = ln ∧ s3 = .int .i64 (i : Int) ∧ Hid (Below (w.heap.size + 1) W1 wr ∧ ∀ j, j < i → q.tail.getD (Sp.fn q.next j) 0 = q.tail.getD j 0))
    case atStart => exact ⟨0, by omega, rfl, hide ⟨unhide HB1, fun j hj => by omega⟩⟩
    case round =>
      obtain ⟨i, hig, rfl, HAi⟩ := hrel
      obtain ⟨x0, x1, x2, x3, -⟩ := unhide HBX wr (unhide HAi).1
      clear HB1
      cases gk with
      | succ g' =>
        have hil : i < ln := by omega
        have hiI : (i : Int) < (ln : Int) := by omega
        obtain ⟨y, hy, hyl⟩ := unhide HNb i hil
        have c1 := unhide HNc i wr hil (unhide HAi).1
        rw [hy] at c1
        have c2 := unhide HTc y wr hyl (unhide HAi).1
        have c3 := unhide HTc i wr hil (unhide HAi).1
        have hyI : (y : Int) < (ln : Int) := by omega
        have hfn : Sp.fn q.next i = y := by unfold Sp.fn; rw [hy, Int.toNat_natCast]
        by_cases hf : q.tail.getD y 0 = q.tail.getD i 0
        · have HA2 : Hid (∀ nq, Below (w.heap.size + 1) W1 (wr.drewN nq) ∧ ∀ j, j < i + 1 → q.tail.getD (Sp.fn q.next j) 0 = q.tail.getD j 0) := hide fun nq => ⟨below_dn (unhide HAi).1 nq, fun j hj => by
            rcases Nat.lt_or_ge j i with h1 | h1
            · exact (unhide HAi).2 j h1
            · rw [show j = i by omega, hfn]; exact hf⟩
          rw [hf] at c2
          have hfb : (q.tail.getD i 0 != q.tail.getD i 0) = false := by simp
          clear HAi hf hfn hy x0 x3
          generalize q.tail.getD i 0 = f1 at *
          go_wp2
          go_quiet (fail)
          have HAq := hide (unhide HA2 nq)
          clear c1 c2 c3 x1 x2 HA2
          generalize wr.drewN nq = wq at *
          go_wp2
          go_roundg g'
          case rel => exact ⟨i + 1, by omega, by go_num, HAq⟩
          case measure => omega
        · have HF : Hid (Sp.turningB q = false) := hide (by
            cases hb : Sp.turningB q with
            | false => rfl
            | true =>
              have h := (Sp.turning_to (unhide HX) hb).2.1 i (by rw [unhide Hnl]; exact hil)
              rw [hfn] at h
              exact absurd h hf)
          have hfb : (q.tail.getD y 0 != q.tail.getD i 0) = true := by rw [bne_iff_ne]; exact hf
          have Hfin := hide (fun nq => unhide HW _ (below_dn (unhide HAi).1 nq))
          clear HAi hfn hy x0 x3
          generalize q.tail.getD i 0 = f1 at *
          generalize q.tail.getD y 0 = f2 at *
          go_wp2
          go_quiet (fail)
          have HFq := hide (unhide Hfin nq)
          clear c1 c2 c3 x1 x2 Hfin
          generalize wr.drewN nq = wq at *
          go_wp2
          rw [unhide HP]
          exact ⟨by rw [unhide HF]; rfl, unhide HFq⟩
      | zero =>
        have hie : i = ln := by omega
        rw [hie] at HAi ⊢
        have HT1 := hide (unhide HAi).2
        have HBs := hide (unhide HAi).1
        clear hie hig HAi x0 x2 x3
        go_wp2_with fail
        go_loopg [4] ln (fun g s4 wr => ∃ d : Nat, d + g = ln ∧ s4 = .int .i64 (d : Int) ∧ Hid (Below (w.heap.size + 1) W1 wr ∧ ∀ d', d' < d → K2 q.next d' (Sp.cnt (fun x => decide (q.tail.getD x 0 = q.tail.getD d' 0)) q.next.length)))
        case atStart => exact ⟨0, by omega, rfl, hide ⟨unhide HBs, fun d' hd' => by omega⟩⟩
        case round =>
          obtain ⟨d, hdg, rfl, HAd⟩ := hrel
          obtain ⟨x0, x1, x2, x3, -⟩ := unhide HBX wr (unhide HAd).1
          clear HBs
          cases gk with
          | zero =>
            have hde : d = ln := by omega
            rw [hde] at HAd ⊢
            have HTr : Hid (Sp.turningB q = true) := hide (Sp.turning_by (unhide HX) (fun i hi => by rw [unhide Hnl] at hi; exact unhide HT1 i hi) (fun i hi => (unhide HAd).2 i (by rw [unhide Hnl] at hi; exact hi)))
            have Hfin := hide (unhide HW _ (unhide HAd).1)
            clear hde hdg HAd x0 x2 x3
            go_wp2
            rw [unhide HP]
            exact ⟨by rw [unhide HTr]; rfl, unhide Hfin⟩
          | succ g' =>
            have hdl : d < ln := by omega
            have hdI : (d : Int) < (ln : Int) := by omega
            have HD2 := hide (unhide HAd).2
            have HBd := hide (unhide HAd).1
            clear HAd x0 x2 x3
            go_wp2_with fail
            go_loopg [5, 6] (ln + 1) (fun g s5 s6 wr => ∃ k e : Nat, k + g = ln + 1 ∧ s6 = .int .i64 (k : Int) ∧ s5 = .int .i64 (e : Int) ∧ e < ln ∧ Hid (Below (w.heap.size + 1) W1 wr ∧ Sp.nth q.next d k = (e : Int) ∧ ∀ m, 1 ≤ m → m < k → Sp.nth q.next d m ≠ d))
            case atStart => exact ⟨0, d, by omega, rfl, rfl, hdl, hide ⟨unhide HBd, rfl, fun m h1 h2 => by omega⟩⟩
            case round =>
              obtain ⟨k, e, hkg, rfl, rfl, hel, HAk⟩ := hrel
              obtain ⟨x0, x1, x2, x3, -⟩ := unhide HBX wr (unhide HAk).1
              have HBr := hide (unhide HAk).1
              clear HBd
              cases gk with
              | zero =>
                have hke : k = ln + 1 := by omega
                have HKP : Hid (K2 q.next d k) := hide ⟨by omega, by rw [unhide Hnl]; omega, (unhide HAk).2.2, fun h => by rw [unhide Hnl] at h; omega⟩
                have hk0 : ((k : Int) == 0) = false := beq_eq_false_iff_ne.2 (by omega)
                have hk0n : ¬ (k : Int) = 0 := by omega
                have hkl : decide ((k : Int) ≤ (ln : Int)) = false := decide_eq_false (by omega)
                have hkln : ¬ (k : Int) ≤ (ln : Int) := by omega
                have hkln2 : ¬ k ≤ ln := by omega
                have hkgt : ln < k := by omega
                clear hke hkg HAk x0 x2 x3
                by_cases hed : e = d
                · have heb : ((e : Int) != (d : Int)) = false := by rw [hed]; simp
                  have hC0 : Sp.cnt (fun x => decide (q.tail.getD x 0 = q.tail.getD d 0)) 0 = 0 := rfl
                  have HC0 := hide hC0
                  have HCs := hide (fun i => Sp.cnt_succ (fun x => decide (q.tail.getD x 0 = q.tail.getD d 0)) i)
                  have HCl := hide (fun i => Sp.cnt_le (fun x => decide (q.tail.getD x 0 = q.tail.getD d 0)) i)
                  have HKc : Hid (Sp.turningB q = true → k = Sp.cnt (fun x => decide (q.tail.getD x 0 = q.tail.getD d 0)) ln) := hide fun h => by
                    obtain ⟨hp, hT, hS⟩ := Sp.turning_to (unhide HX) h
                    have hdn : d < q.next.length := by rw [unhide Hnl]; exact hdl
                    rw [(unhide HKP).per hp hdn, per_cnt hp hT hS hdn, unhide Hnl]
                  have HK2d : Hid (k = Sp.cnt (fun x => decide (q.tail.getD x 0 = q.tail.getD d 0)) ln → K2 q.next d (Sp.cnt (fun x => decide (q.tail.getD x 0 = q.tail.getD d 0)) ln)) := hide fun h => by rw [← h]; exact unhide HKP
                  have hk241 : k ≤ 241 := by have := (unhide HKP).le; rw [unhide Hnl] at this; omega
                  obtain ⟨C, hCe⟩ : ∃ C, Sp.cnt (fun x => decide (q.tail.getD x 0 = q.tail.getD d 0)) = C := ⟨_, rfl⟩
                  have HCe : Hid (C = Sp.cnt (fun x => decide (q.tail.getD x 0 = q.tail.getD d 0))) := hide hCe.symm
                  rw [hCe] at HC0 HCs HCl HKc HK2d
                  clear hCe
                  clear hC0 HKP
                  go_wp2_with fail
                  go_loopg [7, 8] ln (fun g s7 s8 wr => ∃ i : Nat, i + g = ln ∧ s8 = .int .i64 (i : Int) ∧ s7 = .int .i64 ((C i : Nat) : Int) ∧ Hid (Below (w.heap.size + 1) W1 wr))
                  case atStart => exact ⟨0, by omega, rfl, by rw [unhide HC0]; rfl, HBr⟩
                  case round =>
                    obtain ⟨i, hig, rfl, rfl, HBi⟩ := hrel
                    clear HBr
                    obtain ⟨x0, x1, x2, x3, -⟩ := unhide HBX wr (unhide HBi)
                    cases gk with
                    | succ g3 =>
                      have hil : i < ln := by omega
                      have hiI : (i : Int) < (ln : Int) := by omega
                      have c1 := unhide HTc i wr hil (unhide HBi)
                      have c2 := unhide HTc d wr hdl (unhide HBi)
                      have hs := unhide HCs i
                      have hl := unhide HCl i
                      have HB2 := hide (fun nq => below_dn (unhide HBi) nq)
                      clear HBi x0 x2 x3
                      generalize q.tail.getD i 0 = f1 at *
                      generalize q.tail.getD d 0 = f2 at *
                      generalize hci : C i = ci at *
                      by_cases hf : f1 = f2
                      · subst hf
                        have hfb : (f1 == f1) = true := beq_self_eq_true _
                        have HS : Hid (C (i + 1) = ci + 1) := hide (by rw [hs, if_pos (decide_eq_true rfl)])
                        clear hs hci
                        go_wp2
                        go_quiet (fail)
                        have HBq := hide (unhide HB2 nq)
                        clear c1 c2 x1 HB2
                        generalize wr.drewN nq = wq at *
                        go_wp2
                        go_roundg g3
                        case rel => exact ⟨i + 1, by omega, by go_num, by rw [unhide HS]; go_num, HBq⟩
                        case measure => omega
                      · have hfb : (f1 == f2) = false := beq_eq_false_iff_ne.2 hf
                        have HS : Hid (C (i + 1) = ci) := hide (by rw [hs, if_neg (by rw [decide_eq_true_eq]; exact hf)]; rfl)
                        clear hs hci
                        go_wp2
                        go_quiet (fail)
                        have HBq := hide (unhide HB2 nq)
                        clear c1 c2 x1 HB2
                        generalize wr.drewN nq = wq at *
                        go_wp2
                        go_roundg g3
                        case rel => exact ⟨i + 1, by omega, by go_num, by rw [unhide HS], HBq⟩
                        case measure => omega
                    | zero =>
                      have hie : i = ln := by omega
                      rw [hie]
                      have hCl := unhide HCl ln
                      clear hie hig HC0 HCs HCl x0 x2 x3
                      by_cases hkc : k = C ln
                      · exact absurd hkc (by omega)
                      · have hkb : ((k : Int) != ((C ln : Nat) : Int)) = true := by rw [bne_iff_ne]; omega
                        have HF : Hid (Sp.turningB q = false) := hide (by
                          cases hb : Sp.turningB q with
                          | false => rfl
                          | true => exact absurd (unhide HKc hb) hkc)
                        have Hfin := hide (unhide HW _ (unhide HBi))
                        clear HK2d HKc
                        go_wp2
                        rw [unhide HP]
                        exact ⟨by rw [unhide HF]; rfl, unhide Hfin⟩
                · have heb : ((e : Int) != (d : Int)) = true := by rw [bne_iff_ne]; omega
                  have hC0 : Sp.cnt (fun x => decide (q.tail.getD x 0 = q.tail.getD d 0)) 0 = 0 := rfl
                  have HC0 := hide hC0
                  have HCs := hide (fun i => Sp.cnt_succ (fun x => decide (q.tail.getD x 0 = q.tail.getD d 0)) i)
                  have HCl := hide (fun i => Sp.cnt_le (fun x => decide (q.tail.getD x 0 = q.tail.getD d 0)) i)
                  have HKc : Hid (Sp.turningB q = true → k = Sp.cnt (fun x => decide (q.tail.getD x 0 = q.tail.getD d 0)) ln) := hide fun h => by
                    obtain ⟨hp, hT, hS⟩ := Sp.turning_to (unhide HX) h
                    have hdn : d < q.next.length := by rw [unhide Hnl]; exact hdl
                    rw [(unhide HKP).per hp hdn, per_cnt hp hT hS hdn, unhide Hnl]
                  have HK2d : Hid (k = Sp.cnt (fun x => decide (q.tail.getD x 0 = q.tail.getD d 0)) ln → K2 q.next d (Sp.cnt (fun x => decide (q.tail.getD x 0 = q.tail.getD d 0)) ln)) := hide fun h => by rw [← h]; exact unhide HKP
                  have hk241 : k ≤ 241 := by have := (unhide HKP).le; rw [unhide Hnl] at this; omega
                  obtain ⟨C, hCe⟩ : ∃ C, Sp.cnt (fun x => decide (q.tail.getD x 0 = q.tail.getD d 0)) = C := ⟨_, rfl⟩
                  have HCe : Hid (C = Sp.cnt (fun x => decide (q.tail.getD x 0 = q.tail.getD d 0))) := hide hCe.symm
                  rw [hCe] at HC0 HCs HCl HKc HK2d
                  clear hCe
                  clear hC0 HKP
                  go_wp2_with fail
                  go_loopg [7, 8] ln (fun g s7 s8 wr => ∃ i : Nat, i + g = ln ∧ s8 = .int .i64 (i : Int) ∧ s7 = .int .i64 ((C i : Nat) : Int) ∧ Hid (Below (w.heap.size + 1) W1 wr))
                  case atStart => exact ⟨0, by omega, rfl, by rw [unhide HC0]; rfl, HBr⟩
                  case round =>
                    obtain ⟨i, hig, rfl, rfl, HBi⟩ := hrel
                    clear HBr
                    obtain ⟨x0, x1, x2, x3, -⟩ := unhide HBX wr (unhide HBi)
                    cases gk with
                    | succ g3 =>
                      have hil : i < ln := by omega
                      have hiI : (i : Int) < (ln : Int) := by omega
                      have c1 := unhide HTc i wr hil (unhide HBi)
                      have c2 := unhide HTc d wr hdl (unhide HBi)
                      have hs := unhide HCs i
                      have hl := unhide HCl i
                      have HB2 := hide (fun nq => below_dn (unhide HBi) nq)
                      clear HBi x0 x2 x3
                      generalize q.tail.getD i 0 = f1 at *
                      generalize q.tail.getD d 0 = f2 at *
                      generalize hci : C i = ci at *
                      by_cases hf : f1 = f2
                      · subst hf
                        have hfb : (f1 == f1) = true := beq_self_eq_true _
                        have HS : Hid (C (i + 1) = ci + 1) := hide (by rw [hs, if_pos (decide_eq_true rfl)])
                        clear hs hci
                        go_wp2
                        go_quiet (fail)
                        have HBq := hide (unhide HB2 nq)
                        clear c1 c2 x1 HB2
                        generalize wr.drewN nq = wq at *
                        go_wp2
                        go_roundg g3
                        case rel => exact ⟨i + 1, by omega, by go_num, by rw [unhide HS]; go_num, HBq⟩
                        case measure => omega
                      · have hfb : (f1 == f2) = false := beq_eq_false_iff_ne.2 hf
                        have HS : Hid (C (i + 1) = ci) := hide (by rw [hs, if_neg (by rw [decide_eq_true_eq]; exact hf)]; rfl)
                        clear hs hci
                        go_wp2
                        go_quiet (fail)
                        have HBq := hide (unhide HB2 nq)
                        clear c1 c2 x1 HB2
                        generalize wr.drewN nq = wq at *
                        go_wp2
                        go_roundg g3
                        case rel => exact ⟨i + 1, by omega, by go_num, by rw [unhide HS], HBq⟩
                        case measure => omega
                    | zero =>
                      have hie : i = ln := by omega
                      rw [hie]
                      have hCl := unhide HCl ln
                      clear hie hig HC0 HCs HCl x0 x2 x3
                      by_cases hkc : k = C ln
                      · exact absurd hkc (by omega)
                      · have hkb : ((k : Int) != ((C ln : Nat) : Int)) = true := by rw [bne_iff_ne]; omega
                        have HF : Hid (Sp.turningB q = false) := hide (by
                          cases hb : Sp.turningB q with
                          | false => rfl
                          | true => exact absurd (unhide HKc hb) hkc)
                        have Hfin := hide (unhide HW _ (unhide HBi))
                        clear HK2d HKc
                        go_wp2
                        rw [unhide HP]
                        exact ⟨by rw [unhide HF]; rfl, unhide Hfin⟩
              | succ g2 =>
                have hkl : decide ((k : Int) ≤ (ln : Int)) = true := decide_eq_true (by omega)
                have hklI : (k : Int) ≤ (ln : Int) := by omega
                by_cases hk0 : k = 0
                · have hk0b : ((k : Int) == 0) = true := beq_iff_eq.2 (by omega)
                  obtain ⟨y, hy, hyl⟩ := unhide HNb e hel
                  have c1 := unhide HNc e wr hel (unhide HAk).1
                  rw [hy] at c1
                  have heI : (e : Int) < (ln : Int) := by omega
                  have HA2 : Hid (Below (w.heap.size + 1) W1 wr ∧ Sp.nth q.next d (k + 1) = (y : Int) ∧ ∀ m, 1 ≤ m → m < k + 1 → Sp.nth q.next d m ≠ d) := hide ⟨(unhide HAk).1, by
                    show q.next.getD (Sp.nth q.next d k).toNat 0 = _
                    rw [(unhide HAk).2.1, Int.toNat_natCast, hy], fun m h1 h2 => by
                    rcases Nat.lt_or_ge m k with h3 | h3
                    · exact (unhide HAk).2.2 m h1 h3
                    · have hmk : m = k := by omega
                      rw [hmk, (unhide HAk).2.1]
                      omega⟩
                  clear HAk hy x0 x3
                  go_wp2
                  go_roundg g2
                  case rel => exact ⟨k + 1, y, by omega, by go_num, rfl, hyl, HA2⟩
                  case measure => omega
                · have hk0b : ((k : Int) == 0) = false := beq_eq_false_iff_ne.2 (by omega)
                  have hk0n : ¬ (k : Int) = 0 := by omega
                  by_cases hed : e = d
                  · have heb : ((e : Int) != (d : Int)) = false := by rw [hed]; simp
                    have HKP : Hid (K2 q.next d k) := hide ⟨by omega, by rw [unhide Hnl]; omega, (unhide HAk).2.2, fun _ => by rw [(unhide HAk).2.1, hed]⟩
                    clear hkg HAk x0 x2 x3
                    have hC0 : Sp.cnt (fun x => decide (q.tail.getD x 0 = q.tail.getD d 0)) 0 = 0 := rfl
                    have HC0 := hide hC0
                    have HCs := hide (fun i => Sp.cnt_succ (fun x => decide (q.tail.getD x 0 = q.tail.getD d 0)) i)
                    have HCl := hide (fun i => Sp.cnt_le (fun x => decide (q.tail.getD x 0 = q.tail.getD d 0)) i)
                    have HKc : Hid (Sp.turningB q = true → k = Sp.cnt (fun x => decide (q.tail.getD x 0 = q.tail.getD d 0)) ln) := hide fun h => by
                      obtain ⟨hp, hT, hS⟩ := Sp.turning_to (unhide HX) h
                      have hdn : d < q.next.length := by rw [unhide Hnl]; exact hdl
                      rw [(unhide HKP).per hp hdn, per_cnt hp hT hS hdn, unhide Hnl]
                    have HK2d : Hid (k = Sp.cnt (fun x => decide (q.tail.getD x 0 = q.tail.getD d 0)) ln → K2 q.next d (Sp.cnt (fun x => decide (q.tail.getD x 0 = q.tail.getD d 0)) ln)) := hide fun h => by rw [← h]; exact unhide HKP
                    have hk241 : k ≤ 241 := by have := (unhide HKP).le; rw [unhide Hnl] at this; omega
                    obtain ⟨C, hCe⟩ : ∃ C, Sp.cnt (fun x => decide (q.tail.getD x 0 = q.tail.getD d 0)) = C := ⟨_, rfl⟩
                    have HCe : Hid (C = Sp.cnt (fun x => decide (q.tail.getD x 0 = q.tail.getD d 0))) := hide hCe.symm
                    rw [hCe] at HC0 HCs HCl HKc HK2d
                    clear hCe
                    clear hC0 HKP
                    go_wp2_with fail
                    go_loopg [7, 8] ln (fun g s7 s8 wr => ∃ i : Nat, i + g = ln ∧ s8 = .int .i64 (i : Int) ∧ s7 = .int .i64 ((C i : Nat) : Int) ∧ Hid (Below (w.heap.size + 1) W1 wr))
                    case atStart => exact ⟨0, by omega, rfl, by rw [unhide HC0]; rfl, HBr⟩
                    case round =>
                      obtain ⟨i, hig, rfl, rfl, HBi⟩ := hrel
                      clear HBr
                      obtain ⟨x0, x1, x2, x3, -⟩ := unhide HBX wr (unhide HBi)
                      cases gk with
                      | succ g3 =>
                        have hil : i < ln := by omega
                        have hiI : (i : Int) < (ln : Int) := by omega
                        have c1 := unhide HTc i wr hil (unhide HBi)
                        have c2 := unhide HTc d wr hdl (unhide HBi)
                        have hs := unhide HCs i
                        have hl := unhide HCl i
                        have HB2 := hide (fun nq => below_dn (unhide HBi) nq)
                        clear HBi x0 x2 x3
                        generalize q.tail.getD i 0 = f1 at *
                        generalize q.tail.getD d 0 = f2 at *
                        generalize hci : C i = ci at *
                        by_cases hf : f1 = f2
                        · subst hf
                          have hfb : (f1 == f1) = true := beq_self_eq_true _
                          have HS : Hid (C (i + 1) = ci + 1) := hide (by rw [hs, if_pos (decide_eq_true rfl)])
                          clear hs hci
                          go_wp2
                          go_quiet (fail)
                          have HBq := hide (unhide HB2 nq)
                          clear c1 c2 x1 HB2
                          generalize wr.drewN nq = wq at *
                          go_wp2
                          go_roundg g3
                          case rel => exact ⟨i + 1, by omega, by go_num, by rw [unhide HS]; go_num, HBq⟩
                          case measure => omega
                        · have hfb : (f1 == f2) = false := beq_eq_false_iff_ne.2 hf
                          have HS : Hid (C (i + 1) = ci) := hide (by rw [hs, if_neg (by rw [decide_eq_true_eq]; exact hf)]; rfl)
                          clear hs hci
                          go_wp2
                          go_quiet (fail)
                          have HBq := hide (unhide HB2 nq)
                          clear c1 c2 x1 HB2
                          generalize wr.drewN nq = wq at *
                          go_wp2
                          go_roundg g3
                          case rel => exact ⟨i + 1, by omega, by go_num, by rw [unhide HS], HBq⟩
                          case measure => omega
                      | zero =>
                        have hie : i = ln := by omega
                        rw [hie]
                        have hCl := unhide HCl ln
                        clear hie hig HC0 HCs HCl x0 x2 x3
                        by_cases hkc : k = C ln
                        · have hkb : ((k : Int) != ((C ln : Nat) : Int)) = false := by rw [hkc]; simp
                          have HKn := hide (unhide HK2d hkc)
                          have HD2' : Hid (∀ d', d' < d + 1 → K2 q.next d' (Sp.cnt (fun x => decide (q.tail.getD x 0 = q.tail.getD d' 0)) q.next.length)) := hide fun d' hd' => by
                            rcases Nat.lt_or_ge d' d with h1 | h1
                            · exact unhide HD2 d' h1
                            · have e : d' = d := by omega
                              subst e
                              rw [unhide Hnl]
                              rw [← unhide HCe]
                              exact unhide HKn
                          clear HK2d HKc HKn
                          go_wp2
                          go_roundg g'
                          case rel => exact ⟨d + 1, by omega, by go_num, hide ⟨unhide HBi, unhide HD2'⟩⟩
                          case measure => omega
                        · have hkb : ((k : Int) != ((C ln : Nat) : Int)) = true := by rw [bne_iff_ne]; omega
                          have HF : Hid (Sp.turningB q = false) := hide (by
                            cases hb : Sp.turningB q with
                            | false => rfl
                            | true => exact absurd (unhide HKc hb) hkc)
                          have Hfin := hide (unhide HW _ (unhide HBi))
                          clear HK2d HKc
                          go_wp2
                          rw [unhide HP]
                          exact ⟨by rw [unhide HF]; rfl, unhide Hfin⟩
                  · have heb : ((e : Int) != (d : Int)) = true := by rw [bne_iff_ne]; omega
                    obtain ⟨y, hy, hyl⟩ := unhide HNb e hel
                    have c1 := unhide HNc e wr hel (unhide HAk).1
                    rw [hy] at c1
                    have heI : (e : Int) < (ln : Int) := by omega
                    have HA2 : Hid (Below (w.heap.size + 1) W1 wr ∧ Sp.nth q.next d (k + 1) = (y : Int) ∧ ∀ m, 1 ≤ m → m < k + 1 → Sp.nth q.next d m ≠ d) := hide ⟨(unhide HAk).1, by
                      show q.next.getD (Sp.nth q.next d k).toNat 0 = _
                      rw [(unhide HAk).2.1, Int.toNat_natCast, hy], fun m h1 h2 => by
                      rcases Nat.lt_or_ge m k with h3 | h3
                      · exact (unhide HAk).2.2 m h1 h3
                      · have hmk : m = k := by omega
                        rw [hmk, (unhide HAk).2.1]
                        omega⟩
                    clear HAk hy x0 x3
                    go_wp2
                    go_roundg g2
                    case rel => exact ⟨k + 1, y, by omega, by go_num, rfl, hyl, HA2⟩
                    case measure => omega
end Go.Proofs.Ytoegjnolccabjab


