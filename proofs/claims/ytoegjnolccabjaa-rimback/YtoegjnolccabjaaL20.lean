/- What the proof needs, part 20. -/
import Derived.Test.YtoegjnolccabjaaL19
/- Flows that grow (chapter 9): what a way adds; a flow past which nothing is reached is the greatest. -/
namespace Go.Proofs.Ytoegjnolccabjaa
open Go Go.RowKit

/-- Numbers of darts, as a flow from s to t has them. -/
structure Sp.FloF (T C : List Int) (s t : Int) (z : Nat → Int) (x : Int) : Prop where
  op : ∀ d, d < T.length → z (Sp.oth d) = - z d
  le : ∀ d, d < T.length → z d ≤ C.getD d 0
  sum : ∀ u : Int, Sp.sumN (fun d => if T.getD d 0 = u then z d else 0) T.length = (if u = s then x else 0) + (if u = t then -x else 0)
theorem Sp.FloF.first {T C : List Int} {s t : Int} (hc : ∀ d, d < T.length → 0 ≤ C.getD d 0) : Sp.FloF T C s t (fun _ => 0) 0 := by
  refine ⟨fun d _ => rfl, hc, fun u => ?_⟩
  have e : Sp.sumN (fun d => if T.getD d 0 = u then (0 : Int) else 0) T.length = Sp.sumN (fun _ => 0) T.length := Sp.sumN_congr _ fun d _ => ite_self _
  rw [e, Sp.sumN_zero]
  split <;> split <;> rfl
theorem Sp.sumN_le {g h : Nat → Int} : ∀ n, (∀ i, i < n → g i ≤ h i) → Sp.sumN g n ≤ Sp.sumN h n
  | 0, _ => Int.le_refl _
  | n + 1, e => by
    have h1 := Sp.sumN_le n (fun i hi => e i (by omega))
    have h2 := e n (by omega)
    rw [Sp.sumN, Sp.sumN]
    omega
theorem Sp.FloF.low {T C : List Int} {s t : Int} {z : Nat → Int} {x : Int} (h : Sp.FloF T C s t z x) (hev : T.length % 2 = 0) {d : Nat} (hd : d < T.length) : - C.getD (Sp.oth d) 0 ≤ z d := by
  have := h.le _ (oth_lt hd hev)
  rw [h.op d hd] at this
  omega
theorem Sp.FloF.top {T C : List Int} {s t : Int} {z : Nat → Int} {x : Int} (h : Sp.FloF T C s t z x) (hst : s ≠ t) : x ≤ Sp.sumN (fun d => if T.getD d 0 = s then C.getD d 0 else 0) T.length := by
  have h1 := h.sum s
  rw [if_pos rfl, if_neg hst] at h1
  have h2 := Sp.sumN_le (g := fun d => if T.getD d 0 = s then z d else 0) (h := fun d => if T.getD d 0 = s then C.getD d 0 else 0) T.length fun d hd => by
    show (if T.getD d 0 = s then z d else 0) ≤ if T.getD d 0 = s then C.getD d 0 else 0
    split
    · exact h.le d hd
    · omega
  omega
/-- Two numbers turned. -/
theorem Sp.sumN_upd2 (T : List Int) (z : Nat → Int) {a b : Nat} (ha : a < T.length) (hb : b < T.length) (hab : a ≠ b) (l : Int) (u : Int) :
    Sp.sumN (fun d => if T.getD d 0 = u then Sp.upd (Sp.upd z a (z a + l)) b (z b - l) d else 0) T.length = Sp.sumN (fun d => if T.getD d 0 = u then z d else 0) T.length + ((if T.getD a 0 = u then l else 0) + (if T.getD b 0 = u then -l else 0)) := by
  have e : Sp.sumN (fun d => if T.getD d 0 = u then Sp.upd (Sp.upd z a (z a + l)) b (z b - l) d else 0) T.length = Sp.sumN (fun d => (if T.getD d 0 = u then z d else 0) + ((if d = a then (if T.getD a 0 = u then l else 0) else 0) + (if d = b then (if T.getD b 0 = u then -l else 0) else 0))) T.length :=
    Sp.sumN_congr _ fun d _ => by
      unfold Sp.upd
      by_cases e1 : d = b
      · subst e1
        rw [if_pos rfl, if_neg (show ¬ d = a from fun k => hab k.symm), if_pos rfl]
        split <;> omega
      · by_cases e2 : d = a
        · subst e2
          rw [if_neg e1, if_pos rfl, if_pos rfl, if_neg e1]
          split <;> omega
        · rw [if_neg e1, if_neg e2, if_neg e2, if_neg e1]
          omega
  rw [e, Sp.sumN_add, Sp.sumN_add, Sp.sumN_one, Sp.sumN_one, if_pos ha, if_pos hb]
/-- What stays while l is laid upon a way that is gone back from t to v. -/
structure Sp.AugF (T C : List Int) (s t : Int) (z : Nat → Int) (x l : Int) (rk : Nat → Nat) (v : Nat) (z' : Nat → Int) : Prop where
  op : ∀ d, d < T.length → z' (Sp.oth d) = - z' d
  le : ∀ d, d < T.length → z' d ≤ C.getD d 0
  sum : ∀ u : Int, Sp.sumN (fun d => if T.getD d 0 = u then z' d else 0) T.length = (if u = s then x else 0) + (if u = t then -x else 0) + ((if u = (v : Int) then l else 0) + (if u = t then -l else 0))
  keep : ∀ d, d < T.length → rk (T.getD d 0).toNat ≤ rk v → rk (T.getD (Sp.oth d) 0).toNat ≤ rk v → z' d = z d
theorem Sp.AugF.first {T C : List Int} {s : Int} {t : Nat} {z : Nat → Int} {x : Int} (h : Sp.FloF T C s (t : Int) z x) (l : Int) (rk : Nat → Nat) : Sp.AugF T C s (t : Int) z x l rk t z :=
  ⟨h.op, h.le, fun u => by
    rw [h.sum u]
    split <;> split <;> omega, fun _ _ _ _ => rfl⟩
theorem Sp.AugF.step {T C : List Int} {N : Nat} {s : Nat} {t : Int} {z : Nat → Int} {x l : Int} {rk : Nat → Nat} {v : Nat} {z' : Nat → Int} (h : Sp.AugF T C (s : Int) t z x l rk v z') (hev : T.length % 2 = 0) (hT : ∀ x ∈ T, 0 ≤ x ∧ x < (N : Int)) (hl : 0 ≤ l)
    {d : Nat} (hd : d < T.length) (h1 : T.getD (Sp.oth d) 0 = (v : Int)) (h2 : rk (T.getD d 0).toNat < rk v) (h3 : l ≤ C.getD d 0 - z d) (_hco : ∀ d, d < T.length → 0 ≤ C.getD d 0) :
    z' d = z d ∧ z' (Sp.oth d) = - z d ∧ Sp.AugF T C (s : Int) t z x l rk (T.getD d 0).toNat (Sp.upd (Sp.upd z' d (z' d + l)) (Sp.oth d) (z' (Sp.oth d) - l)) := by
  have ho := oth_lt hd hev
  have hne : d ≠ Sp.oth d := by unfold Sp.oth; split <;> omega
  have hv : (T.getD (Sp.oth d) 0).toNat = v := by rw [h1, Int.toNat_natCast]
  have hu0 := hT _ (Sp.getD_mem (l := T) hd)
  have k1 : z' d = z d := h.keep d hd (by omega) (by rw [hv]; exact Nat.le_refl _)
  have k2 : z' (Sp.oth d) = - z d := by rw [h.op d hd, k1]
  have hG : ∀ e, Sp.upd (Sp.upd z' d (z' d + l)) (Sp.oth d) (z' (Sp.oth d) - l) e = if e = Sp.oth d then z' (Sp.oth d) - l else if e = d then z' d + l else z' e := fun e => rfl
  refine ⟨k1, k2, fun e he => ?_, fun e he => ?_, fun u => ?_, fun e he r1 r2 => ?_⟩
  · rw [hG, hG]
    by_cases e1 : e = d
    · subst e1
      rw [if_pos rfl, if_neg hne, if_pos rfl]
      omega
    · by_cases e2 : e = Sp.oth d
      · subst e2
        rw [oth_oth, if_neg hne, if_pos rfl, if_pos rfl]
        omega
      · rw [if_neg (fun k => e1 (oth_inj k)), if_neg (fun k => e2 (by rw [← k, oth_oth])), if_neg e2, if_neg e1]
        exact h.op e he
  · rw [hG]
    have h5 := h.le e he
    by_cases e2 : e = Sp.oth d
    · subst e2
      rw [if_pos rfl]
      omega
    · rw [if_neg e2]
      by_cases e1 : e = d
      · subst e1
        rw [if_pos rfl]
        omega
      · rw [if_neg e1]; exact h5
  · rw [Sp.sumN_upd2 T z' hd ho hne l u, h.sum u, h1]
    have e3 : (((T.getD d 0).toNat : Nat) : Int) = T.getD d 0 := Int.toNat_of_nonneg hu0.1
    rw [e3]
    have c1 : (if T.getD d 0 = u then l else 0) = if u = T.getD d 0 then l else 0 := by
      by_cases e : T.getD d 0 = u
      · rw [if_pos e, if_pos e.symm]
      · rw [if_neg e, if_neg (fun k => e k.symm)]
    have c2 : (if (v : Int) = u then -l else 0) = if u = (v : Int) then -l else 0 := by
      by_cases e : (v : Int) = u
      · rw [if_pos e, if_pos e.symm]
      · rw [if_neg e, if_neg (fun k => e k.symm)]
    rw [c1, c2]
    by_cases e : u = (v : Int)
    · rw [if_pos e, if_pos e]; omega
    · rw [if_neg e, if_neg e]; omega
  · rw [hG]
    have e2 : e ≠ Sp.oth d := fun k => by
      rw [k, hv] at r1
      omega
    have e1 : e ≠ d := fun k => by
      rw [k, hv] at r2
      omega
    rw [if_neg e2, if_neg e1]
    exact h.keep e he (by omega) (by omega)
theorem Sp.AugF.done {T C : List Int} {s : Nat} {t : Int} {z : Nat → Int} {x l : Int} {rk : Nat → Nat} {z' : Nat → Int} (h : Sp.AugF T C (s : Int) t z x l rk s z') : Sp.FloF T C (s : Int) t z' (x + l) :=
  ⟨h.op, h.le, fun u => by
    rw [h.sum u]
    split <;> split <;> omega⟩
/-- What runs out of some vertices, s among them, t not. -/
theorem Sp.FloF.cut {T C : List Int} {N : Nat} {s t : Nat} {z : Nat → Int} {x : Int} (h : Sp.FloF T C (s : Int) (t : Int) z x) (hev : T.length % 2 = 0) (hT : ∀ x ∈ T, 0 ≤ x ∧ x < (N : Int)) (hs : s < N) {B : Nat → Bool} (hbs : B s = true) (hbt : B t = false) :
    Sp.sumN (fun d => if B (T.getD d 0).toNat = true ∧ B (T.getD (Sp.oth d) 0).toNat = false then z d else 0) T.length = x := by
  have hTd : ∀ d, d < T.length → ∃ u : Nat, T.getD d 0 = (u : Int) ∧ u < N := fun d hd => by
    have := hT _ (Sp.getD_mem (l := T) hd)
    exact ⟨(T.getD d 0).toNat, by omega, by omega⟩
  -- all darts out of B
  have e1 : Sp.sumN (fun d => if B (T.getD d 0).toNat = true then z d else 0) T.length = x := by
    have a1 : Sp.sumN (fun d => if B (T.getD d 0).toNat = true then z d else 0) T.length = Sp.sumN (fun d => Sp.sumN (fun u => if B u = true then (if T.getD d 0 = (u : Int) then z d else 0) else 0) N) T.length :=
      Sp.sumN_congr _ fun d hd => by
        obtain ⟨u0, hu, hu0⟩ := hTd d hd
        have a2 : Sp.sumN (fun u => if B u = true then (if T.getD d 0 = (u : Int) then z d else 0) else 0) N = Sp.sumN (fun u => if u = u0 then (if B u0 = true then z d else 0) else 0) N :=
          Sp.sumN_congr _ fun u _ => by
            rw [hu]
            by_cases e : u = u0
            · subst e
              rw [if_pos rfl, if_pos rfl]
            · rw [if_neg e, if_neg (show ¬ (u0 : Int) = (u : Int) by omega), ite_self]
        rw [a2, Sp.sumN_one, if_pos hu0, hu, Int.toNat_natCast]
    have a3 : Sp.sumN (fun u => Sp.sumN (fun d => if B u = true then (if T.getD d 0 = (u : Int) then z d else 0) else 0) T.length) N = Sp.sumN (fun u => if u = s then x else 0) N :=
      Sp.sumN_congr _ fun u _ => by
        by_cases hu : B u = true
        · have a4 : Sp.sumN (fun d => if B u = true then (if T.getD d 0 = (u : Int) then z d else 0) else 0) T.length = Sp.sumN (fun d => if T.getD d 0 = (u : Int) then z d else 0) T.length := Sp.sumN_congr _ fun d _ => by rw [if_pos hu]
          have hut : ¬ (u : Int) = (t : Int) := fun e => by
            have : u = t := by omega
            rw [this, hbt] at hu
            cases hu
          rw [a4, h.sum, if_neg hut]
          by_cases e : u = s
          · rw [if_pos (by omega), if_pos e]; omega
          · rw [if_neg (by omega), if_neg e]; rfl
        · have a4 : Sp.sumN (fun d => if B u = true then (if T.getD d 0 = (u : Int) then z d else 0) else 0) T.length = Sp.sumN (fun _ => 0) T.length := Sp.sumN_congr _ fun d _ => by rw [if_neg hu]
          rw [a4, Sp.sumN_zero, if_neg (fun e => hu (by rw [e]; exact hbs))]
    rw [a1, Sp.sumN_comm, a3, Sp.sumN_one, if_pos hs]
  -- those within B come to nothing
  have e2 : Sp.sumN (fun d => if B (T.getD d 0).toNat = true ∧ B (T.getD (Sp.oth d) 0).toNat = true then z d else 0) T.length = 0 := by
    have b1 := Sp.sumN_perm (n := T.length) (f := Sp.oth) (fun i hi => oth_lt hi hev) (fun i j _ _ e => oth_inj e) (fun j hj => ⟨Sp.oth j, oth_lt hj hev, oth_oth j⟩) (fun d => if B (T.getD d 0).toNat = true ∧ B (T.getD (Sp.oth d) 0).toNat = true then z d else 0)
    have b2 : Sp.sumN (fun i => if B (T.getD (Sp.oth i) 0).toNat = true ∧ B (T.getD (Sp.oth (Sp.oth i)) 0).toNat = true then z (Sp.oth i) else 0) T.length = Sp.sumN (fun d => 0 - (if B (T.getD d 0).toNat = true ∧ B (T.getD (Sp.oth d) 0).toNat = true then z d else 0)) T.length :=
      Sp.sumN_congr _ fun d hd => by
        rw [oth_oth, h.op d hd]
        by_cases e : B (T.getD d 0).toNat = true ∧ B (T.getD (Sp.oth d) 0).toNat = true
        · rw [if_pos e, if_pos ⟨e.2, e.1⟩]; omega
        · rw [if_neg e, if_neg (fun k => e ⟨k.2, k.1⟩)]; rfl
    have b3 := Sp.sumN_sub (fun _ => 0) (fun d => if B (T.getD d 0).toNat = true ∧ B (T.getD (Sp.oth d) 0).toNat = true then z d else 0) T.length
    rw [Sp.sumN_zero] at b3
    rw [b2, b3] at b1
    omega
  have e3 : Sp.sumN (fun d => if B (T.getD d 0).toNat = true then z d else 0) T.length = Sp.sumN (fun d => (if B (T.getD d 0).toNat = true ∧ B (T.getD (Sp.oth d) 0).toNat = false then z d else 0) + (if B (T.getD d 0).toNat = true ∧ B (T.getD (Sp.oth d) 0).toNat = true then z d else 0)) T.length :=
    Sp.sumN_congr _ fun d _ => by
      cases B (T.getD d 0).toNat <;> cases B (T.getD (Sp.oth d) 0).toNat <;> simp
  rw [e3, Sp.sumN_add, e2] at e1
  omega
/-- A flow past which t is not reached is the greatest. -/
theorem Sp.FloF.max {T C : List Int} {N : Nat} {s t : Nat} {z z' : Nat → Int} {x x' : Int} (h : Sp.FloF T C (s : Int) (t : Int) z x) (h' : Sp.FloF T C (s : Int) (t : Int) z' x') (hev : T.length % 2 = 0) (hT : ∀ x ∈ T, 0 ≤ x ∧ x < (N : Int)) (hs : s < N) {B : Nat → Bool} (hbs : B s = true) (hbt : B t = false)
    (hc : ∀ d, d < T.length → B (T.getD d 0).toNat = true → z d < C.getD d 0 → B (T.getD (Sp.oth d) 0).toNat = true) : x' ≤ x := by
  rw [← h.cut hev hT hs hbs hbt, ← h'.cut hev hT hs hbs hbt]
  refine Sp.sumN_le _ fun d hd => ?_
  show (if B (T.getD d 0).toNat = true ∧ B (T.getD (Sp.oth d) 0).toNat = false then z' d else 0) ≤ if B (T.getD d 0).toNat = true ∧ B (T.getD (Sp.oth d) 0).toNat = false then z d else 0
  by_cases e : B (T.getD d 0).toNat = true ∧ B (T.getD (Sp.oth d) 0).toNat = false
  · rw [if_pos e, if_pos e]
    have h1 := h'.le d hd
    rcases Int.lt_or_le (z d) (C.getD d 0) with h2 | h2
    · have := hc d hd e.1 h2
      rw [e.2] at this
      cases this
    · omega
  · rw [if_neg e, if_neg e]
    exact Int.le_refl _
end Go.Proofs.Ytoegjnolccabjaa


/- The law DualFirst, walked. -/
namespace Go.Proofs.Ytoegjnolccabjaa
open Go Go.RowKit

/-- Was a dart of the face that begins at the vertex met among the first ones? -/
def Sp.mt (T F : List Int) (f : Nat) (v : Int) : Nat → Bool
  | 0 => false
  | j + 1 => Sp.mt T F f v j || (F.getD j 0 == (f : Int) && T.getD j 0 == v)
theorem Sp.sharedGo_some {T F : List Int} {s t : Int} : ∀ g f (c : Nat), f ≤ c → c < f + g → Sp.meets T F c s → Sp.meets T F c t → (Sp.sharedGo T F s t g f).2 = true
  | 0, f, c, h1, h2, _, _ => by omega
  | g + 1, f, c, h1, h2, h3, h4 => by
    rw [Sp.sharedGo]
    split
    · rfl
    · rename_i h
      refine Sp.sharedGo_some g (f + 1) c ?_ (by omega) h3 h4
      rcases Nat.lt_or_ge f c with h5 | h5
      · omega
      · obtain rfl : f = c := by omega
        exact absurd ⟨Sp.meetsB_true h3, Sp.meetsB_true h4⟩ h
/-- The ends of an edge share a face. -/
theorem Sp.DualQ.edge {q : Sp.Net} (h : Sp.DualQ q) {x : Nat} (hx : x < q.tail.length) : (Sp.shared q (q.tail.getD x 0) (q.tail.getD (Sp.oth x) 0)).2 = (q.tail.getD x 0 != q.tail.getD (Sp.oth x) 0) := by
  unfold Sp.shared
  by_cases e : q.tail.getD x 0 = q.tail.getD (Sp.oth x) 0
  · rw [if_pos e, e]; simp
  · rw [if_neg e]
    have e2 : (q.tail.getD x 0 != q.tail.getD (Sp.oth x) 0) = true := by simpa using e
    rw [e2]
    have ho := oth_lt hx h.link.ev
    have hb := h.fb hx
    have hn := h.mpN _ ho
    have hk := h.k1
    have e3 : ((((Sp.faces2 q).1.getD x 0).toNat : Nat) : Int) = (Sp.faces2 q).1.getD x 0 := by omega
    refine Sp.sharedGo_some _ 0 ((Sp.faces2 q).1.getD x 0).toNat (by omega) (by omega) ⟨x, hx, rfl, e3.symm⟩ ⟨Sp.fn q.next (Sp.oth x), hn, ?_, ?_⟩
    · have hv := h.pl.vert.inv _ ho
      have b1 := h.tb _ (Sp.getD_mem (l := q.tail) hn)
      have b2 := h.tb _ (Sp.getD_mem (l := q.tail) ho)
      omega
    · rw [e3, h.turn ho, oth_oth]
end Go.Proofs.Ytoegjnolccabjaa


/- The law RimEdges, walked. -/
namespace Go.Proofs.Ytoegjnolccabjaa
open Go Go.RowKit

theorem Sp.RimIs.none {q : Sp.Net} {s t : Int} {P L : List Int} {x : Int} (h : Sp.RimIs q s t P L x) (h0 : Sp.rimE q s t ≠ 0) : P = [] ∧ L = [] ∧ x = 0 := by
  rcases h with ⟨-, h1, h2, h3⟩ | ⟨h1, -⟩
  · exact ⟨h1, h2, h3⟩
  · exact absurd h1 h0
end Go.Proofs.Ytoegjnolccabjaa


/- How high a height may be. -/
namespace Go.Proofs.Ytoegjnolccabjaa

theorem Sp.short_small {n s : Nat} {L : List Sp.Arc} {D : Nat → Int} (hS : Sp.Snd n L) (hs : s < n) (hn : n ≤ 60) (hl : L.length ≤ 60) (hD : Sp.Short 1152921504606846976 L s n D) (hb : ∀ v, v < n → D v ≠ 1152921504606846976 → D v < 1152921504606846976) {v : Nat} (hv : v < n) (h : D v ≠ 1152921504606846976) : D v < 576460752303423488 := by
  obtain ⟨D', hD', hb'⟩ := Sp.Short.ex (fun a ha => ⟨(hS.at_ a ha).1, (hS.at_ a ha).2.1⟩) hs hD hb
  have h1 := Sp.pk_still (k := 60) hS hs hD' hb' (by omega)
  have h2 := Sp.pk_short hS hs (by omega) h1
  have e := hD.uniq h2 (by decide) hv
  have h3 : 60 * L.length ≤ 3600 := by omega
  rcases Sp.pk_bnd hS 60 v hv with g | g
  · exact absurd (e.trans g) h
  · have g2 := g.2
    rw [← e] at g2
    have h4 : (((60 * L.length : Nat) : Int)) * 1099511627776 ≤ 3600 * 1099511627776 := Int.mul_le_mul_of_nonneg_right (by omega) (by decide)
    omega
end Go.Proofs.Ytoegjnolccabjaa


/- Nets whose rows of what they hold are changed in place. -/
namespace Go.Proofs.Ytoegjnolccabjaa
open Go Go.RowKit

/-- The net that holds other numbers. -/
def Sp.capQ (q : Sp.Net) (C : List Int) : Sp.Net := ⟨q.n, q.tail, q.next, C⟩
theorem Sp.RimQ.cap {q : Sp.Net} (h : Sp.RimQ q) {C : List Int} (hl : C.length = q.tail.length) (hb : ∀ x ∈ C, 0 ≤ x ∧ x ≤ 2147483648) (hw : Sp.walkB (Sp.capQ q C) = true) (hc : Sp.checkI (Sp.capQ q C) = 0) : Sp.RimQ (Sp.capQ q C) :=
  ⟨⟨h.link.nx, hl, h.link.le, h.link.ev, h.link.pm⟩, h.le, h.n0, h.n1, hb, h.fb, hw, hc⟩
theorem Sp.DualQ.cap {q : Sp.Net} (h : Sp.DualQ q) {C : List Int} (hl : C.length = q.tail.length) (hb : ∀ x ∈ C, 0 ≤ x ∧ x ≤ 2147483648) : Sp.DualQ (Sp.capQ q C) :=
  ⟨⟨h.link.nx, hl, h.link.le, h.link.ev, h.link.pm⟩, h.le, h.l0, h.n0, h.n1, h.tb, hb, ⟨h.pl.vert, h.pl.face, h.pl.conn⟩⟩
theorem Sp.PlaneQ.cap {q : Sp.Net} {i : Nat} (h : Sp.PlaneQ q i) {C : List Int} (hl : C.length = q.tail.length) (hb : ∀ x ∈ C, 0 ≤ x ∧ x ≤ 2147483648) : Sp.PlaneQ (Sp.capQ q C) i :=
  ⟨h.ev, h.le, h.n0, h.n1, h.nx, hl, h.pm, h.tb, hb, h.tn⟩
/-- Plane's net with other numbers is as good. -/
theorem Sp.rimQ_cap (ns : List Int) {C : List Int} (hl : C.length = (Sp.plane ns).tail.length) (hb : ∀ x ∈ C, 0 ≤ x ∧ x ≤ 2147483648) : Sp.RimQ (Sp.capQ (Sp.plane ns) C) := by
  rcases Nat.eq_zero_or_pos (Sp.plane ns).tail.length with h0 | h0
  · have hC : C = (Sp.plane ns).cap := by
      have h1 := (Sp.plane_ok ns).cp
      have h2 : C.length = 0 := by omega
      have h3 : (Sp.plane ns).cap.length = 0 := by omega
      rw [List.length_eq_zero_iff.1 h2, List.length_eq_zero_iff.1 h3]
    rw [hC]
    exact Sp.rimQ_plane ns
  · have hq := (Sp.plane_ok ns).cap hl hb
    have hd := (Sp.dualQ_pos ns h0).cap hl hb
    have hw := hq.walk (by omega)
    exact Sp.RimQ.of_dual hd hw (Sp.check_plain hw hd.n0 hd.link.pm hb hd.l0 hd.pl)
theorem Sp.SplitQ.uniq {q : Sp.Net} {s t : Int} {f d0 a jb f' d0' a' jb' : Nat} (h : Sp.SplitQ q s t f d0 a jb) (h' : Sp.SplitQ q s t f' d0' a' jb') : f' = f ∧ d0' = d0 ∧ a' = a ∧ jb' = jb := by
  have e1 : f' = f := by
    have := h.sh
    rw [h'.sh] at this
    injection this with this _
    omega
  subst e1
  have e2 : d0' = d0 := by
    rcases Nat.lt_trichotomy d0' d0 with k | k | k
    · exact absurd h'.d0f (h.d0m _ k)
    · exact k
    · exact absurd h.d0f (h'.d0m _ k)
  subst e2
  have e3 : a' = a := by
    rcases Nat.lt_trichotomy a' a with k | k | k
    · exact absurd h'.at_ (h.am _ k)
    · exact k
    · exact absurd h.at_ (h'.am _ k)
  subst e3
  refine ⟨rfl, rfl, rfl, ?_⟩
  rcases Nat.lt_trichotomy jb' jb with k | k | k
  · exact absurd h'.bt (h.bm _ k)
  · exact k
  · exact absurd h.bt (h'.bm _ k)
/-- Where all hold twice as much b lies twice as high. -/
theorem Sp.RimIs.twice {q : Sp.Net} (hq : Sp.RimQ q) (hd : 0 < q.tail.length → Sp.DualQ q) {C : List Int} (hc : ∀ d, d < q.tail.length → C.getD d 0 = 2 * q.cap.getD d 0) {s t : Int} {P L P' L' : List Int} {x x' : Int} (h : Sp.RimIs q s t P L x) (h' : Sp.RimIs (Sp.capQ q C) s t P' L' x') : x' = 2 * x := by
  rcases h with ⟨he, -, -, rfl⟩ | ⟨he, h0, h1, hst, hE, f, d0, a, jb, D, hs, hD, rfl, rfl, rfl⟩
  · rcases h' with ⟨-, -, -, rfl⟩ | ⟨he', -⟩
    · rfl
    · exact absurd he' he
  · rcases h' with ⟨he', -⟩ | ⟨-, -, -, -, -, f', d0', a', jb', D', hs', hD', rfl, rfl, rfl⟩
    · exact absurd he he'
    · have hs2 : Sp.SplitQ q s t f' d0' a' jb' := ⟨hs'.sh, hs'.d0l, hs'.d0f, hs'.d0m, hs'.al, hs'.at_, hs'.am, hs'.bl, hs'.b0, hs'.bt, hs'.bm⟩
      obtain ⟨rfl, rfl, rfl, rfl⟩ := hs.uniq hs2
      have hq2 := hd (by have := hs.d0l; omega)
      have hN := hq2.near hq hs hst hD.1
      have hfK : f' < Sp.landK q + 1 := by
        have := (hq2.halves hs).fK
        have hkk : max (Sp.faces2 q).2 1 = Sp.landK q := rfl
        omega
      have hkl := hq.kle
      have hsn := hq.sndR hs
      have hll : (Sp.rimR (Sp.splitL q f' d0' a' jb') q.cap q.tail.length).length ≤ 60 := by rw [Sp.rimR_len]; have := hq.le; omega
      have hsm : ∀ v, v < Sp.landK q + 1 → D v < 576460752303423488 := fun v hv => Sp.short_small hsn hfK (by omega) hll hD.1 hD.2 hv (hN v hv)
      have h2 := Sp.short_twice hc hD.1 (fun d hdl => by have := hq.rng hs hdl; omega) (fun d hdl => by have := hq.rng hs (oth_lt hdl hq.link.ev); omega) hsm
      have h3 : Sp.Short 1152921504606846976 (Sp.rimR (Sp.splitL q f' d0' a' jb') C q.tail.length) f' (Sp.landK q + 1) D' := hD'.1
      exact h3.uniq h2 (by decide) (show Sp.landK q < Sp.landK q + 1 by omega)
/-- A net of Plane's in blocks from lo to hi, boxed in bx. -/
structure NetB (w : World) (lo hi bx : Nat) (q : Sp.Net) (tv nv cv : Value) : Prop where
  net : NetV w lo (.agg #[.int .i64 q.n, tv, nv, cv]) q tv nv cv
  tb : ∀ k, tv.ownBlock = some k → k < hi
  nb : ∀ k, nv.ownBlock = some k → k < hi
  cb : ∀ k, cv.ownBlock = some k → k < hi
  box : w.cell? ⟨bx, 0, none⟩ = some (.int .i64 q.n) ∧ w.cell? ⟨bx, 1, none⟩ = some tv ∧ w.cell? ⟨bx, 2, none⟩ = some nv ∧ w.cell? ⟨bx, 3, none⟩ = some cv
  hb : hi ≤ bx
  bw : bx < w.heap.size
theorem NetB.below {w w' : World} {lo hi bx : Nat} {q : Sp.Net} {tv nv cv : Value} (h : NetB w lo hi bx q tv nv cv) (hb : Below w.heap.size w w') : NetB w' lo hi bx q tv nv cv :=
  ⟨h.net.keep hb, h.tb, h.nb, h.cb, ⟨(hb.cell (by exact h.bw)).trans h.box.1, (hb.cell (by exact h.bw)).trans h.box.2.1, (hb.cell (by exact h.bw)).trans h.box.2.2.1, (hb.cell (by exact h.bw)).trans h.box.2.2.2⟩, h.hb, Nat.lt_of_lt_of_le h.bw hb.size⟩
theorem own_other {w : World} {B g k : Nat} {v : Value} {l : List Int} (h : OwnI w B v l) (hg : v.ownBlock ≠ some g) (u : Value) : OwnI (w.setCell ⟨g, k, none⟩ u) B v l := by
  obtain ⟨hx, h2 | ⟨g', cap, cur, rfl, a2, a3, a4⟩⟩ := h
  · exact ⟨hx, .inl h2⟩
  · have hne : g' ≠ g := fun e => hg (by rw [e]; rfl)
    exact ⟨hx, .inr ⟨g', cap, cur, rfl, a2, by rw [Below.heap_setCell _ _ _ _ (by show g' ≠ g; exact hne)]; exact a3, a4⟩⟩
theorem NetB.other {w : World} {lo hi bx g k : Nat} {q : Sp.Net} {tv nv cv : Value} (h : NetB w lo hi bx q tv nv cv) (hg : g < lo ∨ hi ≤ g) (hx : g ≠ bx) (u : Value) : NetB (w.setCell ⟨g, k, none⟩ u) lo hi bx q tv nv cv := by
  have hl := h.net.tail.lt
  have hn := h.net.next.lt
  have hc := h.net.cap.lt
  have c : ∀ i, (w.setCell ⟨g, k, none⟩ u).cell? ⟨bx, i, none⟩ = w.cell? ⟨bx, i, none⟩ := fun i => World.cell?_setCell_other _ _ _ _ (fun e => by injection e with e1; exact hx e1)
  refine ⟨⟨h.net.val, own_other h.net.tail (fun e => ?_) u, own_other h.net.next (fun e => ?_) u, own_other h.net.cap (fun e => ?_) u, h.net.tn, h.net.tc, h.net.nc⟩, h.tb, h.nb, h.cb, ⟨by rw [c]; exact h.box.1, by rw [c]; exact h.box.2.1, by rw [c]; exact h.box.2.2.1, by rw [c]; exact h.box.2.2.2⟩, h.hb, by rw [World.size_setCell]; exact h.bw⟩
  · have := (hl g e).1; have := h.tb g e; omega
  · have := (hn g e).1; have := h.nb g e; omega
  · have := (hc g e).1; have := h.cb g e; omega
theorem NetB.set {w : World} {lo hi bx g n c : Nat} {q : Sp.Net} {tv nv : Value} (h : NetB w lo hi bx q tv nv (.slice (some ⟨g, 0, none⟩) n c)) (k : Nat) (y : Int) : NetB (w.setCell ⟨g, k, none⟩ (.int .i64 y)) lo hi bx (Sp.capQ q (q.cap.set k y)) tv nv (.slice (some ⟨g, 0, none⟩) n c) := by
  have hgb : g < hi := h.cb g rfl
  have hx : g ≠ bx := by have := h.hb; omega
  have c : ∀ i, (w.setCell ⟨g, k, none⟩ (.int .i64 y)).cell? ⟨bx, i, none⟩ = w.cell? ⟨bx, i, none⟩ := fun i => World.cell?_setCell_other _ _ _ _ (fun e => by injection e with e1; exact hx e1)
  refine ⟨⟨rfl, own_other h.net.tail (fun e => ?_) _, own_other h.net.next (fun e => ?_) _, own_setCell h.net.cap k y, h.net.tn, h.net.tc, h.net.nc⟩, h.tb, h.nb, h.cb, ⟨by rw [c]; exact h.box.1, by rw [c]; exact h.box.2.1, by rw [c]; exact h.box.2.2.1, by rw [c]; exact h.box.2.2.2⟩, h.hb, by rw [World.size_setCell]; exact h.bw⟩
  · rcases h.net.tc with k1 | k1
    · rw [k1] at e; cases e
    · exact k1 e
  · rcases h.net.nc with k1 | k1
    · rw [k1] at e; cases e
    · exact k1 e
theorem NetB.netI {w : World} {lo hi bx : Nat} {q : Sp.Net} {tv nv cv : Value} (h : NetB w lo hi bx q tv nv cv) : NetI w (.agg #[.int .i64 q.n, tv, nv, cv]) q tv nv cv := h.net.netI
end Go.Proofs.Ytoegjnolccabjaa


