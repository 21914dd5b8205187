/- What the proof needs, part 10. -/
import Derived.Test.YtoegjnolccabjabL9
/- The rise about a vertex sums to 0 but for both ends. -/
namespace Go.Proofs.Ytoegjnolccabjab

def Sp.sumN (g : Nat → Int) : Nat → Int
  | 0 => 0
  | n + 1 => Sp.sumN g n + g n
theorem Sp.sumN_congr {g h : Nat → Int} : ∀ n, (∀ i, i < n → g i = h i) → Sp.sumN g n = Sp.sumN h n
  | 0, _ => rfl
  | n + 1, e => by rw [Sp.sumN, Sp.sumN, Sp.sumN_congr n (fun i hi => e i (by omega)), e n (by omega)]
theorem Sp.sumN_add (g h : Nat → Int) : ∀ n, Sp.sumN (fun i => g i + h i) n = Sp.sumN g n + Sp.sumN h n
  | 0 => rfl
  | n + 1 => by rw [Sp.sumN, Sp.sumN, Sp.sumN, Sp.sumN_add g h n]; omega
theorem Sp.sumN_sub (g h : Nat → Int) : ∀ n, Sp.sumN (fun i => g i - h i) n = Sp.sumN g n - Sp.sumN h n
  | 0 => rfl
  | n + 1 => by rw [Sp.sumN, Sp.sumN, Sp.sumN, Sp.sumN_sub g h n]; omega
theorem Sp.sumN_zero : ∀ n, Sp.sumN (fun _ => 0) n = 0
  | 0 => rfl
  | n + 1 => by rw [Sp.sumN, Sp.sumN_zero n]; rfl
theorem Sp.sumN_one (k : Nat) (x : Int) : ∀ n, Sp.sumN (fun i => if i = k then x else 0) n = if k < n then x else 0
  | 0 => by rw [if_neg (Nat.not_lt_zero _)]; rfl
  | n + 1 => by
    rw [Sp.sumN, Sp.sumN_one k x n]
    by_cases h : k < n
    · rw [if_pos h, if_neg (by omega), if_pos (by omega)]; omega
    · rw [if_neg h]
      by_cases h2 : n = k
      · rw [if_pos h2, if_pos (by omega)]; omega
      · rw [if_neg h2, if_neg (by omega)]; rfl
theorem Sp.sumN_comm (g : Nat → Nat → Int) (m : Nat) : ∀ n, Sp.sumN (fun i => Sp.sumN (fun j => g i j) m) n = Sp.sumN (fun j => Sp.sumN (fun i => g i j) n) m
  | 0 => (Sp.sumN_zero m).symm
  | n + 1 => by
    rw [Sp.sumN, Sp.sumN_comm g m n, ← Sp.sumN_add]
    rfl
theorem Sp.sumN_perm {n : Nat} {f : Nat → Nat} (hm : ∀ i, i < n → f i < n) (hi : ∀ i j, i < n → j < n → f i = f j → i = j) (ho : ∀ j, j < n → ∃ i, i < n ∧ f i = j) (g : Nat → Int) : Sp.sumN (fun i => g (f i)) n = Sp.sumN g n := by
  have e1 : Sp.sumN (fun i => g (f i)) n = Sp.sumN (fun i => Sp.sumN (fun j => if j = f i then g (f i) else 0) n) n :=
    Sp.sumN_congr n fun i h => by rw [Sp.sumN_one, if_pos (hm i h)]
  rw [e1, Sp.sumN_comm]
  refine Sp.sumN_congr n fun j hj => ?_
  obtain ⟨k, hk, e⟩ := ho j hj
  have e2 : Sp.sumN (fun i => if j = f i then g (f i) else 0) n = Sp.sumN (fun i => if i = k then g j else 0) n :=
    Sp.sumN_congr n fun i h => by
      by_cases h2 : i = k
      · subst h2; rw [if_pos e.symm, if_pos rfl, e]
      · rw [if_neg (fun h3 => h2 (hi i k h hk (by rw [e, h3]))), if_neg h2]
  rw [e2, Sp.sumN_one, if_pos hk]
theorem Sp.DualQ.diff {q : Sp.Net} (h : Sp.DualQ q) {s t : Int} {f d0 a jb : Nat} (hs : Sp.SplitQ q s t f d0 a jb) : ∃ d1 d2, d1 < q.tail.length ∧ d2 < q.tail.length ∧ d1 ≠ d2 ∧ ∀ d, d < q.tail.length → ((Sp.splitL q f d0 a jb).getD d 0 = (Sp.splitL q f d0 a jb).getD (Sp.fn (Sp.behindL q.next) d) 0 ∧ d ≠ d1 ∧ d ≠ d2) ∨ (d = d1 ∧ (Sp.splitL q f d0 a jb).getD d 0 = (f : Int) ∧ (Sp.splitL q f d0 a jb).getD (Sp.fn (Sp.behindL q.next) d) 0 = ((max (Sp.faces2 q).2 1 : Nat) : Int) ∧ q.tail.getD (Sp.fn (Sp.behindL q.next) d) 0 = t) ∨ (d = d2 ∧ (Sp.splitL q f d0 a jb).getD d 0 = ((max (Sp.faces2 q).2 1 : Nat) : Int) ∧ (Sp.splitL q f d0 a jb).getD (Sp.fn (Sp.behindL q.next) d) 0 = (f : Int) ∧ q.tail.getD (Sp.fn (Sp.behindL q.next) d) 0 = s) := by
  have hF := Sp.faces2_len q
  have hb := h.fp
  have hlb := h.bl
  have hdb : d0 < (Sp.behindL q.next).length := by rw [hlb]; exact hs.d0l
  have hk := h.k1
  have hK : max (Sp.faces2 q).2 1 = (Sp.faces2 q).2 := by omega
  have hxa : itf (Sp.fn (Sp.behindL q.next)) d0 a < (Sp.behindL q.next).length := hb.fnP.it hdb a
  have hper := per_along hb hdb a
  have hxl : ∀ m, itf (Sp.fn (Sp.behindL q.next)) d0 (a + m) < q.tail.length := fun m => by have := hb.fnP.it hdb (a + m); rw [hlb] at this; exact this
  have hxF : ∀ m, itf (Sp.fn (Sp.behindL q.next)) d0 (a + m) < (Sp.faces2 q).1.length := fun m => by rw [hF]; exact hxl m
  have hfa : ∀ m, (Sp.faces2 q).1.getD (itf (Sp.fn (Sp.behindL q.next)) d0 (a + m)) 0 = (f : Int) := fun m => by rw [Sp.faces_along h.link hs.d0l, hs.d0f]
  have hinj : ∀ m n, m < Sp.per (Sp.behindL q.next) d0 → n < Sp.per (Sp.behindL q.next) d0 → itf (Sp.fn (Sp.behindL q.next)) d0 (a + m) = itf (Sp.fn (Sp.behindL q.next)) d0 (a + n) → m = n := fun m n hm hn e => by
    rw [itf_add, itf_add] at e
    rcases Nat.lt_trichotomy m n with h1 | h1 | h1
    · exact absurd e (itf_apart hb hxa h1 (by rw [hper]; exact hn))
    · exact h1
    · exact absurd e.symm (itf_apart hb hxa h1 (by rw [hper]; exact hm))
  have hcov : ∀ i, i < q.tail.length → (Sp.faces2 q).1.getD i 0 = (f : Int) → ∃ m, m < Sp.per (Sp.behindL q.next) d0 ∧ itf (Sp.fn (Sp.behindL q.next)) d0 (a + m) = i := fun i hi e => by
    obtain ⟨m, h1, h2⟩ := Sp.faces_orb h.link (d := itf (Sp.fn (Sp.behindL q.next)) d0 a) (by rw [← hlb]; exact hxa) hi (by rw [e, ← hfa 0, Nat.add_zero])
    rw [hper] at h1
    exact ⟨m, h1, by rw [itf_add]; exact h2⟩
  have hin : ∀ m, m < Sp.per (Sp.behindL q.next) d0 → (Sp.splitL q f d0 a jb).getD (itf (Sp.fn (Sp.behindL q.next)) d0 (a + m)) 0 = if jb ≤ m then ((max (Sp.faces2 q).2 1 : Nat) : Int) else (f : Int) := fun m hm =>
    Sp.splitAt_in (x := fun j => itf (Sp.fn (Sp.behindL q.next)) d0 (a + j)) hxF hinj _ (Nat.le_refl _) m hm
  have hout : ∀ i, i < q.tail.length → (Sp.faces2 q).1.getD i 0 ≠ (f : Int) → (Sp.splitL q f d0 a jb).getD i 0 = (Sp.faces2 q).1.getD i 0 := fun i hi e =>
    Sp.splitAt_out (x := fun j => itf (Sp.fn (Sp.behindL q.next)) d0 (a + j)) hxF _ fun m _ e2 => e (by rw [← e2]; exact hfa m)
  have hper0 : itf (Sp.fn (Sp.behindL q.next)) d0 (a + Sp.per (Sp.behindL q.next) d0) = itf (Sp.fn (Sp.behindL q.next)) d0 (a + 0) := by
    have := itf_mod hb hdb (a + Sp.per (Sp.behindL q.next) d0)
    rw [← this, Nat.add_mod_right, itf_mod hb hdb, Nat.add_zero]
  have hfn : ∀ m, Sp.fn (Sp.behindL q.next) (itf (Sp.fn (Sp.behindL q.next)) d0 (a + m)) = itf (Sp.fn (Sp.behindL q.next)) d0 (a + (m + 1)) := fun m => rfl
  have hlF : ∀ i, i < q.tail.length → (Sp.faces2 q).1.getD i 0 < ((max (Sp.faces2 q).2 1 : Nat) : Int) := fun i hi => by rw [hK]; exact (h.fb hi).2
  have hfK : f < max (Sp.faces2 q).2 1 := by have := hlF d0 hs.d0l; rw [hs.d0f] at this; omega
  have b0 := hs.b0
  have bl := hs.bl
  have hdiff : ∀ d, d < q.tail.length → ((Sp.splitL q f d0 a jb).getD d 0 = (Sp.splitL q f d0 a jb).getD (Sp.fn (Sp.behindL q.next) d) 0 ∧ d ≠ itf (Sp.fn (Sp.behindL q.next)) d0 (a + (jb - 1)) ∧ d ≠ itf (Sp.fn (Sp.behindL q.next)) d0 (a + (Sp.per (Sp.behindL q.next) d0 - 1))) ∨ (d = itf (Sp.fn (Sp.behindL q.next)) d0 (a + (jb - 1)) ∧ (Sp.splitL q f d0 a jb).getD d 0 = (f : Int) ∧ (Sp.splitL q f d0 a jb).getD (Sp.fn (Sp.behindL q.next) d) 0 = ((max (Sp.faces2 q).2 1 : Nat) : Int) ∧ q.tail.getD (Sp.fn (Sp.behindL q.next) d) 0 = t) ∨ (d = itf (Sp.fn (Sp.behindL q.next)) d0 (a + (Sp.per (Sp.behindL q.next) d0 - 1)) ∧ (Sp.splitL q f d0 a jb).getD d 0 = ((max (Sp.faces2 q).2 1 : Nat) : Int) ∧ (Sp.splitL q f d0 a jb).getD (Sp.fn (Sp.behindL q.next) d) 0 = (f : Int) ∧ q.tail.getD (Sp.fn (Sp.behindL q.next) d) 0 = s) := by
    intro d hd
    by_cases e : (Sp.faces2 q).1.getD d 0 = (f : Int)
    · obtain ⟨m, hm, rfl⟩ := hcov d hd e
      rw [hfn]
      by_cases h1 : m + 1 = Sp.per (Sp.behindL q.next) d0
      · refine .inr (.inr ⟨by rw [show m = Sp.per (Sp.behindL q.next) d0 - 1 by omega], ?_, ?_, ?_⟩)
        · rw [hin m hm, if_pos (by omega)]
        · rw [h1, hper0, hin 0 (by omega), if_neg (by omega)]
        · rw [h1, hper0, Nat.add_zero]; exact hs.at_
      · by_cases h2 : m + 1 = jb
        · refine .inr (.inl ⟨by rw [show m = jb - 1 by omega], ?_, ?_, ?_⟩)
          · rw [hin m hm, if_neg (by omega)]
          · rw [h2, hin jb bl, if_pos (by omega)]
          · rw [h2]; exact hs.bt
        · refine .inl ⟨?_, fun e2 => ?_, fun e2 => ?_⟩
          · rw [hin m hm, hin (m + 1) (by omega)]
            by_cases h3 : jb ≤ m
            · rw [if_pos h3, if_pos (by omega)]
            · rw [if_neg h3, if_neg (by omega)]
          · have := hinj m (jb - 1) hm (by omega) e2; omega
          · have := hinj m _ hm (by omega) e2; omega
    · have he : (Sp.faces2 q).1.getD (Sp.fn (Sp.behindL q.next) d) 0 = (Sp.faces2 q).1.getD d 0 := Sp.faces_along h.link hd 1
      refine .inl ⟨?_, fun e2 => e (by rw [e2]; exact hfa _), fun e2 => e (by rw [e2]; exact hfa _)⟩
      rw [hout d hd e, hout _ (h.mp d hd) (by rw [he]; exact e), he]
  exact ⟨_, _, hxl _, hxl _, fun e => by
    have := hinj (jb - 1) _ (by omega) (by omega) e
    omega, hdiff⟩
theorem Sp.DualQ.tailN {q : Sp.Net} (h : Sp.DualQ q) {d : Nat} (hd : d < q.tail.length) : q.tail.getD (Sp.fn q.next d) 0 = q.tail.getD d 0 := by
  have h1 := h.pl.vert.inv d hd
  have hb : ∀ i, i < q.tail.length → 0 ≤ q.tail.getD i 0 := fun i hi => by
    rw [List.getD_eq_getElem?_getD, List.getElem?_eq_getElem hi]
    exact (h.tb _ (List.getElem_mem hi)).1
  have h2 := hb _ (h.mpN d hd)
  have h3 := hb d hd
  omega
end Go.Proofs.Ytoegjnolccabjab


/- The rise is a flow: about a vertex it sums to 0 but for both ends. -/
namespace Go.Proofs.Ytoegjnolccabjab

theorem Sp.perm_onto {st : List Int} (hp : Sp.Perm st) {d : Nat} (hd : d < st.length) : ∃ i, i < st.length ∧ Sp.fn st i = d := by
  have h := hp.per hd
  refine ⟨itf (Sp.fn st) d (Sp.per st d - 1), hp.fnP.it hd _, ?_⟩
  show itf (Sp.fn st) d (Sp.per st d - 1 + 1) = d
  rw [show Sp.per st d - 1 + 1 = Sp.per st d by omega]
  have h2 := itf_mod hp hd (Sp.per st d)
  rw [Nat.mod_self] at h2
  exact h2.symm
theorem Sp.DualQ.vsum {q : Sp.Net} (h : Sp.DualQ q) {s t : Int} {f d0 a jb : Nat} (hs : Sp.SplitQ q s t f d0 a jb) (P : List Int) (u : Int) :
    Sp.sumN (fun d => if q.tail.getD d 0 = u then Sp.rise (Sp.splitL q f d0 a jb) P d else 0) q.tail.length = (if t = u then P.getD f 0 - P.getD (max (Sp.faces2 q).2 1) 0 else 0) + (if s = u then P.getD (max (Sp.faces2 q).2 1) 0 - P.getD f 0 else 0) := by
  obtain ⟨d1, d2, hd1, hd2, D12, hdf⟩ := h.diff hs
  have hhv := h.halves hs
  have hfK := hhv.fK
  generalize Sp.splitL q f d0 a jb = L at *
  generalize max (Sp.faces2 q).2 1 = K at *
  have hnl : q.next.length = q.tail.length := h.link.nx
  have ev := h.link.ev
  have hoo : ∀ d, d < q.tail.length → Sp.oth d < q.tail.length := fun d hd => oth_lt hd ev
  have hnx : ∀ d, d < q.tail.length → Sp.fn (Sp.behindL q.next) (Sp.oth d) = Sp.fn q.next d := fun d hd => by
    rw [fn_behind _ _ (by rw [hnl]; exact hoo d hd), oth_oth]
  -- what next leads to instead of the darts themselves
  have hB : Sp.sumN (fun d => if q.tail.getD d 0 = u then P.getD (L.getD d 0).toNat 0 else 0) q.tail.length = Sp.sumN (fun d => if q.tail.getD d 0 = u then P.getD (L.getD (Sp.fn q.next d) 0).toNat 0 else 0) q.tail.length := by
    have hp := Sp.sumN_perm (n := q.tail.length) (f := Sp.fn q.next) h.mpN (fun i j hi hj e => h.link.pm.fnP.inj i j (by rw [hnl]; exact hi) (by rw [hnl]; exact hj) e) (fun j hj => by
      obtain ⟨i, hi, e⟩ := Sp.perm_onto h.link.pm (d := j) (by rw [hnl]; exact hj)
      exact ⟨i, by rw [← hnl]; exact hi, e⟩) (fun d => if q.tail.getD d 0 = u then P.getD (L.getD d 0).toNat 0 else 0)
    rw [← hp]
    exact Sp.sumN_congr _ fun d hd => by simp only [h.tailN hd]
  have hA : Sp.sumN (fun d => if q.tail.getD d 0 = u then Sp.rise L P d else 0) q.tail.length = Sp.sumN (fun d => if q.tail.getD d 0 = u then P.getD (L.getD (Sp.oth d) 0).toNat 0 - P.getD (L.getD (Sp.fn q.next d) 0).toNat 0 else 0) q.tail.length := by
    have e1 : Sp.sumN (fun d => if q.tail.getD d 0 = u then Sp.rise L P d else 0) q.tail.length = Sp.sumN (fun d => (if q.tail.getD d 0 = u then P.getD (L.getD (Sp.oth d) 0).toNat 0 else 0) - (if q.tail.getD d 0 = u then P.getD (L.getD d 0).toNat 0 else 0)) q.tail.length := Sp.sumN_congr _ fun d _ => by
      unfold Sp.rise
      split <;> omega
    rw [e1, Sp.sumN_sub, hB, ← Sp.sumN_sub]
    exact Sp.sumN_congr _ fun d _ => by split <;> omega
  rw [hA]
  -- over the others
  have hp := Sp.sumN_perm (n := q.tail.length) (f := Sp.oth) hoo (fun i j _ _ e => by rw [← oth_oth i, e, oth_oth]) (fun j hj => ⟨Sp.oth j, hoo j hj, oth_oth j⟩) (fun d => if q.tail.getD d 0 = u then P.getD (L.getD (Sp.oth d) 0).toNat 0 - P.getD (L.getD (Sp.fn q.next d) 0).toNat 0 else 0)
  rw [← hp]
  have e2 : Sp.sumN (fun i => if q.tail.getD (Sp.oth i) 0 = u then P.getD (L.getD (Sp.oth (Sp.oth i)) 0).toNat 0 - P.getD (L.getD (Sp.fn q.next (Sp.oth i)) 0).toNat 0 else 0) q.tail.length = Sp.sumN (fun i => (if i = d1 then (if t = u then P.getD f 0 - P.getD K 0 else 0) else 0) + (if i = d2 then (if s = u then P.getD K 0 - P.getD f 0 else 0) else 0)) q.tail.length := Sp.sumN_congr _ fun e he => by
    have ho := hoo e he
    have e3 : Sp.fn q.next (Sp.oth e) = Sp.fn (Sp.behindL q.next) e := by rw [← hnx _ ho, oth_oth]
    have e4 : q.tail.getD (Sp.oth e) 0 = q.tail.getD (Sp.fn (Sp.behindL q.next) e) 0 := by rw [← e3, h.tailN ho]
    simp only [e3, e4, oth_oth]
    rcases hdf e he with ⟨g1, g2, g3⟩ | ⟨g1, g2, g3, g4⟩ | ⟨g1, g2, g3, g4⟩
    · rw [g1, if_neg g2, if_neg g3]
      split <;> omega
    · have g5 : e ≠ d2 := fun g => D12 (g1.symm.trans g)
      rw [if_pos g1, if_neg g5, g2, g3, g4, Int.toNat_natCast, Int.toNat_natCast]
      omega
    · have g5 : e ≠ d1 := fun g => D12 (g.symm.trans g1)
      rw [if_neg g5, if_pos g1, g2, g3, g4, Int.toNat_natCast, Int.toNat_natCast]
      omega
  rw [e2, Sp.sumN_add, Sp.sumN_one, Sp.sumN_one, if_pos hd1, if_pos hd2]
end Go.Proofs.Ytoegjnolccabjab


/- In a plane net what sums to nothing about each vertex is a rise: of heights of its faces. -/
namespace Go.Proofs.Ytoegjnolccabjab

/-- What sums to nothing about each vertex is a rise of heights that are one about each face. -/
def Sp.Cir (q : Sp.Net) : Prop := ∀ g : Nat → Int, (∀ d, d < q.tail.length → g (Sp.oth d) = - g d) → (∀ v : Int, Sp.sumN (fun d => if q.tail.getD d 0 = v then g d else 0) q.tail.length = 0) →
  ∃ H : Nat → Int, (∀ x, x < q.tail.length → H (Sp.fn (Sp.behindL q.next) x) = H x) ∧ ∀ d, d < q.tail.length → g d = H (Sp.oth d) - H d
/-- Heights that are one about each face: the rise sums to nothing about each vertex. -/
theorem Sp.PlaneQ.vzero {q : Sp.Net} {i : Nat} (hq : Sp.PlaneQ q i) {H : Nat → Int} (h : ∀ x, x < q.tail.length → H (Sp.fn (Sp.behindL q.next) x) = H x) (v : Int) :
    Sp.sumN (fun d => if q.tail.getD d 0 = v then H (Sp.oth d) - H d else 0) q.tail.length = 0 := by
  have e : Sp.sumN (fun d => if q.tail.getD d 0 = v then H (Sp.oth d) - H d else 0) q.tail.length = Sp.sumN (fun d => (if q.tail.getD (Sp.fn q.next d) 0 = v then H (Sp.fn q.next d) else 0) - (if q.tail.getD d 0 = v then H d else 0)) q.tail.length :=
    Sp.sumN_congr _ fun d hd => by
      have ho := oth_lt hd hq.ev
      have h1 := h _ ho
      rw [fn_behind _ _ (by rw [hq.nx]; exact ho), oth_oth] at h1
      have h2 : q.tail.getD (Sp.fn q.next d) 0 = q.tail.getD d 0 := hq.tn d (by rw [hq.nx]; exact hd)
      rw [h2, h1]
      by_cases e : q.tail.getD d 0 = v
      · rw [if_pos e, if_pos e, if_pos e]
      · rw [if_neg e, if_neg e, if_neg e]; rfl
  rw [e, Sp.sumN_sub, Sp.sumN_perm (f := Sp.fn q.next) (g := fun j => if q.tail.getD j 0 = v then H j else 0) hq.mpN (fun i j hi hj e => ?_) (fun j hj => ?_)]
  · omega
  · exact hq.pm.fnP.inj i j (by rw [hq.nx]; exact hi) (by rw [hq.nx]; exact hj) e
  · obtain ⟨i, h1, h2⟩ := Sp.perm_onto hq.pm (d := j) (by rw [hq.nx]; exact hj)
    exact ⟨i, by rw [hq.nx] at h1; exact h1, h2⟩
theorem Sp.Cir.loop (c d : Int) : Sp.Cir ⟨1, [0, 0], [1, 0], [c, d]⟩ := by
  intro g ha hv
  have h0 : g 1 = - g 0 := ha 0 (by show 0 < 2; omega)
  refine ⟨fun x => if x = 0 then 0 else g 0, fun x hx => ?_, fun d hd => ?_⟩
  · have hx' : x < 2 := hx
    rcases (show x = 0 ∨ x = 1 by omega) with rfl | rfl
    · rfl
    · rfl
  · have hd' : d < 2 := hd
    rcases (show d = 0 ∨ d = 1 by omega) with rfl | rfl
    · show g 0 = g 0 - 0; omega
    · show g 1 = 0 - g 0; omega
theorem Sp.Cir.edge (c d : Int) : Sp.Cir ⟨2, [0, 1], [0, 1], [c, d]⟩ := by
  intro g ha hv
  have h0 : g 1 = - g 0 := ha 0 (by show 0 < 2; omega)
  have h1 : 0 + g 0 + 0 = 0 := hv 0
  refine ⟨fun _ => 0, fun x hx => rfl, fun d hd => ?_⟩
  have hd' : d < 2 := hd
  rcases (show d = 0 ∨ d = 1 by omega) with rfl | rfl
  · show g 0 = 0 - 0; omega
  · show g 1 = 0 - 0; omega
theorem Sp.Cir.growN {q : Sp.Net} {i : Nat} (hq : Sp.PlaneQ q i) (h : Sp.Cir q) (e : Nat) (he : e < q.tail.length) (c d : Int) : Sp.Cir (Sp.growN q e c d) := by
  intro g ha hv
  have hL : (Sp.growN q e c d).tail.length = q.tail.length + 2 := by simp [Sp.growN]
  have ht : ∀ x, x < q.tail.length + 2 → (Sp.growN q e c d).tail.getD x 0 = if x < q.tail.length then q.tail.getD x 0 else if x = q.tail.length then q.tail.getD e 0 else q.n := fun x hx => app2_get _ _ _ _ hx
  have t0 : (Sp.growN q e c d).tail.getD q.tail.length 0 = q.tail.getD e 0 := by rw [ht _ (by omega), if_neg (by omega), if_pos rfl]
  have t1 : (Sp.growN q e c d).tail.getD (q.tail.length + 1) 0 = q.n := by rw [ht _ (by omega), if_neg (by omega), if_neg (by omega)]
  have hen : e < q.next.length := by rw [hq.nx]; exact he
  have hevn : q.next.length % 2 = 0 := by rw [hq.nx]; exact hq.ev
  have hoe := oth_lt he hq.ev
  have o := oth_new hq.ev
  have htb := hq.tb _ (Sp.getD_mem he)
  rw [hL] at ha hv ⊢
  have hn : g (q.tail.length + 1) = 0 := by
    have h1 := hv q.n
    rw [Sp.sumN, Sp.sumN] at h1
    rw [Sp.sumN_congr q.tail.length (g := fun d_1 => if (Sp.growN q e c d).tail.getD d_1 0 = q.n then g d_1 else 0) (h := fun _ => 0) (fun x hx => by
      show (if (Sp.growN q e c d).tail.getD x 0 = q.n then g x else 0) = 0
      have hb := hq.tb _ (Sp.getD_mem hx)
      rw [ht x (by omega), if_pos hx, if_neg (by omega)]), Sp.sumN_zero, t0, t1, if_pos rfl] at h1
    rw [if_neg (by omega)] at h1
    omega
  have hL0 : g q.tail.length = 0 := by
    have h1 := ha q.tail.length (by omega)
    rw [o.1] at h1
    omega
  obtain ⟨H, h1, h2⟩ := h g (fun d hd => ha d (by omega)) (fun v => by
    have h3 := hv v
    rw [Sp.sumN, Sp.sumN, hL0, hn, ite_self, ite_self] at h3
    rw [← Sp.sumN_congr q.tail.length (g := fun d_1 => if (Sp.growN q e c d).tail.getD d_1 0 = v then g d_1 else 0) (fun x hx => by
      show (if (Sp.growN q e c d).tail.getD x 0 = v then g x else 0) = _
      rw [ht x (by omega), if_pos hx])]
    omega)
  have hbm := hq.pmB.mp
  refine ⟨fun x => if x < q.tail.length then H x else H (Sp.oth e), fun x hx => ?_, fun d' hd => ?_⟩
  · have hB := behind_new hen hevn x (by rw [hq.nx]; exact hx)
    rw [hq.nx] at hB
    have hB' : Sp.fn (Sp.behindL (Sp.growN q e c d).next) x = insF (q.tail.length + 1) q.tail.length (insF q.tail.length (Sp.oth e) (Sp.fn (Sp.behindL q.next))) x := hB
    rw [hB']
    unfold insF
    by_cases e1 : x = q.tail.length
    · rw [if_pos e1]
      show (if q.tail.length + 1 < q.tail.length then _ else _) = if x < q.tail.length then _ else _
      rw [if_neg (by omega), if_neg (by omega)]
    · rw [if_neg e1]
      by_cases e2 : x = q.tail.length + 1
      · rw [if_pos e2, if_neg (by omega), if_pos rfl]
        show (if Sp.fn (Sp.behindL q.next) (Sp.oth e) < q.tail.length then _ else _) = if x < q.tail.length then _ else _
        rw [if_pos (hbm _ hoe), if_neg (by omega), h1 _ hoe]
      · rw [if_neg e2]
        have hxl : x < q.tail.length := by omega
        by_cases e3 : x = Sp.oth e
        · rw [if_pos e3]
          show (if q.tail.length < q.tail.length then _ else _) = if x < q.tail.length then _ else _
          rw [if_neg (by omega), if_pos hxl, e3]
        · rw [if_neg e3, if_neg e1]
          show (if Sp.fn (Sp.behindL q.next) x < q.tail.length then _ else _) = if x < q.tail.length then _ else _
          rw [if_pos (hbm _ hxl), if_pos hxl, h1 _ hxl]
  · by_cases e1 : d' < q.tail.length
    · show g d' = (if Sp.oth d' < q.tail.length then _ else _) - if d' < q.tail.length then _ else _
      rw [if_pos (oth_lt e1 hq.ev), if_pos e1]
      exact h2 d' e1
    · show g d' = (if Sp.oth d' < q.tail.length then _ else _) - if d' < q.tail.length then _ else _
      rcases (show d' = q.tail.length ∨ d' = q.tail.length + 1 by omega) with rfl | rfl
      · rw [o.1, if_neg (by omega), if_neg (by omega), hL0]; omega
      · rw [o.2, if_neg (by omega), if_neg (by omega), hn]; omega
theorem Sp.Cir.growF {q : Sp.Net} {i : Nat} (hq : Sp.PlaneQ q i) (hp : Sp.Plain q) (h : Sp.Cir q) (e g : Nat) (he : e < q.tail.length) (hg : g < q.tail.length) (c d : Int) (hcc : 0 ≤ c ∧ c ≤ 2147483648) (hdd : 0 ≤ d ∧ d ≤ 2147483648)
    (hs : (Sp.faces2 q).1.getD (q.next.getD g 0).toNat 0 = (Sp.faces2 q).1.getD (q.next.getD e 0).toNat 0) : Sp.Cir (Sp.growF q e g c d) := by
  intro k ha hv
  have hq' := hq.growF e g he hg c d hcc hdd
  have hL : (Sp.growF q e g c d).tail.length = q.tail.length + 2 := by simp [Sp.growF]
  have ht : ∀ x, x < q.tail.length + 2 → (Sp.growF q e g c d).tail.getD x 0 = if x < q.tail.length then q.tail.getD x 0 else if x = q.tail.length then q.tail.getD e 0 else q.tail.getD g 0 := fun x hx => app2_get _ _ _ _ hx
  have t0 : (Sp.growF q e g c d).tail.getD q.tail.length 0 = q.tail.getD e 0 := by rw [ht _ (by omega), if_neg (by omega), if_pos rfl]
  have t1 : (Sp.growF q e g c d).tail.getD (q.tail.length + 1) 0 = q.tail.getD g 0 := by rw [ht _ (by omega), if_neg (by omega), if_neg (by omega)]
  have hen : e < q.next.length := by rw [hq.nx]; exact he
  have hgn : g < q.next.length := by rw [hq.nx]; exact hg
  have hevn : q.next.length % 2 = 0 := by rw [hq.nx]; exact hq.ev
  have hoe := oth_lt he hq.ev
  have hog := oth_lt hg hq.ev
  have o := oth_new hq.ev
  have hbm := hq.pmB.mp
  have hk1 := ha q.tail.length (by rw [hL]; omega)
  rw [o.1] at hk1
  by_cases hge : g = e
  · have hnx : (Sp.growF q e g c d).next = Sp.layIn (Sp.layIn (q.next ++ [(q.next.length : Int), ((q.next.length + 1 : Nat) : Int)]) e q.next.length) q.next.length (q.next.length + 1) := by
      unfold Sp.growF
      rw [hq.nx]
      show Sp.layIn _ (if g = e then _ else g) _ = _
      rw [if_pos hge]
    rw [hL] at ha hv ⊢
    obtain ⟨H, h1, h2⟩ := h k (fun d hd => ha d (by omega)) (fun v => by
      have h3 := hv v
      rw [Sp.sumN, Sp.sumN, t0, t1, hge, hk1] at h3
      rw [← Sp.sumN_congr q.tail.length (g := fun d_1 => if (Sp.growF q e g c d).tail.getD d_1 0 = v then k d_1 else 0) (fun x hx => by
        show (if (Sp.growF q e g c d).tail.getD x 0 = v then k x else 0) = _
        rw [ht x (by omega), if_pos hx])]
      subst hge
      split at h3 <;> omega)
    refine ⟨fun x => if x < q.tail.length then H x else if x = q.tail.length then H (Sp.oth e) else H (Sp.oth e) + k q.tail.length, fun x hx => ?_, fun d' hd => ?_⟩
    · have hB := behind_loop hen hevn x (by rw [hq.nx]; exact hx)
      rw [hnx, hB, hq.nx]
      unfold fixF insF
      show (if (if x = q.tail.length + 1 then _ else _) < q.tail.length then _ else _) = if x < q.tail.length then _ else _
      by_cases e2 : x = q.tail.length + 1
      · rw [if_pos e2, if_neg (by omega), if_neg (by omega), if_neg (by omega), if_neg (by omega)]
      · rw [if_neg e2]
        by_cases e3 : x = Sp.oth e
        · rw [if_pos e3, if_neg (by omega), if_pos rfl, if_pos (by omega), e3]
        · rw [if_neg e3]
          by_cases e1 : x = q.tail.length
          · rw [if_pos e1, if_pos (hbm _ hoe), if_neg (by omega), if_pos e1, h1 _ hoe]
          · have hxl : x < q.tail.length := by omega
            rw [if_neg e1, if_pos (hbm _ hxl), if_pos hxl, h1 _ hxl]
    · show k d' = (if Sp.oth d' < q.tail.length then _ else _) - if d' < q.tail.length then _ else _
      by_cases e1 : d' < q.tail.length
      · rw [if_pos (oth_lt e1 hq.ev), if_pos e1]
        exact h2 d' e1
      · rcases (show d' = q.tail.length ∨ d' = q.tail.length + 1 by omega) with rfl | rfl
        · rw [o.1, if_neg (by omega), if_neg (by omega), if_neg (by omega), if_pos rfl]; omega
        · rw [o.2, if_neg (by omega), if_pos rfl, if_neg (by omega), if_neg (by omega), hk1]; omega
  · have hnx : (Sp.growF q e g c d).next = Sp.layIn (Sp.layIn (q.next ++ [(q.next.length : Int), ((q.next.length + 1 : Nat) : Int)]) e q.next.length) g (q.next.length + 1) := by
      unfold Sp.growF
      rw [hq.nx]
      show Sp.layIn _ (if g = e then _ else g) _ = _
      rw [if_neg hge]
    have hoge : Sp.oth g ≠ Sp.oth e := fun h => hge (oth_inj h)
    have hBf : ∀ x, x < q.tail.length + 2 → Sp.fn (Sp.behindL (Sp.growF q e g c d).next) x = swpF q.tail.length (q.tail.length + 1) (insF (q.tail.length + 1) (Sp.oth g) (insF q.tail.length (Sp.oth e) (Sp.fn (Sp.behindL q.next)))) x := fun x hx => by
      have := behind_across hen hgn hge hevn x (by rw [hq.nx]; exact hx)
      rw [hq.nx] at this
      rw [hnx, hq.nx]
      exact this
    obtain ⟨lab, F, hf, he2⟩ := hp.face
    have hmpB := insF_mp hbm hoe
    have hsame : lab (Sp.oth e) = lab (Sp.oth g) := by
      have hc := (Sp.faces2_st hq.pm hq.nx hq.ev).cls
      rw [Sp.behindL_len, hq.nx] at hc
      have fe : Sp.fn (Sp.behindL q.next) (Sp.oth e) = (q.next.getD e 0).toNat := by rw [fn_behind _ _ (by rw [hq.nx]; exact hoe), oth_oth]; rfl
      have fg : Sp.fn (Sp.behindL q.next) (Sp.oth g) = (q.next.getD g 0).toNat := by rw [fn_behind _ _ (by rw [hq.nx]; exact hog), oth_oth]; rfl
      have a1 := hbm _ hoe
      have a2 := hbm _ hog
      have ho := hc.sep _ _ a1 a2 (by rw [fe, fg, hs])
      have := hf.orb hbm a1 ho
      rw [hf.inv _ hoe, hf.inv _ hog] at this
      exact this
    have hc2 := (hf.ins hbm hoe).ins hmpB (u := Sp.oth g) (by omega)
    have hp2 := insF_perm (insF_perm hq.pmB hoe) (u := Sp.oth g) (by omega)
    have horb := hc2.sep q.tail.length (q.tail.length + 1) (by omega) (by omega) (by
      show (if q.tail.length = q.tail.length + 1 then _ else if q.tail.length = q.tail.length then lab (Sp.oth e) else _) = if q.tail.length + 1 = q.tail.length + 1 then (if Sp.oth g = q.tail.length then lab (Sp.oth e) else lab (Sp.oth g)) else _
      rw [if_neg (by omega), if_pos rfl, if_pos rfl, if_neg (by omega), hsame])
    obtain ⟨lab3, hc3⟩ := hc2.split hp2 (by omega) (by omega) (by omega) horb
    have hp3 := swpF_perm hp2 (u := q.tail.length) (v := q.tail.length + 1) (by omega) (by omega)
    have hne : lab3 q.tail.length ≠ lab3 (q.tail.length + 1) := fun hh => by
      obtain ⟨lab4, hc4⟩ := hc3.split hp3 (by omega) (by omega) (by omega) (hc3.sep _ _ (by omega) (by omega) hh)
      have h5 := hc4.congr (f' := insF (q.tail.length + 1) (Sp.oth g) (insF q.tail.length (Sp.oth e) (Sp.fn (Sp.behindL q.next)))) (swpF_perm hp3 (by omega) (by omega)).mp (fun x _ => by
        generalize insF (q.tail.length + 1) (Sp.oth g) (insF q.tail.length (Sp.oth e) (Sp.fn (Sp.behindL q.next))) = f2
        unfold swpF
        by_cases x1 : x = q.tail.length
        · rw [if_pos x1, if_neg (by omega), if_pos rfl, x1]
        · rw [if_neg x1]
          by_cases x2 : x = q.tail.length + 1
          · rw [if_pos x2, if_pos rfl, x2]
          · rw [if_neg x2, if_neg x1, if_neg x2]) (fun x _ => rfl)
      have := hc2.count hp2.mp h5
      omega
    have hB3 : ∀ x, x < q.tail.length + 2 → lab3 (Sp.fn (Sp.behindL (Sp.growF q e g c d).next) x) = lab3 x := fun x hx => by rw [hBf x hx]; exact hc3.inv x hx
    obtain ⟨R, hR⟩ : ∃ R : Nat → Int, (fun x => if lab3 x = lab3 (q.tail.length + 1) then k q.tail.length else 0) = R := ⟨_, rfl⟩
    have hvz := hq'.vzero (H := R) (fun x hx => by
      rw [← hR]
      show (if lab3 _ = _ then _ else _) = if lab3 x = _ then _ else _
      rw [hB3 x (by omega)])
    rw [hL] at ha hv hvz ⊢
    have hRL : R q.tail.length = 0 := by rw [← hR]; exact if_neg hne
    have hRL1 : R (q.tail.length + 1) = k q.tail.length := by rw [← hR]; exact if_pos rfl
    have hRb : ∀ x, x < q.tail.length + 2 → R (Sp.fn (Sp.behindL (Sp.growF q e g c d).next) x) = R x := fun x hx => by
      rw [← hR]
      show (if lab3 _ = _ then _ else _) = if lab3 x = _ then _ else _
      rw [hB3 x hx]
    obtain ⟨H, h1, h2⟩ := h (fun x => k x - (R (Sp.oth x) - R x)) (fun d hd => by
        show k (Sp.oth d) - (R (Sp.oth (Sp.oth d)) - R (Sp.oth d)) = -(k d - (R (Sp.oth d) - R d))
        have := ha d (by omega)
        rw [oth_oth]
        omega) (fun v => by
      have h3 := hv v
      have h4 := hvz v
      have h5 := Sp.sumN_sub (fun d_1 => if (Sp.growF q e g c d).tail.getD d_1 0 = v then k d_1 else 0) (fun d_1 => if (Sp.growF q e g c d).tail.getD d_1 0 = v then R (Sp.oth d_1) - R d_1 else 0) (q.tail.length + 2)
      rw [h3, h4] at h5
      rw [Sp.sumN, Sp.sumN, o.1, o.2, hRL, hRL1, hk1] at h5
      have e1 : ∀ (p : Prop) [Decidable p], (if p then k q.tail.length else 0) - (if p then k q.tail.length - 0 else 0) = 0 := fun p _ => by split <;> omega
      have e2 : ∀ (p : Prop) [Decidable p], (if p then -k q.tail.length else 0) - (if p then 0 - k q.tail.length else 0) = 0 := fun p _ => by split <;> omega
      rw [e1, e2] at h5
      rw [← Sp.sumN_congr q.tail.length (g := fun d_1 => (if (Sp.growF q e g c d).tail.getD d_1 0 = v then k d_1 else 0) - (if (Sp.growF q e g c d).tail.getD d_1 0 = v then R (Sp.oth d_1) - R d_1 else 0)) (fun x hx => by
        show (if (Sp.growF q e g c d).tail.getD x 0 = v then k x else 0) - (if (Sp.growF q e g c d).tail.getD x 0 = v then R (Sp.oth x) - R x else 0) = _
        rw [ht x (by omega), if_pos hx]
        split <;> omega)]
      omega)
    have hH : ∀ x, x < q.tail.length → ∀ m, itf (Sp.fn (Sp.behindL q.next)) x m < q.tail.length ∧ H (itf (Sp.fn (Sp.behindL q.next)) x m) = H x := fun x hx m => by
      induction m with
      | zero => exact ⟨hx, rfl⟩
      | succ m ih =>
        refine ⟨hbm _ ih.1, ?_⟩
        show H (Sp.fn (Sp.behindL q.next) _) = _
        rw [h1 _ ih.1, ih.2]
    have hHge : H (Sp.oth e) = H (Sp.oth g) := by
      obtain ⟨m, hm⟩ := hf.sep _ _ hoe hog hsame
      rw [← hm, (hH _ hoe m).2]
    refine ⟨fun x => (if x < q.tail.length then H x else H (Sp.oth e)) + R x, fun x hx => ?_, fun d' hd => ?_⟩
    · show (if Sp.fn _ x < q.tail.length then _ else _) + R (Sp.fn _ x) = (if x < q.tail.length then _ else _) + R x
      rw [hRb x hx, hBf x hx]
      congr 1
      have f2L1 : insF (q.tail.length + 1) (Sp.oth g) (insF q.tail.length (Sp.oth e) (Sp.fn (Sp.behindL q.next))) (q.tail.length + 1) = Sp.fn (Sp.behindL q.next) (Sp.oth g) := by
        unfold insF
        rw [if_neg (show ¬ q.tail.length + 1 = Sp.oth g by omega), if_pos rfl, if_neg hoge, if_neg (show ¬ Sp.oth g = q.tail.length by omega)]
      have f2L : insF (q.tail.length + 1) (Sp.oth g) (insF q.tail.length (Sp.oth e) (Sp.fn (Sp.behindL q.next))) q.tail.length = Sp.fn (Sp.behindL q.next) (Sp.oth e) := by
        unfold insF
        rw [if_neg (show ¬ q.tail.length = Sp.oth g by omega), if_neg (show ¬ q.tail.length = q.tail.length + 1 by omega), if_neg (show ¬ q.tail.length = Sp.oth e by omega), if_pos rfl]
      unfold swpF
      by_cases x1 : x = q.tail.length
      · rw [if_pos x1, f2L1, if_pos (hbm _ hog), if_neg (show ¬ x < q.tail.length by omega), h1 _ hog, hHge]
      · rw [if_neg x1]
        by_cases x2 : x = q.tail.length + 1
        · rw [if_pos x2, f2L, if_pos (hbm _ hoe), if_neg (show ¬ x < q.tail.length by omega), h1 _ hoe]
        · have hxl : x < q.tail.length := by omega
          rw [if_neg x2]
          unfold insF
          by_cases x3 : x = Sp.oth g
          · rw [if_pos x3, if_neg (show ¬ q.tail.length + 1 < q.tail.length by omega), if_pos hxl, x3, hHge]
          · rw [if_neg x3]
            by_cases x4 : x = Sp.oth e
            · rw [if_neg x2, if_pos x4, if_neg (show ¬ q.tail.length < q.tail.length by omega), if_pos hxl, x4]
            · rw [if_neg x2, if_neg x4, if_neg x1, if_pos (hbm _ hxl), if_pos hxl, h1 _ hxl]
    · show k d' = ((if Sp.oth d' < q.tail.length then _ else _) + R (Sp.oth d')) - ((if d' < q.tail.length then _ else _) + R d')
      by_cases e1 : d' < q.tail.length
      · rw [if_pos (oth_lt e1 hq.ev), if_pos e1]
        have h3 : k d' - (R (Sp.oth d') - R d') = H (Sp.oth d') - H d' := h2 d' e1
        omega
      · rcases (show d' = q.tail.length ∨ d' = q.tail.length + 1 by omega) with rfl | rfl
        · rw [o.1, if_neg (by omega), if_neg (by omega), hRL, hRL1]; omega
        · rw [o.2, if_neg (by omega), if_neg (by omega), hRL, hRL1, hk1]; omega
end Go.Proofs.Ytoegjnolccabjab


/- Passes one behind the other: where a row of shortest ways is, n - 1 of them come to it; where one changes nothing there is such a row. -/
namespace Go.Proofs.Ytoegjnolccabjab
open Go Go.RowKit

def Sp.ps (far : Int) (L : List Sp.Arc) (d : Nat → Int) : Nat → Nat → Int
  | 0 => d
  | k + 1 => Sp.rxs far L (Sp.ps far L d k)
theorem Sp.Att.rxs {far : Int} {L0 : List Sp.Arc} {s n : Nat} (hf : 0 < far) : ∀ (L : List Sp.Arc) (d : Nat → Int), (∀ a ∈ L, a ∈ L0 ∧ a.f < n) → Sp.Att far L0 s n d → Sp.Att far L0 s n (Sp.rxs far L d)
  | [], _, _, h => h
  | a :: L, _, hL, h => Sp.Att.rxs hf L _ (fun b hb => hL b (List.mem_cons_of_mem _ hb)) (h.rx hf (hL a (List.mem_cons_self ..)).1 (hL a (List.mem_cons_self ..)).2)
theorem Sp.Att.ps {far : Int} {L : List Sp.Arc} {s n : Nat} {d : Nat → Int} (hf : 0 < far) (hL : ∀ a ∈ L, a.f < n) (h : Sp.Att far L s n d) : ∀ k, Sp.Att far L s n (Sp.ps far L d k)
  | 0 => h
  | k + 1 => Sp.Att.rxs hf L _ (fun a ha => ⟨ha, hL a ha⟩) (Sp.Att.ps hf hL h k)
/-- The first row: s alone is reached. -/
def Sp.d0 (far : Int) (s : Nat) : Nat → Int := fun v => if v = s then 0 else far
end Go.Proofs.Ytoegjnolccabjab


/- Places settled one by one, the nearest first (P601: From). -/
namespace Go.Proofs.Ytoegjnolccabjab
open Go Go.RowKit

/-- What stays while places are settled. -/
structure Sp.Dj (far : Int) (L : List Sp.Arc) (s n : Nat) (B : Nat → Int) (S : Nat → Prop) : Prop where
  at_ : Sp.Att far L s n B
  got : ∀ v, S v → B v ≠ far
  shut : ∀ v, S v → ∀ a ∈ L, a.f = v → B a.t ≠ far ∧ B a.t ≤ B v + a.l
  near : ∀ v u, S v → ¬ S u → u < n → B u ≠ far → B v ≤ B u
/-- While the arcs of the place x are tried: those of P are. -/
structure Sp.DjX (far : Int) (L : List Sp.Arc) (s n x : Nat) (B : Nat → Int) (S : Nat → Prop) (P : Sp.Arc → Prop) : Prop where
  at_ : Sp.Att far L s n B
  got : ∀ v, S v → B v ≠ far
  shut : ∀ v, S v → ∀ a ∈ L, a.f = v → B a.t ≠ far ∧ B a.t ≤ B v + a.l
  below : ∀ v, S v → B v ≤ B x
  above : ∀ u, ¬ S u → u < n → B u ≠ far → B x ≤ B u
  xg : B x ≠ far
  done : ∀ a ∈ L, a.f = x → P a → B a.t ≠ far ∧ B a.t ≤ B x + a.l
theorem Sp.Dj.open_ {far : Int} {L : List Sp.Arc} {s n x : Nat} {B : Nat → Int} {S : Nat → Prop} (h : Sp.Dj far L s n B S) (hx : ¬ S x) (hxn : x < n) (hg : B x ≠ far) (hmin : ∀ u, ¬ S u → u < n → B u ≠ far → B x ≤ B u) : Sp.DjX far L s n x B S (fun _ => False) :=
  ⟨h.at_, h.got, h.shut, fun v hv => h.near v x hv hx hxn hg, hmin, hg, fun _ _ _ hp => hp.elim⟩
/-- An arc of x is tried. -/
theorem Sp.DjX.try_ {far : Int} {L : List Sp.Arc} {s n x : Nat} {B : Nat → Int} {S : Nat → Prop} {P : Sp.Arc → Prop} (h : Sp.DjX far L s n x B S P) (hf : 0 < far) (hpos : ∀ a ∈ L, 0 < a.l) (hxn : x < n) {a : Sp.Arc} (ha : a ∈ L) (hax : a.f = x) (hlt : B x + a.l < far) : Sp.DjX far L s n x (Sp.rx far B a) S (fun b => P b ∨ b = a) := by
  have hp := hpos a ha
  have e : ∀ v, Sp.rx far B a v = if v = a.t ∧ B x + a.l < B a.t then B x + a.l else B v := fun v => by
    unfold Sp.rx
    rw [hax]
    by_cases hc : v = a.t ∧ B x + a.l < B a.t
    · rw [if_pos hc, if_pos ⟨hc.1, h.xg, hc.2⟩]
    · rw [if_neg hc, if_neg (fun hh => hc ⟨hh.1, hh.2.2⟩)]
  have ex : Sp.rx far B a x = B x := by
    rw [e]
    split
    · rename_i hc; rw [← hc.1] at hc; omega
    · rfl
  have eS : ∀ v, S v → Sp.rx far B a v = B v := fun v hv => by
    rw [e]
    split
    · rename_i hc
      have := h.below v hv
      rw [← hc.1] at hc
      omega
    · rfl
  have hle : ∀ v, B v ≠ far → Sp.rx far B a v ≠ far ∧ Sp.rx far B a v ≤ B v := fun v hv => by
    rw [e]
    split
    · rename_i hc
      rw [← hc.1] at hc
      exact ⟨by omega, by omega⟩
    · exact ⟨hv, Int.le_refl _⟩
  refine ⟨h.at_.rx hf ha (by omega), fun v hv => by rw [eS v hv]; exact h.got v hv, fun v hv b hb hbf => ?_, fun v hv => by rw [eS v hv, ex]; exact h.below v hv, fun u hu hun hne => ?_, by rw [ex]; exact h.xg, fun b hb hbx hP => ?_⟩
  · obtain ⟨h1, h2⟩ := h.shut v hv b hb hbf
    obtain ⟨h3, h4⟩ := hle b.t h1
    rw [eS v hv]
    exact ⟨h3, by omega⟩
  · rw [ex]
    rw [e] at hne ⊢
    by_cases hc : u = a.t ∧ B x + a.l < B a.t
    · rw [if_pos hc]; omega
    · rw [if_neg hc] at hne ⊢
      exact h.above u hu hun hne
  · rw [ex]
    rcases hP with hP | hP
    · obtain ⟨h1, h2⟩ := h.done b hb hbx hP
      obtain ⟨h3, h4⟩ := hle b.t h1
      exact ⟨h3, by omega⟩
    · subst hP
      rw [e]
      by_cases hc : B x + b.l < B b.t
      · rw [if_pos ⟨rfl, hc⟩]; exact ⟨by omega, Int.le_refl _⟩
      · rw [if_neg (fun hh => hc hh.2)]
        exact ⟨by omega, by omega⟩
/-- All arcs of x are tried: it is settled. -/
theorem Sp.DjX.close {far : Int} {L : List Sp.Arc} {s n x : Nat} {B : Nat → Int} {S : Nat → Prop} {P : Sp.Arc → Prop} (h : Sp.DjX far L s n x B S P) (hall : ∀ a ∈ L, a.f = x → P a) : Sp.Dj far L s n B (fun v => S v ∨ v = x) := by
  refine ⟨h.at_, fun v hv => ?_, fun v hv a ha haf => ?_, fun v u hv hu hun hne => ?_⟩
  · rcases hv with hv | rfl
    · exact h.got v hv
    · exact h.xg
  · rcases hv with hv | rfl
    · exact h.shut v hv a ha haf
    · exact h.done a ha haf (hall a ha haf)
  · have h1 := h.above u (fun e => hu (.inl e)) hun hne
    rcases hv with hv | rfl
    · have := h.below v hv; omega
    · exact h1
/-- All that are reached are settled: the row is one of shortest ways. -/
theorem Sp.Dj.short {far : Int} {L : List Sp.Arc} {s n : Nat} {B : Nat → Int} {S : Nat → Prop} (h : Sp.Dj far L s n B S) (hL : ∀ a ∈ L, a.f < n ∧ a.t < n) (hpos : ∀ a ∈ L, 0 < a.l) (hsn : s < n) (hall : ∀ v, v < n → B v ≠ far → S v) : Sp.Short far L s n B := by
  have hw : ∀ m v x, Sp.Wk L s m v x → 0 ≤ x := by
    intro m
    induction m with
    | zero => intro v x hw; have := hw.2; omega
    | succ m ih =>
      intro v x hw
      obtain ⟨a, ha, -, hw⟩ := hw
      have := ih _ _ hw
      have := hpos a ha
      omega
  refine ⟨?_, fun a ha hne => h.shut a.f (hall a.f (hL a ha).1 hne) a ha rfl, h.at_.att⟩
  obtain ⟨m, hm⟩ := h.at_.att s hsn h.at_.src.1
  have := hw _ _ _ hm
  have := h.at_.src.2
  omega
end Go.Proofs.Ytoegjnolccabjab


/- Shortest ways, and of these the fewest arcs: one row of numbers for both (P601: Way). -/
namespace Go.Proofs.Ytoegjnolccabjab
open Go Go.RowKit

/-- The arcs, length and number in one. -/
def Sp.pairL (M : Int) (L : List Sp.Arc) : List Sp.Arc := L.map fun a => ⟨a.f, a.t, M * a.l + 1⟩
end Go.Proofs.Ytoegjnolccabjab


/- A round below 0, found by the arcs by which places were last shortened (P601: Any). -/
namespace Go.Proofs.Ytoegjnolccabjab
open Go Go.RowKit

/-- What stays along the passes: by tells for each place the arc that shortened it last; tm when; pn in which pass. -/
structure Sp.Tr (far : Int) (L : List Sp.Arc) (n : Nat) (d : Nat → Int) (by_ : Nat → Option Sp.Arc) (tm pn : Nat → Nat) (clock : Nat) : Prop where
  arc : ∀ v a, v < n → by_ v = some a → a ∈ L ∧ a.t = v ∧ d a.f ≠ far ∧ d a.f + a.l ≤ d v ∧ (tm v ≤ tm a.f → d a.f + a.l < d v) ∧ pn v ≤ pn a.f + 1
  past : ∀ v, tm v < clock
  some_ : ∀ v, v < n → 0 < pn v → by_ v ≠ none
/-- A place is shortened. -/
theorem Sp.Tr.put {far : Int} {L : List Sp.Arc} {n : Nat} {d : Nat → Int} {by_ : Nat → Option Sp.Arc} {tm pn : Nat → Nat} {clock k : Nat} (h : Sp.Tr far L n d by_ tm pn clock) {a : Sp.Arc} (ha : a ∈ L) (hg : d a.f ≠ far) (hlt : d a.f + a.l < d a.t) (hx : d a.f + a.l ≠ far) (hk : k ≤ pn a.f + 1) (hkt : pn a.t ≤ k) :
    Sp.Tr far L n (fun v => if v = a.t then d a.f + a.l else d v) (fun v => if v = a.t then some a else by_ v) (fun v => if v = a.t then clock else tm v) (fun v => if v = a.t then k else pn v) (clock + 1) := by
  refine ⟨fun v b hv hb => ?_, fun v => ?_, fun v hv hp => ?_⟩
  · by_cases e : v = a.t
    · rw [if_pos e] at hb
      injection hb with hb
      subst hb
      rw [if_pos e, if_pos e, if_pos e]
      by_cases e2 : a.f = a.t
      · rw [if_pos e2, if_pos e2, if_pos e2]
        rw [e2] at hlt hx hg ⊢
        exact ⟨ha, e.symm, hx, by omega, fun _ => by omega, by omega⟩
      · rw [if_neg e2, if_neg e2, if_neg e2]
        have := h.past a.f
        exact ⟨ha, e.symm, hg, Int.le_refl _, fun hh => by omega, hk⟩
    · rw [if_neg e] at hb
      obtain ⟨h1, h2, h3, h4, h5, h6⟩ := h.arc v b hv hb
      rw [if_neg e, if_neg e, if_neg e]
      by_cases e2 : b.f = a.t
      · rw [if_pos e2, if_pos e2, if_pos e2]
        rw [e2] at h4 h6
        exact ⟨h1, h2, hx, by omega, fun _ => by omega, by omega⟩
      · rw [if_neg e2, if_neg e2, if_neg e2]
        exact ⟨h1, h2, h3, h4, h5, h6⟩
  · show (if v = a.t then clock else tm v) < clock + 1
    split
    · omega
    · have := h.past v; omega
  · by_cases e : v = a.t
    · rw [if_pos e]; exact fun e => by cases e
    · rw [if_neg e] at hp ⊢
      exact h.some_ v hv hp
/-- Back along the arcs, m of them, from x to y, together z long. -/
def Sp.Bk (by_ : Nat → Option Sp.Arc) : Nat → Nat → Nat → Int → Prop
  | 0, x, y, z => x = y ∧ z = 0
  | m + 1, x, y, z => ∃ a, by_ x = some a ∧ Sp.Bk by_ m a.f y (z - a.l)
theorem Sp.Tr.back {far : Int} {L : List Sp.Arc} {n : Nat} {d : Nat → Int} {by_ : Nat → Option Sp.Arc} {tm pn : Nat → Nat} {clock : Nat} (h : Sp.Tr far L n d by_ tm pn clock) (hL : ∀ a ∈ L, a.f < n ∧ a.t < n) : ∀ m x y z, x < n → Sp.Bk by_ m x y z → y < n ∧ d y + z ≤ d x ∧ (m = 0 ∨ tm y < tm x ∨ d y + z < d x)
  | 0, x, y, z, hx, hb => by
    obtain ⟨rfl, rfl⟩ := hb
    exact ⟨hx, by omega, .inl rfl⟩
  | m + 1, x, y, z, hx, hb => by
    obtain ⟨a, ha, hb⟩ := hb
    obtain ⟨h1, h2, h3, h4, h5, -⟩ := h.arc x a hx ha
    obtain ⟨i1, i2, i3⟩ := Sp.Tr.back h hL m a.f y _ (hL a h1).1 hb
    refine ⟨i1, by omega, .inr ?_⟩
    by_cases ht : tm x ≤ tm a.f
    · have := h5 ht
      exact .inr (by omega)
    · rcases i3 with i3 | i3 | i3
      · subst i3
        obtain ⟨e, -⟩ := hb
        rw [← e]
        exact .inl (by omega)
      · exact .inl (by omega)
      · exact .inr (by omega)
/-- What comes round is below 0. -/
theorem Sp.Tr.round {far : Int} {L : List Sp.Arc} {n : Nat} {d : Nat → Int} {by_ : Nat → Option Sp.Arc} {tm pn : Nat → Nat} {clock : Nat} (h : Sp.Tr far L n d by_ tm pn clock) (hL : ∀ a ∈ L, a.f < n ∧ a.t < n) {m x : Nat} {z : Int} (hx : x < n) (hm : 0 < m) (hb : Sp.Bk by_ m x x z) : z < 0 := by
  obtain ⟨-, h1, h2⟩ := h.back hL m x x z hx hb
  rcases h2 with h2 | h2 | h2
  · omega
  · omega
  · omega
end Go.Proofs.Ytoegjnolccabjab


/- Package path: pass. -/
namespace Go.Proofs.Ytoegjnolccabjab
open Go Go.RowKit

def Sp.far : Int := 1152921504606846976
end Go.Proofs.Ytoegjnolccabjab


/- Costs in a row: two numbers each. slices.Repeat of costs. -/
namespace Go.Proofs.Ytoegjnolccabjab
open Go Go.RowKit

/-- Block b is a row of n numbers, two for each cost. -/
def CoAt (w : World) (b n : Nat) (z : Nat → Int) : Prop := ∃ c, w.heap[b]? = some (.cells c 76) ∧ c.size = n ∧ ∀ j, j < n → c[j]? = some (.int .i64 (z j))
theorem CoAt.lt {w : World} {b n : Nat} {z : Nat → Int} (h : CoAt w b n z) : b < w.heap.size := by
  obtain ⟨c, hc, -⟩ := h
  exact (Array.getElem?_eq_some_iff.1 hc).1
theorem CoAt.cell {w : World} {b n : Nat} {z : Nat → Int} (h : CoAt w b n z) {j : Nat} (hj : j < n) : w.cell? ⟨b, j, none⟩ = some (.int .i64 (z j)) := by
  obtain ⟨c, hc, -, hz⟩ := h
  simp only [World.cell?, hc]
  exact hz j hj
theorem CoAt.frozen {w : World} {b n : Nat} {z : Nat → Int} (h : CoAt w b n z) (j : Nat) (s : Option Nat) : w.frozen? ⟨b, j, s⟩ = false := by
  obtain ⟨c, hc, -⟩ := h
  simp only [World.frozen?, hc]
  simp
theorem CoAt.of_block {w w' : World} {b n : Nat} {z : Nat → Int} (h : CoAt w b n z) (e : w'.heap[b]? = w.heap[b]?) : CoAt w' b n z := by
  obtain ⟨c, hc, h1⟩ := h
  exact ⟨c, by rw [e]; exact hc, h1⟩
theorem CoAt.set {w : World} {b n : Nat} {z : Nat → Int} (h : CoAt w b n z) (j : Nat) (v : Int) : CoAt (w.setCell ⟨b, j, none⟩ (.int .i64 v)) b n (Sp.upd z j v) := by
  obtain ⟨c, hc, hs, hz⟩ := h
  refine ⟨c.setIfInBounds j (.int .i64 v), ?_, by simpa using hs, fun k hk => ?_⟩
  · simp only [World.setCell, Array.getElem?_modify, if_pos, hc]
    rfl
  · rw [Array.getElem?_setIfInBounds]
    by_cases hjk : j = k
    · rw [if_pos hjk, if_pos (by omega), ← hjk, Sp.upd_same]
    · rw [if_neg hjk, hz k hk, Sp.upd_other _ _ (by omega)]
theorem CoAt.set_ne {w : World} {b n : Nat} {z : Nat → Int} (h : CoAt w b n z) {b' : Nat} (hb : b ≠ b') (j : Nat) (s : Option Nat) (v : Value) : CoAt (w.setCell ⟨b', j, s⟩ v) b n z :=
  h.of_block (Below.heap_setCell _ _ _ _ hb)
theorem CoAt.below {w w' : World} {b n : Nat} {z : Nat → Int} (h : CoAt w b n z) (hb : Below w.heap.size w w') : CoAt w' b n z := h.of_block (hb.block b h.lt)
theorem CoAt.bt {p : Nat → Prop} {w w' : World} {b n : Nat} {z : Nat → Int} (h : CoAt w b n z) (hb : Bt p w w') (hp : ¬ p b) : CoAt w' b n z := h.of_block (hb.block b h.lt hp)
theorem CoAt.alloc {w : World} {b n : Nat} {z : Nat → Int} (h : CoAt w b n z) (o : Obj) : CoAt (w.alloc o) b n z := h.below ((Below.refl _ w).alloc (Nat.le_refl _) o)
theorem CoAt.drew {w : World} {b n : Nat} {z : Nat → Int} (h : CoAt w b n z) : CoAt w.drew b n z := h.of_block rfl
theorem CoAt.dn {w : World} {b n : Nat} {z : Nat → Int} (h : CoAt w b n z) (k : Nat) : CoAt (w.drewN k) b n z := h.of_block rfl
theorem CoAt.congr {w : World} {b n : Nat} {z z' : Nat → Int} (h : CoAt w b n z) (e : ∀ j, j < n → z j = z' j) : CoAt w b n z' := by
  obtain ⟨c, hc, hs, hz⟩ := h
  exact ⟨c, hc, hs, fun j hj => by rw [← e j hj]; exact hz j hj⟩
theorem CoAt.row {w : World} {b n k o : Nat} {y z : Nat → Int} (h : CoAt w b n y) (cs : List Value) (hk : cs.length = k) (hcs : ∀ j, j < k → cs[j]? = some (.int .i64 (z j))) (hfit : o + k ≤ n) (cur : Array Value) (hc : w.heap[b]? = some (.cells cur 76)) :
    CoAt (w.setRow b (cur.toList.take o ++ cs ++ cur.toList.drop (o + cs.length)).toArray) b n (fun j => if o ≤ j ∧ j < o + k then z (j - o) else y j) := by
  obtain ⟨c, hc', hs, hz⟩ := h
  rw [hc] at hc'
  injection hc' with hc'
  injection hc' with hc'
  subst hc'
  refine ⟨_, setRow_heap w b _ _ _ _ hc, by simp; omega, fun j hj => ?_⟩
  have hz' := hz j hj
  rw [← Array.getElem?_toList] at hz' ⊢
  have hl : cur.toList.length = n := by simp [hs]
  show (cur.toList.take o ++ cs ++ cur.toList.drop (o + cs.length))[j]? = _
  simp only [List.getElem?_append, List.length_append, List.length_take, hk, hl, List.getElem?_take, List.getElem?_drop]
  by_cases h1 : j < o
  · rw [if_pos (by omega), if_pos (by omega), if_pos h1, if_neg (by omega)]; exact hz'
  · by_cases h2 : j < o + k
    · rw [if_pos (by omega), if_neg (by omega), if_pos (by omega)]
      have := hcs (j - o) (by omega)
      rw [show j - min o n = j - o by omega]; exact this
    · rw [if_neg (by omega), if_neg (by omega), show o + k + (j - (min o n + k)) = j by omega]; exact hz'
theorem infoC : (Try.prog.info? 76).map (fun i => (i.zero, i.size, i.bytes)) = some (some (.agg #[.int .i64 0, .int .i64 0]), 2, 16) := by kernel_rfl
theorem infoC_parts : ∃ i0, Try.prog.info? 76 = some i0 ∧ i0.zero = some (.agg #[.int .i64 0, .int .i64 0]) ∧ i0.size = 2 ∧ i0.bytes = 16 := by
  have h := infoC
  cases hq : Try.prog.info? 76 with
  | none => rw [hq] at h; cases h
  | some i0 =>
    rw [hq] at h
    simp only [Option.map_some, Option.some.injEq, Prod.mk.injEq] at h
    exact ⟨i0, rfl, h.1, h.2.1, h.2.2⟩
theorem run_copyC (w : World) (g o dLen dCap : Nat) (sa : Addr) (sLen sCap : Nat) (cur : Array Value) (cs : List Value)
    (hg : w.heap[g]? = some (.cells cur 76)) (hn : cs.length = Nat.min sLen dLen * 2)
    (hsrc : ∀ j v, cs[j]? = some v → w.cell? (sa.add j) = some v) (hfit : o + cs.length ≤ cur.size) (h1 : ∀ v ∈ cs, v.oneCell' = true) :
    (Builtin.copy_ #[73, 73] 3 #[.slice (some ⟨g, o, none⟩) dLen dCap, .slice (some sa) sLen sCap]).run Try.prog w =
      .ok (.int .i64 ((Nat.min sLen dLen : Nat) : Int)) (w.setRow g (cur.toList.take o ++ cs ++ cur.toList.drop (o + cs.length)).toArray) := by
  have hl := run_loadCells_list (P := Try.prog) w sa cs hsrc
  have hst := run_storeCells_at Try.prog g o 76 cs 0 cur w hg (by simpa using hfit) h1
  obtain ⟨i, hq, -, hi, -⟩ := infoC_parts
  rw [hn] at hl
  simp [Builtin.copy_, run_underlying Try.underlying73, Builtin.lenOf, Builtin.firstCells, sizeOf, typeInfo, hq, hi, hl, hst, goInt]
/-- So many costs, the others nothing. -/
def Sp.repC (x0 x1 : Int) (m : Nat) : Nat → Int := fun j => if j < m * 2 then (if j % 2 = 0 then x0 else x1) else 0
theorem run_copy_repC (w : World) (B g m N : Nat) (x0 x1 : Int) (hm : m < N) (hB : B ≤ g) (h : CoAt w g (N * 2) (Sp.repC x0 x1 m)) :
    ∃ w4, (Builtin.copy_ #[73, 73] 3 #[.slice (some ⟨g, m * 2, none⟩) (N - m) (N - m), .slice (some ⟨g, 0, none⟩) m N]).run Try.prog w = .ok (.int .i64 ((min m (N - m) : Nat) : Int)) w4 ∧ CoAt w4 g (N * 2) (Sp.repC x0 x1 (m + min m (N - m))) ∧ Below B w w4 := by
  obtain ⟨cur, hc, hs, hz⟩ := id h
  have hmin : Nat.min m (N - m) = min m (N - m) := rfl
  have hcl : ((List.range (min m (N - m) * 2)).map fun j => Value.int .i64 (Sp.repC x0 x1 m j)).length = min m (N - m) * 2 := by simp
  have h1 := run_copyC w g (m * 2) (N - m) (N - m) ⟨g, 0, none⟩ m N cur ((List.range (min m (N - m) * 2)).map fun j => .int .i64 (Sp.repC x0 x1 m j)) hc hcl
    (fun j v hj => by
      obtain ⟨hj1, hj2⟩ := List.getElem?_eq_some_iff.1 hj
      rw [hcl] at hj1
      rw [← hj2]
      simp only [List.getElem_map, List.getElem_range, Addr.add_lit, Nat.zero_add]
      exact h.cell (by omega)) (by rw [hcl, hs]; omega) (fun v hv => by obtain ⟨j, -, rfl⟩ := List.mem_map.1 hv; rfl)
  have h2 := h.row (k := min m (N - m) * 2) (o := m * 2) (z := Sp.repC x0 x1 m) ((List.range (min m (N - m) * 2)).map fun j => .int .i64 (Sp.repC x0 x1 m j)) hcl (fun j hj => by rw [List.getElem?_map, List.getElem?_range hj]; rfl) (by omega) cur hc
  refine ⟨_, h1, h2.congr fun j hj => ?_, below_setRow (Below.refl _ _) hB _⟩
  have hk : min m (N - m) ≤ m := Nat.min_le_left _ _
  generalize min m (N - m) = k at *
  unfold Sp.repC
  show (if m * 2 ≤ j ∧ j < m * 2 + k * 2 then (if j - m * 2 < m * 2 then (if (j - m * 2) % 2 = 0 then x0 else x1) else 0) else (if j < m * 2 then (if j % 2 = 0 then x0 else x1) else 0)) = if j < (m + k) * 2 then (if j % 2 = 0 then x0 else x1) else 0
  by_cases e1 : m * 2 ≤ j ∧ j < m * 2 + k * 2
  · have e2 : (j - m * 2) % 2 = j % 2 := by omega
    rw [if_pos e1, if_pos (by omega : j - m * 2 < m * 2), if_pos (by omega : j < (m + k) * 2), e2]
  · rw [if_neg e1]
    by_cases e2 : j < m * 2
    · rw [if_pos e2, if_pos (by omega : j < (m + k) * 2)]
    · rw [if_neg e2, if_neg (by omega)]
theorem made_same (z : Array Value) (v : Value) (h0 : 0 < z.size) (hz : ∀ i, i < z.size → z[i]! = v) (n j : Nat) (hj : j < n) : (madeCells z n)[j]? = some v := by
  unfold madeCells
  rw [Array.getElem?_map, Array.getElem?_range, if_pos hj, Option.map_some, hz _ (Nat.mod_lt _ h0)]
set_option maxRecDepth 100000 in
set_option maxHeartbeats 2000000 in
theorem repeatC_any (x0 x1 : Int) (xb N : Nat) (w : World) (hN1 : 1 ≤ N) (hN : N ≤ 60) (hc0 : w.cell? ⟨xb, 0, none⟩ = some (.int .i64 x0)) (hc1 : w.cell? ⟨xb, 1, none⟩ = some (.int .i64 x1)) (hxb : xb < w.heap.size) :
    Calls Try.prog 63 #[.slice (some ⟨xb, 0, none⟩) 1 1, .int .i64 (N : Int)] w fun e w' => e = .returned (.slice (some ⟨w.heap.size, 0, none⟩) N N) ∧ CoAt w' w.heap.size (N * 2) (Sp.repC x0 x1 N) ∧ Below w.heap.size w w' := by
  obtain ⟨iS, hiS, hS0, hS1, hS2⟩ := infoC_parts
  have HC := hide (mul_any N w hN)
  have Hc := hide (And.intro hc0 hc1)
  clear hc0 hc1
  have h5 : IntKind.u64.wrap (N : Int) = (N : Int) := by simp [IntKind.wrap, IntKind.bits]; omega
  go_enter Try.func63, Try.ntmps63
  go_wp2_with fail
  go_at_call 78
  refine (unhide HC).mono ?_
  clear HC
  rintro e w' ⟨rfl, rfl⟩
  go_wp2_with (at_make; refine wpList_make_full _ rfl _ _ 73 rfl w'.heap.size 76 iS (.agg #[.int .i64 0, .int .i64 0]) 2 Try.underlying73 hiS hS0 hS1 .i64 .i64 _ _ N rfl rfl rfl rfl (by rw [hS2]; omega) (by unfold maxLen; omega) (Nat.le_refl _) ?_)
  intro w3 hown3 hg3
  have hb3 : Below w'.heap.size w' w3 := (Below.refl _ w').grown hg3 (Nat.le_refl _) (by simp)
  have hz3 : CoAt w3 w'.heap.size (N * 2) (Sp.repC x0 x1 0) := by
    rcases hown3.2 with ⟨-, h0⟩ | ⟨g, cap, cur, e, -, hc, h1, -, h3, h4⟩
    · omega
    · injection e with e1 _ e2
      injection e1 with e1
      injection e1 with e1
      subst e1 e2
      refine ⟨cur, hc, by omega, fun j hj => ?_⟩
      have hlen : cur.toList.length ≤ N * 2 := by simp [h3]
      rw [List.take_of_length_le hlen] at h4
      rw [← Array.getElem?_toList, h4, Array.getElem?_toList]
      show (madeCells #[.int .i64 0, .int .i64 0] (N * 2))[j]? = _
      rw [made_same #[.int .i64 0, .int .i64 0] (.int .i64 0) (by decide) (fun i hi => by rcases i with _ | _ | i <;> first | rfl | (simp at hi; omega)) _ _ hj]
      simp [Sp.repC]
  have hcur := hz3
  obtain ⟨cur, hcu, hsu, -⟩ := hcur
  have h1 := run_copyC w3 w'.heap.size 0 N N ⟨xb, 0, none⟩ 1 1 cur [.int .i64 x0, .int .i64 x1] hcu (by simp [show Nat.min 1 N = 1 from Nat.min_eq_left hN1]) (fun j v hj => by
    rcases j with _ | _ | j
    · simp at hj; subst hj; rw [Addr.add_lit]; exact (hb3.cell (by exact hxb)).trans (unhide Hc).1
    · simp at hj; subst hj; rw [Addr.add_lit]; exact (hb3.cell (by exact hxb)).trans (unhide Hc).2
    · simp at hj) (by simp; omega) (by simp [Value.oneCell'])
  have h2 := hz3.row (k := 2) (o := 0) (z := fun j => if j = 0 then x0 else x1) [.int .i64 x0, .int .i64 x1] rfl (fun j hj => by
    rcases j with _ | _ | j
    · rfl
    · rfl
    · omega) (by omega) cur hcu
  rw [show Nat.min 1 N = 1 from Nat.min_eq_left hN1] at h1
  have hB4 := below_setRow hb3 (Nat.le_refl _) (cur.toList.take 0 ++ [Value.int .i64 x0, .int .i64 x1] ++ cur.toList.drop (0 + [Value.int .i64 x0, .int .i64 x1].length)).toArray
  generalize w3.setRow w'.heap.size (cur.toList.take 0 ++ [Value.int .i64 x0, .int .i64 x1] ++ cur.toList.drop (0 + [Value.int .i64 x0, .int .i64 x1].length)).toArray = w4 at *
  have HQ4 : Hid (CoAt w4 w'.heap.size (N * 2) (Sp.repC x0 x1 1) ∧ Below w'.heap.size w' w4) := hide ⟨h2.congr fun j hj => by
    unfold Sp.repC
    rcases j with _ | _ | j
    · simp
    · simp
    · simp only [Nat.zero_le, true_and, Nat.zero_add]
      rw [if_neg (by omega), if_neg (by omega), if_neg (by omega)], hB4⟩
  clear h2 hB4 hz3 hb3 hown3 hg3 hcu hsu Hc
  go_wp2
  go_loopg [8] N (fun g i wr => ∃ m : Nat, 1 ≤ m ∧ m ≤ N ∧ N - m ≤ g ∧ i = .int .i64 (m : Int) ∧ Hid (CoAt wr w'.heap.size (N * 2) (Sp.repC x0 x1 m) ∧ Below w'.heap.size w' wr))
  case atStart => exact ⟨1, by omega, by omega, by omega, rfl, HQ4⟩
  case round =>
    clear HQ4 h1
    obtain ⟨m, hm1, hmN, hmg, rfl, HI⟩ := hrel
    by_cases hlt : m < N
    · have hltI : (m : Int) < (N : Int) := by omega
      obtain ⟨c, hc⟩ : ∃ c, c = min m (N - m) := ⟨_, rfl⟩
      obtain ⟨w5, hrun, hown4, hb4⟩ := run_copy_repC wr.drew w'.heap.size w'.heap.size m N x0 x1 hlt (Nat.le_refl _) (unhide HI).1.drew
      rw [← hc] at hrun hown4
      have HO4 : Hid (CoAt w5 w'.heap.size (N * 2) (Sp.repC x0 x1 (m + c)) ∧ Below w'.heap.size w' w5) := hide ⟨hown4, (unhide HI).2.drew.trans hb4⟩
      have Hc := hide hc
      have hne1 : ¬ N = m := by omega
      have hcb : c ≤ N - m := by omega
      have hc1 : 1 ≤ c := by omega
      clear hown4 hb4 hc
      go_wp2
      go_region
      go_wp2
      go_roundg (N - (m + c))
      case rel => exact ⟨m + c, by omega, by omega, by omega, by go_num, HO4⟩
      case measure => omega
    · obtain rfl : m = N := by omega
      go_wp2
      go_ret
      exact ⟨rfl, (unhide HI).1, (unhide HI).2⟩
end Go.Proofs.Ytoegjnolccabjab


