/- What the proof needs, part 22. -/
import Derived.Test.YtoegjnolccabjaaL21
/- Every flow of two that share a face is a rise. -/
namespace Go.Proofs.Ytoegjnolccabjaa

theorem Sp.DualQ.flow_rise {q : Sp.Net} (h : Sp.DualQ q) (hr : Sp.RimQ q) (hc : Sp.Cir q) {s t : Int} {f d0 a jb : Nat} (hs : Sp.SplitQ q s t f d0 a jb) (hst : s ≠ t) {g : Nat → Int} {x : Int} (ha : ∀ d, d < q.tail.length → g (Sp.oth d) = - g d)
    (hv : ∀ u, u ≠ s → u ≠ t → Sp.sumN (fun d => if q.tail.getD d 0 = u then g d else 0) q.tail.length = 0)
    (hx : Sp.sumN (fun d => if q.tail.getD d 0 = s then g d else 0) q.tail.length = x) (hy : Sp.sumN (fun d => if q.tail.getD d 0 = t then g d else 0) q.tail.length = -x) :
    ∃ P : Nat → Int, P (Sp.landK q) - P f = x ∧ ∀ d, d < q.tail.length → g d = P ((Sp.splitL q f d0 a jb).getD (Sp.oth d) 0).toNat - P ((Sp.splitL q f d0 a jb).getD d 0).toNat := by
  have hh := h.halves hs
  have hev := h.link.ev
  have hkk : max (Sp.faces2 q).2 1 = Sp.landK q := rfl
  have hfK : f < Sp.landK q := by rw [← hkk]; exact hh.fK
  have hbm := (h.fp).fnP.mp
  rw [h.bl] at hbm
  have hvs := fun u => h.vsum hs ((List.range (Sp.landK q + 1)).map fun c => if c = Sp.landK q then x else 0) u
  rw [hkk] at hvs
  have e1 : ((List.range (Sp.landK q + 1)).map fun c => if c = Sp.landK q then x else 0).getD f 0 = 0 := by
    rw [Sp.rowD (D := fun c => if c = Sp.landK q then x else 0) (by omega), if_neg (by omega)]
  have e2 : ((List.range (Sp.landK q + 1)).map fun c => if c = Sp.landK q then x else 0).getD (Sp.landK q) 0 = x := by
    rw [Sp.rowD (D := fun c => if c = Sp.landK q then x else 0) (by omega), if_pos rfl]
  simp only [e1, e2] at hvs
  obtain ⟨H, h1, h2⟩ := hc (fun d => g d - Sp.rise (Sp.splitL q f d0 a jb) ((List.range (Sp.landK q + 1)).map fun c => if c = Sp.landK q then x else 0) d) (fun d hd => by
      show g (Sp.oth d) - Sp.rise _ _ (Sp.oth d) = -(g d - Sp.rise _ _ d)
      rw [Sp.rise_oth, ha d hd]
      omega) (fun u => by
      have e : Sp.sumN (fun d => if q.tail.getD d 0 = u then g d - Sp.rise (Sp.splitL q f d0 a jb) ((List.range (Sp.landK q + 1)).map fun c => if c = Sp.landK q then x else 0) d else 0) q.tail.length = Sp.sumN (fun d => (if q.tail.getD d 0 = u then g d else 0) - (if q.tail.getD d 0 = u then Sp.rise (Sp.splitL q f d0 a jb) ((List.range (Sp.landK q + 1)).map fun c => if c = Sp.landK q then x else 0) d else 0)) q.tail.length :=
        Sp.sumN_congr _ fun d _ => by
          by_cases e : q.tail.getD d 0 = u
          · rw [if_pos e, if_pos e, if_pos e]
          · rw [if_neg e, if_neg e, if_neg e]; rfl
      show Sp.sumN (fun d => if q.tail.getD d 0 = u then g d - Sp.rise (Sp.splitL q f d0 a jb) ((List.range (Sp.landK q + 1)).map fun c => if c = Sp.landK q then x else 0) d else 0) q.tail.length = 0
      rw [e, Sp.sumN_sub, hvs u]
      by_cases es : s = u
      · subst es
        rw [hx, if_neg (fun k => hst k.symm), if_pos rfl]
        omega
      · by_cases et : t = u
        · subst et
          rw [hy, if_pos rfl, if_neg es]
          omega
        · rw [hv u (fun k => es k.symm) (fun k => et k.symm), if_neg et, if_neg es]
          rfl)
  have hFl : ∀ d, d < q.tail.length → 0 ≤ (Sp.faces2 q).1.getD d 0 := fun d hd => (hr.fb d hd).1
  have hH : ∀ y, y < q.tail.length → ∀ m, itf (Sp.fn (Sp.behindL q.next)) y m < q.tail.length ∧ H (itf (Sp.fn (Sp.behindL q.next)) y m) = H y := fun y hy m => by
    induction m with
    | zero => exact ⟨hy, rfl⟩
    | succ m ih =>
      refine ⟨hbm _ ih.1, ?_⟩
      show H (Sp.fn (Sp.behindL q.next) _) = _
      rw [h1 _ ih.1, ih.2]
  have hHf : ∀ i j, i < q.tail.length → j < q.tail.length → (Sp.faces2 q).1.getD i 0 = (Sp.faces2 q).1.getD j 0 → H i = H j := fun i j hi hj e => by
    obtain ⟨m, hm⟩ := h.cls.sep i j hi hj (by rw [e])
    rw [← hm, (hH i hi m).2]
  have hF2 : ∀ i j, i < q.tail.length → j < q.tail.length → (Sp.splitL q f d0 a jb).getD i 0 = (Sp.splitL q f d0 a jb).getD j 0 → (Sp.faces2 q).1.getD i 0 = (Sp.faces2 q).1.getD j 0 := fun i j hi hj e => by
    have l1 := hh.lt i hi
    have l2 := hh.lt j hj
    by_cases fi : (Sp.faces2 q).1.getD i 0 = (f : Int)
    · by_cases fj : (Sp.faces2 q).1.getD j 0 = (f : Int)
      · omega
      · have o2 := hh.out j hj fj
        rcases hh.inn i hi fi with o1 | o1 <;> omega
    · have o1 := hh.out i hi fi
      by_cases fj : (Sp.faces2 q).1.getD j 0 = (f : Int)
      · rcases hh.inn j hj fj with o2 | o2 <;> omega
      · have o2 := hh.out j hj fj
        omega
  have hex : ∀ c : Nat, ∃ y : Int, ∀ d, d < q.tail.length → (Sp.splitL q f d0 a jb).getD d 0 = (c : Int) → y = H d := fun c => by
    by_cases hh : ∃ d, d < q.tail.length ∧ (Sp.splitL q f d0 a jb).getD d 0 = (c : Int)
    · obtain ⟨d, hd, e⟩ := hh
      exact ⟨H d, fun d' hd' e' => hHf d d' hd hd' (hF2 d d' hd hd' (by rw [e, e']))⟩
    · exact ⟨0, fun d hd e => absurd ⟨d, hd, e⟩ hh⟩
  obtain ⟨P2, hP2⟩ := Classical.axiomOfChoice hex
  have hPd : ∀ d, d < q.tail.length → P2 ((Sp.splitL q f d0 a jb).getD d 0).toNat = H d := fun d hd => by
    have := hr.rng hs hd
    exact hP2 _ d hd (by omega)
  refine ⟨fun c => (if c = Sp.landK q then x else 0) + P2 c, ?_, fun d hd => ?_⟩
  · obtain ⟨i, hi, ei⟩ := hh.has1
    obtain ⟨j, hj, ej⟩ := hh.has2
    rw [hkk] at ej
    have p1 := hP2 f i hi ei
    have p2 := hP2 (Sp.landK q) j hj ej
    have l1 := hh.lt i hi
    have l2 := hh.lt j hj
    rw [hkk] at l1 l2
    have fi : (Sp.faces2 q).1.getD i 0 = (f : Int) := by
      by_cases fi : (Sp.faces2 q).1.getD i 0 = (f : Int)
      · exact fi
      · have := hh.out i hi fi; omega
    have fj : (Sp.faces2 q).1.getD j 0 = (f : Int) := by
      by_cases fj : (Sp.faces2 q).1.getD j 0 = (f : Int)
      · exact fj
      · have := hh.out j hj fj; omega
    have := hHf i j hi hj (by rw [fi, fj])
    show (if Sp.landK q = Sp.landK q then x else 0) + P2 (Sp.landK q) - ((if f = Sp.landK q then x else 0) + P2 f) = x
    rw [if_pos rfl, if_neg (by omega)]
    omega
  · have h3 : g d - Sp.rise (Sp.splitL q f d0 a jb) ((List.range (Sp.landK q + 1)).map fun c => if c = Sp.landK q then x else 0) d = H (Sp.oth d) - H d := h2 d hd
    have ho := oth_lt hd hev
    have r1 := hr.rng hs hd
    have r2 := hr.rng hs ho
    have h4 : Sp.rise (Sp.splitL q f d0 a jb) ((List.range (Sp.landK q + 1)).map fun c => if c = Sp.landK q then x else 0) d = (if ((Sp.splitL q f d0 a jb).getD (Sp.oth d) 0).toNat = Sp.landK q then x else 0) - (if ((Sp.splitL q f d0 a jb).getD d 0).toNat = Sp.landK q then x else 0) := by
      unfold Sp.rise
      rw [Sp.rowD (D := fun c => if c = Sp.landK q then x else 0) (by omega), Sp.rowD (D := fun c => if c = Sp.landK q then x else 0) (by omega)]
    show g d = (if ((Sp.splitL q f d0 a jb).getD (Sp.oth d) 0).toNat = Sp.landK q then x else 0) + P2 ((Sp.splitL q f d0 a jb).getD (Sp.oth d) 0).toNat - ((if ((Sp.splitL q f d0 a jb).getD d 0).toNat = Sp.landK q then x else 0) + P2 ((Sp.splitL q f d0 a jb).getD d 0).toNat)
    rw [hPd d hd, hPd _ ho]
    omega
/-- So no flow within what the darts hold has more value than b is high. -/
theorem Sp.DualQ.flow_ub {q : Sp.Net} (h : Sp.DualQ q) (hr : Sp.RimQ q) (hc : Sp.Cir q) {s t : Int} {f d0 a jb : Nat} (hs : Sp.SplitQ q s t f d0 a jb) (hst : s ≠ t) {D : Nat → Int} (hD : Sp.Short 1152921504606846976 (Sp.rimR (Sp.splitL q f d0 a jb) q.cap q.tail.length) f (Sp.landK q + 1) D) {g : Nat → Int} {x : Int} (ha : ∀ d, d < q.tail.length → g (Sp.oth d) = - g d)
    (hg : ∀ d, d < q.tail.length → g d ≤ q.cap.getD d 0)
    (hv : ∀ u, u ≠ s → u ≠ t → Sp.sumN (fun d => if q.tail.getD d 0 = u then g d else 0) q.tail.length = 0)
    (hx : Sp.sumN (fun d => if q.tail.getD d 0 = s then g d else 0) q.tail.length = x) (hy : Sp.sumN (fun d => if q.tail.getD d 0 = t then g d else 0) q.tail.length = -x) : x ≤ D (Sp.landK q) := by
  obtain ⟨P, h1, h2⟩ := h.flow_rise hr hc hs hst ha hv hx hy
  have h3 := Sp.rise_ub (P := P) hD (fun d hd => by rw [← h2 d hd]; exact hg d hd) (v := Sp.landK q) (by omega) (h.near hr hs hst hD _ (by omega))
  omega
end Go.Proofs.Ytoegjnolccabjaa


/- within of watershedlaw8. -/
namespace Go.Proofs.Ytoegjnolccabjaa
open Go Go.RowKit

set_option maxRecDepth 100000 in
set_option maxHeartbeats 1000000 in
theorem within8_any (a n : Int) (w : World) (hn : 0 < n) (hn1 : n ≤ 4611686018427387904) :
    Calls Try.prog 11 #[.int .i64 a, .int .i64 n] w fun e w' => e = .returned (.int .i64 (a % n)) ∧ w' = w := by
  have h0 : 0 ≤ a % n := Int.emod_nonneg a (by omega)
  have h1 : a % n < n := Int.emod_lt_of_pos a hn
  rcases tmod_cases a n hn with ⟨ha, hb⟩ | ⟨ha, hb⟩
  · have hc : -n ≤ a.tmod n := by omega
    have Hb := hide hb; clear hb h0 h1
    go_enter Try.func11, Try.ntmps11
    go_wp2
    go_ret
    exact ⟨ret_int (unhide Hb), rfl⟩
  · have Hb := hide hb; clear hb h0 h1
    go_enter Try.func11, Try.ntmps11
    go_wp2
    go_ret
    exact ⟨ret_int (unhide Hb), rfl⟩
end Go.Proofs.Ytoegjnolccabjaa


/- rim's contracts, of both cases told at once. -/
namespace Go.Proofs.Ytoegjnolccabjaa
open Go Go.RowKit

/-- What is told of two vertices: an error, or heights P, rises L, b's height x. -/
def Sp.RimIs (q : Sp.Net) (s t : Int) (P L : List Int) (x : Int) : Prop :=
  (Sp.rimE q s t ≠ 0 ∧ P = [] ∧ L = [] ∧ x = 0) ∨ (Sp.rimE q s t = 0 ∧ (0 ≤ s ∧ s < q.n) ∧ (0 ≤ t ∧ t < q.n) ∧ s ≠ t ∧ Sp.endsE q s t = 0 ∧ ∃ f d0 a jb D, Sp.SplitQ q s t f d0 a jb ∧
    (Sp.Short 1152921504606846976 (Sp.rimR (Sp.splitL q f d0 a jb) q.cap q.tail.length) f (Sp.landK q + 1) D ∧ ∀ v, v < Sp.landK q + 1 → D v ≠ 1152921504606846976 → D v < 1152921504606846976) ∧
    P = (List.range (Sp.landK q + 1)).map D ∧ L = (List.range q.tail.length).map (Sp.rise (Sp.splitL q f d0 a jb) ((List.range (Sp.landK q + 1)).map D)) ∧ x = D (Sp.landK q))
theorem Sp.rimE_zero {q : Sp.Net} {s t : Int} {f d0 a jb : Nat} (hE : Sp.endsE q s t = 0) (hs : Sp.SplitQ q s t f d0 a jb) : Sp.rimE q s t = 0 := by
  obtain ⟨h1, h2, h3, -⟩ := Sp.ends_ok hE
  unfold Sp.rimE
  rw [if_neg (fun k => k ⟨h1, h2⟩), if_neg h3, if_pos (by rw [hs.sh])]
theorem rmheights_any (q : Sp.Net) (v tv nv cv : Value) (s t : Int) (w : World) (hv : NetI w v q tv nv cv) (hq : Sp.RimQ q) :
    Calls Try.prog 12 #[v, .int .i64 s, .int .i64 t] w fun e w' => ∃ pv P L x, e = .returned (.tuple #[pv, .int .i64 (Sp.rimE q s t)]) ∧ OwnI w' w.heap.size pv P ∧ Sp.RimIs q s t P L x ∧ Below w.heap.size w w' := by
  rcases Sp.rim_cases hq s t with he | he
  · refine (rmheights_err q v tv nv cv s t w hv hq he).mono ?_
    rintro e w' ⟨rfl, hb⟩
    exact ⟨_, [], [], 0, rfl, World.ownsRow_nil _ _ _ _, .inl ⟨he, rfl, rfl, rfl⟩, hb⟩
  · obtain ⟨h0, h1, hst, hE, f, d0, a, jb, hs⟩ := he
    have hz : Sp.rimE q s t = 0 := Sp.rimE_zero hE hs
    refine (rmheights_yes q v tv nv cv s t w hv hq f d0 a jb h0 h1 hst hs).mono ?_
    rintro e w' ⟨G, D, rfl, hG, hR, hb, hD⟩
    rw [hz]
    have hk := hq.kle
    exact ⟨_, _, _, _, rfl, hR.own hG (by omega), .inr ⟨hz, h0, h1, hst, hE, f, d0, a, jb, D, hs, hD, rfl, rfl, rfl⟩, hb⟩
theorem rmflow_any (q : Sp.Net) (v tv nv cv : Value) (s t : Int) (w : World) (hv : NetI w v q tv nv cv) (hq : Sp.RimQ q) :
    Calls Try.prog 14 #[v, .int .i64 s, .int .i64 t] w fun e w' => ∃ lv P L x, e = .returned (.tuple #[lv, .int .i64 x, .int .i64 (Sp.rimE q s t)]) ∧ OwnI w' w.heap.size lv L ∧ Sp.RimIs q s t P L x ∧ Below w.heap.size w w' := by
  rcases Sp.rim_cases hq s t with he | he
  · refine (rmflow_err q v tv nv cv s t w hv hq he).mono ?_
    rintro e w' ⟨rfl, hb⟩
    exact ⟨_, [], [], 0, rfl, World.ownsRow_nil _ _ _ _, .inl ⟨he, rfl, rfl, rfl⟩, hb⟩
  · obtain ⟨h0, h1, hst, hE, f, d0, a, jb, hs⟩ := he
    have hz : Sp.rimE q s t = 0 := Sp.rimE_zero hE hs
    refine (rmflow_yes q v tv nv cv s t w hv hq f d0 a jb h0 h1 hst hs).mono ?_
    rintro e w' ⟨lv, D, rfl, hO, hb, hD⟩
    rw [hz]
    exact ⟨_, _, _, _, rfl, hO, .inr ⟨hz, h0, h1, hst, hE, f, d0, a, jb, D, hs, hD, rfl, rfl, rfl⟩, hb⟩
theorem heights8p_any (q : Sp.Net) (v tv nv cv : Value) (s t : Int) (w : World) (hv : NetI w v q tv nv cv) (hq : Sp.RimQ q) {P L : List Int} {x : Int} (hR : Sp.RimIs q s t P L x) :
    Calls Try.prog 13 #[v, .int .i64 s, .int .i64 t] w fun e w' => ∃ pv, e = .returned (.tuple #[pv, .int .i64 (Sp.rimE q s t)]) ∧ OwnI w' w.heap.size pv P ∧ Below w.heap.size w w' := by
  rcases hR with ⟨he, rfl, rfl, rfl⟩ | ⟨hz, h0, h1, hst, hE, f, d0, a, jb, D, hs, hD, rfl, rfl, rfl⟩
  · refine (heights8p_err q v tv nv cv s t w hv hq he).mono ?_
    rintro e w' ⟨rfl, hb⟩
    exact ⟨_, rfl, World.ownsRow_nil _ _ _ _, hb⟩
  · refine (heights8p_yes q v tv nv cv s t w hv hq f d0 a jb hE hs D hD).mono ?_
    rintro e w' ⟨G, rfl, hG, hR, hb⟩
    rw [hz]
    have hk := hq.kle
    exact ⟨_, rfl, hR.own hG (by omega), hb⟩
theorem flow8_any (q : Sp.Net) (v tv nv cv : Value) (s t : Int) (w : World) (hv : NetI w v q tv nv cv) (hq : Sp.RimQ q) {P L : List Int} {x : Int} (hR : Sp.RimIs q s t P L x) :
    Calls Try.prog 15 #[v, .int .i64 s, .int .i64 t] w fun e w' => ∃ lv, e = .returned (.tuple #[lv, .int .i64 x, .int .i64 (Sp.rimE q s t)]) ∧ OwnI w' w.heap.size lv L ∧ Below w.heap.size w w' := by
  rcases hR with ⟨he, rfl, rfl, rfl⟩ | ⟨hz, h0, h1, hst, hE, f, d0, a, jb, D, hs, hD, rfl, rfl, rfl⟩
  · refine (flow8_err q v tv nv cv s t w hv hq he).mono ?_
    rintro e w' ⟨rfl, hb⟩
    exact ⟨_, rfl, World.ownsRow_nil _ _ _ _, hb⟩
  · refine (flow8_yes q v tv nv cv s t w hv hq f d0 a jb hE hs D hD).mono ?_
    rintro e w' ⟨lv, rfl, hO, hb⟩
    rw [hz]
    exact ⟨_, rfl, hO, hb⟩
end Go.Proofs.Ytoegjnolccabjaa


/- A flow (W4); what rim tells is one. -/
namespace Go.Proofs.Ytoegjnolccabjaa
open Go Go.RowKit

/-- What runs from s to t: x comes out of s, x comes to t, elsewhere nothing is left; no dart has more than it holds. -/
structure Sp.FlowQ (q : Sp.Net) (s t : Int) (L : List Int) (x : Int) : Prop where
  len : L.length = q.tail.length
  op : ∀ d, d < q.tail.length → L.getD (Sp.oth d) 0 = - L.getD d 0
  le : ∀ d, d < q.tail.length → L.getD d 0 ≤ q.cap.getD d 0
  src : Sp.sumN (fun d => if q.tail.getD d 0 = s then L.getD d 0 else 0) q.tail.length = x
  snk : Sp.sumN (fun d => if q.tail.getD d 0 = t then L.getD d 0 else 0) q.tail.length = -x
  mid : ∀ u, u ≠ s → u ≠ t → Sp.sumN (fun d => if q.tail.getD d 0 = u then L.getD d 0 else 0) q.tail.length = 0
theorem Sp.RimIs.flow {q : Sp.Net} (hd : 0 < q.tail.length → Sp.DualQ q) (hq : Sp.RimQ q) {s t : Int} {P L : List Int} {x : Int} (h : Sp.RimIs q s t P L x) (h0 : Sp.rimE q s t = 0) :
    Sp.FlowQ q s t L x ∧ 0 ≤ x ∧ x < 1152921504606846976 := by
  rcases h with ⟨he, -⟩ | ⟨-, h0, h1, hst, hE, f, d0, a, jb, D, hs, hD, rfl, rfl, rfl⟩
  · exact absurd h0 he
  · have hq2 := hd (by have := hs.d0l; omega)
    have hkk : max (Sp.faces2 q).2 1 = Sp.landK q := rfl
    have hfK : f < Sp.landK q := by rw [← hkk]; exact (hq2.halves hs).fK
    have hL : ∀ d, d < q.tail.length → ((List.range q.tail.length).map (Sp.rise (Sp.splitL q f d0 a jb) ((List.range (Sp.landK q + 1)).map D))).getD d 0 = Sp.rise (Sp.splitL q f d0 a jb) ((List.range (Sp.landK q + 1)).map D) d := fun d h => Sp.rowD (D := Sp.rise (Sp.splitL q f d0 a jb) ((List.range (Sp.landK q + 1)).map D)) h
    have hS : ∀ u, Sp.sumN (fun d => if q.tail.getD d 0 = u then ((List.range q.tail.length).map (Sp.rise (Sp.splitL q f d0 a jb) ((List.range (Sp.landK q + 1)).map D))).getD d 0 else 0) q.tail.length = Sp.sumN (fun d => if q.tail.getD d 0 = u then Sp.rise (Sp.splitL q f d0 a jb) ((List.range (Sp.landK q + 1)).map D) d else 0) q.tail.length := fun u => Sp.sumN_congr _ fun d hdl => by rw [hL d hdl]
    have hV := hq2.value hs hst hfK (D := D) hD.1.src
    have hN := hq2.near hq hs hst hD.1
    refine ⟨⟨by rw [List.length_map, List.length_range], fun d hdl => ?_, fun d hdl => ?_, ?_, ?_, fun u us ut => ?_⟩, Sp.short_nn hD.1 (hq.posR _ _) (by omega), hD.2 _ (by omega) (hN _ (by omega))⟩
    · rw [hL d hdl, hL _ (oth_lt hdl hq.link.ev), Sp.rise_oth]
    · rw [hL d hdl]
      exact hq.rise_le hs hD.1 hD.2 hdl
    · rw [hS, hV.1]
    · rw [hS, hV.2]
    · rw [hS, hq2.vsum hs _ u, if_neg (fun e => ut e.symm), if_neg (fun e => us e.symm)]
      rfl
/-- No dart has less than its other's hold, below 0. -/
theorem Sp.FlowQ.ge {q : Sp.Net} {s t : Int} {L : List Int} {x : Int} (h : Sp.FlowQ q s t L x) (hev : q.tail.length % 2 = 0) {d : Nat} (hd : d < q.tail.length) : - q.cap.getD (Sp.oth d) 0 ≤ L.getD d 0 := by
  have h1 := h.le _ (oth_lt hd hev)
  rw [h.op d hd] at h1
  omega
end Go.Proofs.Ytoegjnolccabjaa


/- What rim tells is the greatest; along an edge runs what it holds. -/
namespace Go.Proofs.Ytoegjnolccabjaa
open Go Go.RowKit

theorem Sp.RimIs.most {q : Sp.Net} (hd : 0 < q.tail.length → Sp.DualQ q) (hq : Sp.RimQ q) (hc : Sp.Cir q) {s t : Int} {P L : List Int} {x : Int} (h : Sp.RimIs q s t P L x) (h0 : Sp.rimE q s t = 0) {L' : List Int} {x' : Int} (hF : Sp.FlowQ q s t L' x') : x' ≤ x := by
  rcases h with ⟨he, -⟩ | ⟨-, h0, h1, hst, hE, f, d0, a, jb, D, hs, hD, rfl, rfl, rfl⟩
  · exact absurd h0 he
  · exact (hd (by have := hs.d0l; omega)).flow_ub hq hc hs hst hD.1 (g := fun d => L'.getD d 0) hF.op hF.le hF.mid hF.src hF.snk
/-- What runs along one edge alone. -/
def Sp.edgeL (m x : Nat) (c : Int) : List Int := (List.range m).map fun d => if d = x then c else if d = Sp.oth x then -c else 0
theorem Sp.oth_ne (x : Nat) : Sp.oth x ≠ x := by
  unfold Sp.oth
  split <;> omega
theorem Sp.FlowQ.edge {q : Sp.Net} (hev : q.tail.length % 2 = 0) (hcb : ∀ d, d < q.tail.length → 0 ≤ q.cap.getD d 0) {x : Nat} (hx : x < q.tail.length) (hn : q.tail.getD x 0 ≠ q.tail.getD (Sp.oth x) 0) :
    Sp.FlowQ q (q.tail.getD x 0) (q.tail.getD (Sp.oth x) 0) (Sp.edgeL q.tail.length x (q.cap.getD x 0)) (q.cap.getD x 0) := by
  have ho := oth_lt hx hev
  have hne := Sp.oth_ne x
  have hL : ∀ d, d < q.tail.length → (Sp.edgeL q.tail.length x (q.cap.getD x 0)).getD d 0 = if d = x then q.cap.getD x 0 else if d = Sp.oth x then -q.cap.getD x 0 else 0 := fun d hd => Sp.rowD (D := fun d => if d = x then q.cap.getD x 0 else if d = Sp.oth x then -q.cap.getD x 0 else 0) hd
  have hS : ∀ u, Sp.sumN (fun d => if q.tail.getD d 0 = u then (Sp.edgeL q.tail.length x (q.cap.getD x 0)).getD d 0 else 0) q.tail.length = (if q.tail.getD x 0 = u then q.cap.getD x 0 else 0) + (if q.tail.getD (Sp.oth x) 0 = u then -q.cap.getD x 0 else 0) := fun u => by
    have e : Sp.sumN (fun d => if q.tail.getD d 0 = u then (Sp.edgeL q.tail.length x (q.cap.getD x 0)).getD d 0 else 0) q.tail.length = Sp.sumN (fun d => (if d = x then (if q.tail.getD x 0 = u then q.cap.getD x 0 else 0) else 0) + (if d = Sp.oth x then (if q.tail.getD (Sp.oth x) 0 = u then -q.cap.getD x 0 else 0) else 0)) q.tail.length :=
      Sp.sumN_congr _ fun d hd => by
        rw [hL d hd]
        by_cases e1 : d = x
        · subst e1
          rw [if_pos rfl, if_pos rfl, if_neg (show ¬ d = Sp.oth d from fun k => hne k.symm)]
          omega
        · by_cases e2 : d = Sp.oth x
          · subst e2
            rw [if_neg (show ¬ Sp.oth x = x from hne), if_pos rfl, if_neg (show ¬ Sp.oth x = x from hne), if_pos rfl]
            omega
          · rw [if_neg e1, if_neg e2, if_neg e1, if_neg e2, ite_self]
            omega
    rw [e, Sp.sumN_add, Sp.sumN_one, Sp.sumN_one, if_pos hx, if_pos ho]
  refine ⟨by unfold Sp.edgeL; rw [List.length_map, List.length_range], fun d hd => ?_, fun d hd => ?_, ?_, ?_, fun u us ut => ?_⟩
  · rw [hL d hd, hL _ (oth_lt hd hev)]
    by_cases e1 : d = x
    · subst e1
      rw [if_neg hne, if_pos rfl, if_pos rfl]
    · by_cases e2 : d = Sp.oth x
      · subst e2
        rw [oth_oth, if_pos rfl, if_neg hne, if_pos rfl]
        omega
      · have e3 : Sp.oth d ≠ x := fun k => e2 (by rw [← k, oth_oth])
        have e4 : Sp.oth d ≠ Sp.oth x := fun k => e1 (oth_inj k)
        rw [if_neg e3, if_neg e4, if_neg e1, if_neg e2]
        rfl
  · rw [hL d hd]
    have h1 := hcb d hd
    have h2 := hcb x hx
    by_cases e1 : d = x
    · subst e1; rw [if_pos rfl]; omega
    · rw [if_neg e1]
      split <;> omega
  · rw [hS, if_pos rfl, if_neg (fun k => hn k.symm)]
    omega
  · rw [hS, if_neg hn, if_pos rfl]
    omega
  · rw [hS, if_neg (fun k => us k.symm), if_neg (fun k => ut k.symm)]
    rfl
/-- The cells of a row. -/
theorem Ints.at_ {w : World} {a : Option Addr} {n c : Nat} {l : List Int} (h : Ints w (.slice a n c) l) : ∀ k, k < l.length → ∃ b o, a = some ⟨b, o, none⟩ ∧ b < w.heap.size ∧ ∀ w', Below w.heap.size w w' → w'.cell? ⟨b, o + k, none⟩ = some (.int .i64 (l.getD k 0)) := fun k hk => by
  obtain ⟨a', c', e, -, -, hA⟩ := h.allA
  injection e with e1 e2 e3
  subst e1
  exact unhide hA k hk
end Go.Proofs.Ytoegjnolccabjaa


/- The law DualFirst, walked. -/
namespace Go.Proofs.Ytoegjnolccabjaa
open Go Go.RowKit

/-- Was a dart of the face that begins at the vertex met among the first ones? -/
def Sp.mt (T F : List Int) (f : Nat) (v : Int) : Nat → Bool
  | 0 => false
  | j + 1 => Sp.mt T F f v j || (F.getD j 0 == (f : Int) && T.getD j 0 == v)
theorem Sp.sharedGo_some {T F : List Int} {s t : Int} : ∀ g f (c : Nat), f ≤ c → c < f + g → Sp.meets T F c s → Sp.meets T F c t → (Sp.sharedGo T F s t g f).2 = true
  | 0, f, c, h1, h2, _, _ => by omega
  | g + 1, f, c, h1, h2, h3, h4 => by
    rw [Sp.sharedGo]
    split
    · rfl
    · rename_i h
      refine Sp.sharedGo_some g (f + 1) c ?_ (by omega) h3 h4
      rcases Nat.lt_or_ge f c with h5 | h5
      · omega
      · obtain rfl : f = c := by omega
        exact absurd ⟨Sp.meetsB_true h3, Sp.meetsB_true h4⟩ h
/-- The ends of an edge share a face. -/
theorem Sp.DualQ.edge {q : Sp.Net} (h : Sp.DualQ q) {x : Nat} (hx : x < q.tail.length) : (Sp.shared q (q.tail.getD x 0) (q.tail.getD (Sp.oth x) 0)).2 = (q.tail.getD x 0 != q.tail.getD (Sp.oth x) 0) := by
  unfold Sp.shared
  by_cases e : q.tail.getD x 0 = q.tail.getD (Sp.oth x) 0
  · rw [if_pos e, e]; simp
  · rw [if_neg e]
    have e2 : (q.tail.getD x 0 != q.tail.getD (Sp.oth x) 0) = true := by simpa using e
    rw [e2]
    have ho := oth_lt hx h.link.ev
    have hb := h.fb hx
    have hn := h.mpN _ ho
    have hk := h.k1
    have e3 : ((((Sp.faces2 q).1.getD x 0).toNat : Nat) : Int) = (Sp.faces2 q).1.getD x 0 := by omega
    refine Sp.sharedGo_some _ 0 ((Sp.faces2 q).1.getD x 0).toNat (by omega) (by omega) ⟨x, hx, rfl, e3.symm⟩ ⟨Sp.fn q.next (Sp.oth x), hn, ?_, ?_⟩
    · have hv := h.pl.vert.inv _ ho
      have b1 := h.tb _ (Sp.getD_mem (l := q.tail) hn)
      have b2 := h.tb _ (Sp.getD_mem (l := q.tail) ho)
      omega
    · rw [e3, h.turn ho, oth_oth]
end Go.Proofs.Ytoegjnolccabjaa


/- The law RimEdges, walked. -/
namespace Go.Proofs.Ytoegjnolccabjaa
open Go Go.RowKit

theorem Sp.RimIs.none {q : Sp.Net} {s t : Int} {P L : List Int} {x : Int} (h : Sp.RimIs q s t P L x) (h0 : Sp.rimE q s t ≠ 0) : P = [] ∧ L = [] ∧ x = 0 := by
  rcases h with ⟨-, h1, h2, h3⟩ | ⟨h1, -⟩
  · exact ⟨h1, h2, h3⟩
  · exact absurd h1 h0
end Go.Proofs.Ytoegjnolccabjaa


