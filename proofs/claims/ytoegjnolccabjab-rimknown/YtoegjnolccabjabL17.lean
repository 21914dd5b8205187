/- What the proof needs, part 17. -/
import Derived.Test.YtoegjnolccabjabL16
/- Every flow of two that share a face is a rise. -/
namespace Go.Proofs.Ytoegjnolccabjab

theorem Sp.DualQ.flow_rise {q : Sp.Net} (h : Sp.DualQ q) (hr : Sp.RimQ q) (hc : Sp.Cir q) {s t : Int} {f d0 a jb : Nat} (hs : Sp.SplitQ q s t f d0 a jb) (hst : s ≠ t) {g : Nat → Int} {x : Int} (ha : ∀ d, d < q.tail.length → g (Sp.oth d) = - g d)
    (hv : ∀ u, u ≠ s → u ≠ t → Sp.sumN (fun d => if q.tail.getD d 0 = u then g d else 0) q.tail.length = 0)
    (hx : Sp.sumN (fun d => if q.tail.getD d 0 = s then g d else 0) q.tail.length = x) (hy : Sp.sumN (fun d => if q.tail.getD d 0 = t then g d else 0) q.tail.length = -x) :
    ∃ P : Nat → Int, P (Sp.landK q) - P f = x ∧ ∀ d, d < q.tail.length → g d = P ((Sp.splitL q f d0 a jb).getD (Sp.oth d) 0).toNat - P ((Sp.splitL q f d0 a jb).getD d 0).toNat := by
  have hh := h.halves hs
  have hev := h.link.ev
  have hkk : max (Sp.faces2 q).2 1 = Sp.landK q := rfl
  have hfK : f < Sp.landK q := by rw [← hkk]; exact hh.fK
  have hbm := (h.fp).fnP.mp
  rw [h.bl] at hbm
  have hvs := fun u => h.vsum hs ((List.range (Sp.landK q + 1)).map fun c => if c = Sp.landK q then x else 0) u
  rw [hkk] at hvs
  have e1 : ((List.range (Sp.landK q + 1)).map fun c => if c = Sp.landK q then x else 0).getD f 0 = 0 := by
    rw [Sp.rowD (D := fun c => if c = Sp.landK q then x else 0) (by omega), if_neg (by omega)]
  have e2 : ((List.range (Sp.landK q + 1)).map fun c => if c = Sp.landK q then x else 0).getD (Sp.landK q) 0 = x := by
    rw [Sp.rowD (D := fun c => if c = Sp.landK q then x else 0) (by omega), if_pos rfl]
  simp only [e1, e2] at hvs
  obtain ⟨H, h1, h2⟩ := hc (fun d => g d - Sp.rise (Sp.splitL q f d0 a jb) ((List.range (Sp.landK q + 1)).map fun c => if c = Sp.landK q then x else 0) d) (fun d hd => by
      show g (Sp.oth d) - Sp.rise _ _ (Sp.oth d) = -(g d - Sp.rise _ _ d)
      rw [Sp.rise_oth, ha d hd]
      omega) (fun u => by
      have e : Sp.sumN (fun d => if q.tail.getD d 0 = u then g d - Sp.rise (Sp.splitL q f d0 a jb) ((List.range (Sp.landK q + 1)).map fun c => if c = Sp.landK q then x else 0) d else 0) q.tail.length = Sp.sumN (fun d => (if q.tail.getD d 0 = u then g d else 0) - (if q.tail.getD d 0 = u then Sp.rise (Sp.splitL q f d0 a jb) ((List.range (Sp.landK q + 1)).map fun c => if c = Sp.landK q then x else 0) d else 0)) q.tail.length :=
        Sp.sumN_congr _ fun d _ => by
          by_cases e : q.tail.getD d 0 = u
          · rw [if_pos e, if_pos e, if_pos e]
          · rw [if_neg e, if_neg e, if_neg e]; rfl
      show Sp.sumN (fun d => if q.tail.getD d 0 = u then g d - Sp.rise (Sp.splitL q f d0 a jb) ((List.range (Sp.landK q + 1)).map fun c => if c = Sp.landK q then x else 0) d else 0) q.tail.length = 0
      rw [e, Sp.sumN_sub, hvs u]
      by_cases es : s = u
      · subst es
        rw [hx, if_neg (fun k => hst k.symm), if_pos rfl]
        omega
      · by_cases et : t = u
        · subst et
          rw [hy, if_pos rfl, if_neg es]
          omega
        · rw [hv u (fun k => es k.symm) (fun k => et k.symm), if_neg et, if_neg es]
          rfl)
  have hFl : ∀ d, d < q.tail.length → 0 ≤ (Sp.faces2 q).1.getD d 0 := fun d hd => (hr.fb d hd).1
  have hH : ∀ y, y < q.tail.length → ∀ m, itf (Sp.fn (Sp.behindL q.next)) y m < q.tail.length ∧ H (itf (Sp.fn (Sp.behindL q.next)) y m) = H y := fun y hy m => by
    induction m with
    | zero => exact ⟨hy, rfl⟩
    | succ m ih =>
      refine ⟨hbm _ ih.1, ?_⟩
      show H (Sp.fn (Sp.behindL q.next) _) = _
      rw [h1 _ ih.1, ih.2]
  have hHf : ∀ i j, i < q.tail.length → j < q.tail.length → (Sp.faces2 q).1.getD i 0 = (Sp.faces2 q).1.getD j 0 → H i = H j := fun i j hi hj e => by
    obtain ⟨m, hm⟩ := h.cls.sep i j hi hj (by rw [e])
    rw [← hm, (hH i hi m).2]
  have hF2 : ∀ i j, i < q.tail.length → j < q.tail.length → (Sp.splitL q f d0 a jb).getD i 0 = (Sp.splitL q f d0 a jb).getD j 0 → (Sp.faces2 q).1.getD i 0 = (Sp.faces2 q).1.getD j 0 := fun i j hi hj e => by
    have l1 := hh.lt i hi
    have l2 := hh.lt j hj
    by_cases fi : (Sp.faces2 q).1.getD i 0 = (f : Int)
    · by_cases fj : (Sp.faces2 q).1.getD j 0 = (f : Int)
      · omega
      · have o2 := hh.out j hj fj
        rcases hh.inn i hi fi with o1 | o1 <;> omega
    · have o1 := hh.out i hi fi
      by_cases fj : (Sp.faces2 q).1.getD j 0 = (f : Int)
      · rcases hh.inn j hj fj with o2 | o2 <;> omega
      · have o2 := hh.out j hj fj
        omega
  have hex : ∀ c : Nat, ∃ y : Int, ∀ d, d < q.tail.length → (Sp.splitL q f d0 a jb).getD d 0 = (c : Int) → y = H d := fun c => by
    by_cases hh : ∃ d, d < q.tail.length ∧ (Sp.splitL q f d0 a jb).getD d 0 = (c : Int)
    · obtain ⟨d, hd, e⟩ := hh
      exact ⟨H d, fun d' hd' e' => hHf d d' hd hd' (hF2 d d' hd hd' (by rw [e, e']))⟩
    · exact ⟨0, fun d hd e => absurd ⟨d, hd, e⟩ hh⟩
  obtain ⟨P2, hP2⟩ := Classical.axiomOfChoice hex
  have hPd : ∀ d, d < q.tail.length → P2 ((Sp.splitL q f d0 a jb).getD d 0).toNat = H d := fun d hd => by
    have := hr.rng hs hd
    exact hP2 _ d hd (by omega)
  refine ⟨fun c => (if c = Sp.landK q then x else 0) + P2 c, ?_, fun d hd => ?_⟩
  · obtain ⟨i, hi, ei⟩ := hh.has1
    obtain ⟨j, hj, ej⟩ := hh.has2
    rw [hkk] at ej
    have p1 := hP2 f i hi ei
    have p2 := hP2 (Sp.landK q) j hj ej
    have l1 := hh.lt i hi
    have l2 := hh.lt j hj
    rw [hkk] at l1 l2
    have fi : (Sp.faces2 q).1.getD i 0 = (f : Int) := by
      by_cases fi : (Sp.faces2 q).1.getD i 0 = (f : Int)
      · exact fi
      · have := hh.out i hi fi; omega
    have fj : (Sp.faces2 q).1.getD j 0 = (f : Int) := by
      by_cases fj : (Sp.faces2 q).1.getD j 0 = (f : Int)
      · exact fj
      · have := hh.out j hj fj; omega
    have := hHf i j hi hj (by rw [fi, fj])
    show (if Sp.landK q = Sp.landK q then x else 0) + P2 (Sp.landK q) - ((if f = Sp.landK q then x else 0) + P2 f) = x
    rw [if_pos rfl, if_neg (by omega)]
    omega
  · have h3 : g d - Sp.rise (Sp.splitL q f d0 a jb) ((List.range (Sp.landK q + 1)).map fun c => if c = Sp.landK q then x else 0) d = H (Sp.oth d) - H d := h2 d hd
    have ho := oth_lt hd hev
    have r1 := hr.rng hs hd
    have r2 := hr.rng hs ho
    have h4 : Sp.rise (Sp.splitL q f d0 a jb) ((List.range (Sp.landK q + 1)).map fun c => if c = Sp.landK q then x else 0) d = (if ((Sp.splitL q f d0 a jb).getD (Sp.oth d) 0).toNat = Sp.landK q then x else 0) - (if ((Sp.splitL q f d0 a jb).getD d 0).toNat = Sp.landK q then x else 0) := by
      unfold Sp.rise
      rw [Sp.rowD (D := fun c => if c = Sp.landK q then x else 0) (by omega), Sp.rowD (D := fun c => if c = Sp.landK q then x else 0) (by omega)]
    show g d = (if ((Sp.splitL q f d0 a jb).getD (Sp.oth d) 0).toNat = Sp.landK q then x else 0) + P2 ((Sp.splitL q f d0 a jb).getD (Sp.oth d) 0).toNat - ((if ((Sp.splitL q f d0 a jb).getD d 0).toNat = Sp.landK q then x else 0) + P2 ((Sp.splitL q f d0 a jb).getD d 0).toNat)
    rw [hPd d hd, hPd _ ho]
    omega
/-- So no flow within what the darts hold has more value than b is high. -/
theorem Sp.DualQ.flow_ub {q : Sp.Net} (h : Sp.DualQ q) (hr : Sp.RimQ q) (hc : Sp.Cir q) {s t : Int} {f d0 a jb : Nat} (hs : Sp.SplitQ q s t f d0 a jb) (hst : s ≠ t) {D : Nat → Int} (hD : Sp.Short 1152921504606846976 (Sp.rimR (Sp.splitL q f d0 a jb) q.cap q.tail.length) f (Sp.landK q + 1) D) {g : Nat → Int} {x : Int} (ha : ∀ d, d < q.tail.length → g (Sp.oth d) = - g d)
    (hg : ∀ d, d < q.tail.length → g d ≤ q.cap.getD d 0)
    (hv : ∀ u, u ≠ s → u ≠ t → Sp.sumN (fun d => if q.tail.getD d 0 = u then g d else 0) q.tail.length = 0)
    (hx : Sp.sumN (fun d => if q.tail.getD d 0 = s then g d else 0) q.tail.length = x) (hy : Sp.sumN (fun d => if q.tail.getD d 0 = t then g d else 0) q.tail.length = -x) : x ≤ D (Sp.landK q) := by
  obtain ⟨P, h1, h2⟩ := h.flow_rise hr hc hs hst ha hv hx hy
  have h3 := Sp.rise_ub (P := P) hD (fun d hd => by rw [← h2 d hd]; exact hg d hd) (v := Sp.landK q) (by omega) (h.near hr hs hst hD _ (by omega))
  omega
end Go.Proofs.Ytoegjnolccabjab


/- within of watershedlaw8. -/
namespace Go.Proofs.Ytoegjnolccabjab
open Go Go.RowKit

set_option maxRecDepth 100000 in
set_option maxHeartbeats 1000000 in
theorem within8_any (a n : Int) (w : World) (hn : 0 < n) (hn1 : n ≤ 4611686018427387904) :
    Calls Try.prog 8 #[.int .i64 a, .int .i64 n] w fun e w' => e = .returned (.int .i64 (a % n)) ∧ w' = w := by
  have h0 : 0 ≤ a % n := Int.emod_nonneg a (by omega)
  have h1 : a % n < n := Int.emod_lt_of_pos a hn
  rcases tmod_cases a n hn with ⟨ha, hb⟩ | ⟨ha, hb⟩
  · have hc : -n ≤ a.tmod n := by omega
    have Hb := hide hb; clear hb h0 h1
    go_enter Try.func8, Try.ntmps8
    go_wp2
    go_ret
    exact ⟨ret_int (unhide Hb), rfl⟩
  · have Hb := hide hb; clear hb h0 h1
    go_enter Try.func8, Try.ntmps8
    go_wp2
    go_ret
    exact ⟨ret_int (unhide Hb), rfl⟩
end Go.Proofs.Ytoegjnolccabjab


/- rim's contracts, of both cases told at once. -/
namespace Go.Proofs.Ytoegjnolccabjab
open Go Go.RowKit

/-- What is told of two vertices: an error, or heights P, rises L, b's height x. -/
def Sp.RimIs (q : Sp.Net) (s t : Int) (P L : List Int) (x : Int) : Prop :=
  (Sp.rimE q s t ≠ 0 ∧ P = [] ∧ L = [] ∧ x = 0) ∨ (Sp.rimE q s t = 0 ∧ (0 ≤ s ∧ s < q.n) ∧ (0 ≤ t ∧ t < q.n) ∧ s ≠ t ∧ Sp.endsE q s t = 0 ∧ ∃ f d0 a jb D, Sp.SplitQ q s t f d0 a jb ∧
    (Sp.Short 1152921504606846976 (Sp.rimR (Sp.splitL q f d0 a jb) q.cap q.tail.length) f (Sp.landK q + 1) D ∧ ∀ v, v < Sp.landK q + 1 → D v ≠ 1152921504606846976 → D v < 1152921504606846976) ∧
    P = (List.range (Sp.landK q + 1)).map D ∧ L = (List.range q.tail.length).map (Sp.rise (Sp.splitL q f d0 a jb) ((List.range (Sp.landK q + 1)).map D)) ∧ x = D (Sp.landK q))
theorem Sp.rimE_zero {q : Sp.Net} {s t : Int} {f d0 a jb : Nat} (hE : Sp.endsE q s t = 0) (hs : Sp.SplitQ q s t f d0 a jb) : Sp.rimE q s t = 0 := by
  obtain ⟨h1, h2, h3, -⟩ := Sp.ends_ok hE
  unfold Sp.rimE
  rw [if_neg (fun k => k ⟨h1, h2⟩), if_neg h3, if_pos (by rw [hs.sh])]
theorem rmflow_any (q : Sp.Net) (v tv nv cv : Value) (s t : Int) (w : World) (hv : NetI w v q tv nv cv) (hq : Sp.RimQ q) :
    Calls Try.prog 9 #[v, .int .i64 s, .int .i64 t] w fun e w' => ∃ lv P L x, e = .returned (.tuple #[lv, .int .i64 x, .int .i64 (Sp.rimE q s t)]) ∧ OwnI w' w.heap.size lv L ∧ Sp.RimIs q s t P L x ∧ Below w.heap.size w w' := by
  rcases Sp.rim_cases hq s t with he | he
  · refine (rmflow_err q v tv nv cv s t w hv hq he).mono ?_
    rintro e w' ⟨rfl, hb⟩
    exact ⟨_, [], [], 0, rfl, World.ownsRow_nil _ _ _ _, .inl ⟨he, rfl, rfl, rfl⟩, hb⟩
  · obtain ⟨h0, h1, hst, hE, f, d0, a, jb, hs⟩ := he
    have hz : Sp.rimE q s t = 0 := Sp.rimE_zero hE hs
    refine (rmflow_yes q v tv nv cv s t w hv hq f d0 a jb h0 h1 hst hs).mono ?_
    rintro e w' ⟨lv, D, rfl, hO, hb, hD⟩
    rw [hz]
    exact ⟨_, _, _, _, rfl, hO, .inr ⟨hz, h0, h1, hst, hE, f, d0, a, jb, D, hs, hD, rfl, rfl, rfl⟩, hb⟩
end Go.Proofs.Ytoegjnolccabjab


/- A flow (W4); what rim tells is one. -/
namespace Go.Proofs.Ytoegjnolccabjab
open Go Go.RowKit

/-- What runs from s to t: x comes out of s, x comes to t, elsewhere nothing is left; no dart has more than it holds. -/
structure Sp.FlowQ (q : Sp.Net) (s t : Int) (L : List Int) (x : Int) : Prop where
  len : L.length = q.tail.length
  op : ∀ d, d < q.tail.length → L.getD (Sp.oth d) 0 = - L.getD d 0
  le : ∀ d, d < q.tail.length → L.getD d 0 ≤ q.cap.getD d 0
  src : Sp.sumN (fun d => if q.tail.getD d 0 = s then L.getD d 0 else 0) q.tail.length = x
  snk : Sp.sumN (fun d => if q.tail.getD d 0 = t then L.getD d 0 else 0) q.tail.length = -x
  mid : ∀ u, u ≠ s → u ≠ t → Sp.sumN (fun d => if q.tail.getD d 0 = u then L.getD d 0 else 0) q.tail.length = 0
theorem Sp.RimIs.flow {q : Sp.Net} (hd : 0 < q.tail.length → Sp.DualQ q) (hq : Sp.RimQ q) {s t : Int} {P L : List Int} {x : Int} (h : Sp.RimIs q s t P L x) (h0 : Sp.rimE q s t = 0) :
    Sp.FlowQ q s t L x ∧ 0 ≤ x ∧ x < 1152921504606846976 := by
  rcases h with ⟨he, -⟩ | ⟨-, h0, h1, hst, hE, f, d0, a, jb, D, hs, hD, rfl, rfl, rfl⟩
  · exact absurd h0 he
  · have hq2 := hd (by have := hs.d0l; omega)
    have hkk : max (Sp.faces2 q).2 1 = Sp.landK q := rfl
    have hfK : f < Sp.landK q := by rw [← hkk]; exact (hq2.halves hs).fK
    have hL : ∀ d, d < q.tail.length → ((List.range q.tail.length).map (Sp.rise (Sp.splitL q f d0 a jb) ((List.range (Sp.landK q + 1)).map D))).getD d 0 = Sp.rise (Sp.splitL q f d0 a jb) ((List.range (Sp.landK q + 1)).map D) d := fun d h => Sp.rowD (D := Sp.rise (Sp.splitL q f d0 a jb) ((List.range (Sp.landK q + 1)).map D)) h
    have hS : ∀ u, Sp.sumN (fun d => if q.tail.getD d 0 = u then ((List.range q.tail.length).map (Sp.rise (Sp.splitL q f d0 a jb) ((List.range (Sp.landK q + 1)).map D))).getD d 0 else 0) q.tail.length = Sp.sumN (fun d => if q.tail.getD d 0 = u then Sp.rise (Sp.splitL q f d0 a jb) ((List.range (Sp.landK q + 1)).map D) d else 0) q.tail.length := fun u => Sp.sumN_congr _ fun d hdl => by rw [hL d hdl]
    have hV := hq2.value hs hst hfK (D := D) hD.1.src
    have hN := hq2.near hq hs hst hD.1
    refine ⟨⟨by rw [List.length_map, List.length_range], fun d hdl => ?_, fun d hdl => ?_, ?_, ?_, fun u us ut => ?_⟩, Sp.short_nn hD.1 (hq.posR _ _) (by omega), hD.2 _ (by omega) (hN _ (by omega))⟩
    · rw [hL d hdl, hL _ (oth_lt hdl hq.link.ev), Sp.rise_oth]
    · rw [hL d hdl]
      exact hq.rise_le hs hD.1 hD.2 hdl
    · rw [hS, hV.1]
    · rw [hS, hV.2]
    · rw [hS, hq2.vsum hs _ u, if_neg (fun e => ut e.symm), if_neg (fun e => us e.symm)]
      rfl
/-- No dart has less than its other's hold, below 0. -/
theorem Sp.FlowQ.ge {q : Sp.Net} {s t : Int} {L : List Int} {x : Int} (h : Sp.FlowQ q s t L x) (hev : q.tail.length % 2 = 0) {d : Nat} (hd : d < q.tail.length) : - q.cap.getD (Sp.oth d) 0 ≤ L.getD d 0 := by
  have h1 := h.le _ (oth_lt hd hev)
  rw [h.op d hd] at h1
  omega
end Go.Proofs.Ytoegjnolccabjab


/- What rim tells is the greatest; along an edge runs what it holds. -/
namespace Go.Proofs.Ytoegjnolccabjab
open Go Go.RowKit

theorem Sp.RimIs.most {q : Sp.Net} (hd : 0 < q.tail.length → Sp.DualQ q) (hq : Sp.RimQ q) (hc : Sp.Cir q) {s t : Int} {P L : List Int} {x : Int} (h : Sp.RimIs q s t P L x) (h0 : Sp.rimE q s t = 0) {L' : List Int} {x' : Int} (hF : Sp.FlowQ q s t L' x') : x' ≤ x := by
  rcases h with ⟨he, -⟩ | ⟨-, h0, h1, hst, hE, f, d0, a, jb, D, hs, hD, rfl, rfl, rfl⟩
  · exact absurd h0 he
  · exact (hd (by have := hs.d0l; omega)).flow_ub hq hc hs hst hD.1 (g := fun d => L'.getD d 0) hF.op hF.le hF.mid hF.src hF.snk
/-- What runs along one edge alone. -/
def Sp.edgeL (m x : Nat) (c : Int) : List Int := (List.range m).map fun d => if d = x then c else if d = Sp.oth x then -c else 0
theorem Sp.oth_ne (x : Nat) : Sp.oth x ≠ x := by
  unfold Sp.oth
  split <;> omega
theorem Sp.FlowQ.edge {q : Sp.Net} (hev : q.tail.length % 2 = 0) (hcb : ∀ d, d < q.tail.length → 0 ≤ q.cap.getD d 0) {x : Nat} (hx : x < q.tail.length) (hn : q.tail.getD x 0 ≠ q.tail.getD (Sp.oth x) 0) :
    Sp.FlowQ q (q.tail.getD x 0) (q.tail.getD (Sp.oth x) 0) (Sp.edgeL q.tail.length x (q.cap.getD x 0)) (q.cap.getD x 0) := by
  have ho := oth_lt hx hev
  have hne := Sp.oth_ne x
  have hL : ∀ d, d < q.tail.length → (Sp.edgeL q.tail.length x (q.cap.getD x 0)).getD d 0 = if d = x then q.cap.getD x 0 else if d = Sp.oth x then -q.cap.getD x 0 else 0 := fun d hd => Sp.rowD (D := fun d => if d = x then q.cap.getD x 0 else if d = Sp.oth x then -q.cap.getD x 0 else 0) hd
  have hS : ∀ u, Sp.sumN (fun d => if q.tail.getD d 0 = u then (Sp.edgeL q.tail.length x (q.cap.getD x 0)).getD d 0 else 0) q.tail.length = (if q.tail.getD x 0 = u then q.cap.getD x 0 else 0) + (if q.tail.getD (Sp.oth x) 0 = u then -q.cap.getD x 0 else 0) := fun u => by
    have e : Sp.sumN (fun d => if q.tail.getD d 0 = u then (Sp.edgeL q.tail.length x (q.cap.getD x 0)).getD d 0 else 0) q.tail.length = Sp.sumN (fun d => (if d = x then (if q.tail.getD x 0 = u then q.cap.getD x 0 else 0) else 0) + (if d = Sp.oth x then (if q.tail.getD (Sp.oth x) 0 = u then -q.cap.getD x 0 else 0) else 0)) q.tail.length :=
      Sp.sumN_congr _ fun d hd => by
        rw [hL d hd]
        by_cases e1 : d = x
        · subst e1
          rw [if_pos rfl, if_pos rfl, if_neg (show ¬ d = Sp.oth d from fun k => hne k.symm)]
          omega
        · by_cases e2 : d = Sp.oth x
          · subst e2
            rw [if_neg (show ¬ Sp.oth x = x from hne), if_pos rfl, if_neg (show ¬ Sp.oth x = x from hne), if_pos rfl]
            omega
          · rw [if_neg e1, if_neg e2, if_neg e1, if_neg e2, ite_self]
            omega
    rw [e, Sp.sumN_add, Sp.sumN_one, Sp.sumN_one, if_pos hx, if_pos ho]
  refine ⟨by unfold Sp.edgeL; rw [List.length_map, List.length_range], fun d hd => ?_, fun d hd => ?_, ?_, ?_, fun u us ut => ?_⟩
  · rw [hL d hd, hL _ (oth_lt hd hev)]
    by_cases e1 : d = x
    · subst e1
      rw [if_neg hne, if_pos rfl, if_pos rfl]
    · by_cases e2 : d = Sp.oth x
      · subst e2
        rw [oth_oth, if_pos rfl, if_neg hne, if_pos rfl]
        omega
      · have e3 : Sp.oth d ≠ x := fun k => e2 (by rw [← k, oth_oth])
        have e4 : Sp.oth d ≠ Sp.oth x := fun k => e1 (oth_inj k)
        rw [if_neg e3, if_neg e4, if_neg e1, if_neg e2]
        rfl
  · rw [hL d hd]
    have h1 := hcb d hd
    have h2 := hcb x hx
    by_cases e1 : d = x
    · subst e1; rw [if_pos rfl]; omega
    · rw [if_neg e1]
      split <;> omega
  · rw [hS, if_pos rfl, if_neg (fun k => hn k.symm)]
    omega
  · rw [hS, if_neg hn, if_pos rfl]
    omega
  · rw [hS, if_neg (fun k => us k.symm), if_neg (fun k => ut k.symm)]
    rfl
/-- The cells of a row. -/
theorem Ints.at_ {w : World} {a : Option Addr} {n c : Nat} {l : List Int} (h : Ints w (.slice a n c) l) : ∀ k, k < l.length → ∃ b o, a = some ⟨b, o, none⟩ ∧ b < w.heap.size ∧ ∀ w', Below w.heap.size w w' → w'.cell? ⟨b, o + k, none⟩ = some (.int .i64 (l.getD k 0)) := fun k hk => by
  obtain ⟨a', c', e, -, -, hA⟩ := h.allA
  injection e with e1 e2 e3
  subst e1
  exact unhide hA k hk
end Go.Proofs.Ytoegjnolccabjab


/- The law DualFirst, walked. -/
namespace Go.Proofs.Ytoegjnolccabjab
open Go Go.RowKit

/-- Was a dart of the face that begins at the vertex met among the first ones? -/
def Sp.mt (T F : List Int) (f : Nat) (v : Int) : Nat → Bool
  | 0 => false
  | j + 1 => Sp.mt T F f v j || (F.getD j 0 == (f : Int) && T.getD j 0 == v)
theorem Sp.sharedGo_some {T F : List Int} {s t : Int} : ∀ g f (c : Nat), f ≤ c → c < f + g → Sp.meets T F c s → Sp.meets T F c t → (Sp.sharedGo T F s t g f).2 = true
  | 0, f, c, h1, h2, _, _ => by omega
  | g + 1, f, c, h1, h2, h3, h4 => by
    rw [Sp.sharedGo]
    split
    · rfl
    · rename_i h
      refine Sp.sharedGo_some g (f + 1) c ?_ (by omega) h3 h4
      rcases Nat.lt_or_ge f c with h5 | h5
      · omega
      · obtain rfl : f = c := by omega
        exact absurd ⟨Sp.meetsB_true h3, Sp.meetsB_true h4⟩ h
/-- The ends of an edge share a face. -/
theorem Sp.DualQ.edge {q : Sp.Net} (h : Sp.DualQ q) {x : Nat} (hx : x < q.tail.length) : (Sp.shared q (q.tail.getD x 0) (q.tail.getD (Sp.oth x) 0)).2 = (q.tail.getD x 0 != q.tail.getD (Sp.oth x) 0) := by
  unfold Sp.shared
  by_cases e : q.tail.getD x 0 = q.tail.getD (Sp.oth x) 0
  · rw [if_pos e, e]; simp
  · rw [if_neg e]
    have e2 : (q.tail.getD x 0 != q.tail.getD (Sp.oth x) 0) = true := by simpa using e
    rw [e2]
    have ho := oth_lt hx h.link.ev
    have hb := h.fb hx
    have hn := h.mpN _ ho
    have hk := h.k1
    have e3 : ((((Sp.faces2 q).1.getD x 0).toNat : Nat) : Int) = (Sp.faces2 q).1.getD x 0 := by omega
    refine Sp.sharedGo_some _ 0 ((Sp.faces2 q).1.getD x 0).toNat (by omega) (by omega) ⟨x, hx, rfl, e3.symm⟩ ⟨Sp.fn q.next (Sp.oth x), hn, ?_, ?_⟩
    · have hv := h.pl.vert.inv _ ho
      have b1 := h.tb _ (Sp.getD_mem (l := q.tail) hn)
      have b2 := h.tb _ (Sp.getD_mem (l := q.tail) ho)
      omega
    · rw [e3, h.turn ho, oth_oth]
end Go.Proofs.Ytoegjnolccabjab


/- The law RimEdges, walked. -/
namespace Go.Proofs.Ytoegjnolccabjab
open Go Go.RowKit

theorem Sp.rimE_of {q : Sp.Net} (_hq : Sp.RimQ q) {s t : Int} (hs : 0 ≤ s ∧ s < q.n) (ht : 0 ≤ t ∧ t < q.n) : (s = t → Sp.rimE q s t = 9) ∧ (s ≠ t → (Sp.shared q s t).2 = true → Sp.rimE q s t = 0) := by
  unfold Sp.rimE
  rw [if_neg (fun k => k ⟨hs, ht⟩)]
  exact ⟨fun e => by rw [if_pos e], fun e h => by rw [if_neg e, if_pos h]⟩
theorem Sp.RimIs.none {q : Sp.Net} {s t : Int} {P L : List Int} {x : Int} (h : Sp.RimIs q s t P L x) (h0 : Sp.rimE q s t ≠ 0) : P = [] ∧ L = [] ∧ x = 0 := by
  rcases h with ⟨-, h1, h2, h3⟩ | ⟨h1, -⟩
  · exact ⟨h1, h2, h3⟩
  · exact absurd h1 h0
end Go.Proofs.Ytoegjnolccabjab


/- Rounds of so many vertices: plane nets; what runs about them. -/
namespace Go.Proofs.Ytoegjnolccabjab
open Go Go.RowKit

def Sp.sc (k e : Nat) : Nat := if e + 1 = k then 0 else e + 1
def Sp.pd (k e : Nat) : Nat := if e = 0 then k - 1 else e - 1
theorem Sp.sc_mod {k e : Nat} (h : e < k) : (e + 1) % k = Sp.sc k e := by
  unfold Sp.sc
  by_cases h1 : e + 1 = k
  · rw [if_pos h1, h1, Nat.mod_self]
  · rw [if_neg h1, Nat.mod_eq_of_lt (by omega)]
theorem Sp.sc_lt {k e : Nat} (h : e < k) : Sp.sc k e < k := by unfold Sp.sc; split <;> omega
theorem Sp.pd_lt {k e : Nat} (h : e < k) : Sp.pd k e < k := by unfold Sp.pd; split <;> omega
theorem Sp.sc_pd {k e : Nat} (h : e < k) : Sp.sc k (Sp.pd k e) = e := by unfold Sp.sc Sp.pd; split <;> split <;> omega
theorem Sp.pd_sc {k e : Nat} (_h : e < k) : Sp.pd k (Sp.sc k e) = e := by unfold Sp.sc Sp.pd; split <;> split <;> omega
/-- A round's darts, the next ones about its vertices. -/
structure Sp.KnF (k : Nat) (T X : List Int) : Prop where
  k3 : 3 ≤ k
  k11 : k ≤ 11
  tl : T.length = 2 * k
  xl : X.length = 2 * k
  t0 : ∀ e, e < k → T.getD (2 * e) 0 = (e : Int)
  t1 : ∀ e, e < k → T.getD (2 * e + 1) 0 = (Sp.sc k e : Int)
  x0 : ∀ e, e < k → X.getD (2 * e) 0 = ((2 * Sp.pd k e + 1 : Nat) : Int)
  x1 : ∀ e, e < k → X.getD (2 * e + 1) 0 = ((2 * Sp.sc k e : Nat) : Int)
theorem Sp.half_cases {k x : Nat} (h : x < 2 * k) : ∃ e, e < k ∧ (x = 2 * e ∨ x = 2 * e + 1) := ⟨x / 2, by omega, by omega⟩
theorem Sp.oth_even (e : Nat) : Sp.oth (2 * e) = 2 * e + 1 ∧ Sp.oth (2 * e + 1) = 2 * e := by
  unfold Sp.oth
  constructor
  · rw [if_pos (by omega)]
  · rw [if_neg (by omega)]; omega
theorem Sp.KnF.f0 {k : Nat} {T X : List Int} (h : Sp.KnF k T X) {e : Nat} (he : e < k) : Sp.fn X (2 * e) = 2 * Sp.pd k e + 1 ∧ Sp.fn X (2 * e + 1) = 2 * Sp.sc k e := by
  unfold Sp.fn
  rw [h.x0 e he, h.x1 e he]
  exact ⟨rfl, rfl⟩
theorem Sp.KnF.b0 {k : Nat} {T X : List Int} (h : Sp.KnF k T X) {e : Nat} (he : e < k) : Sp.fn (Sp.behindL X) (2 * e) = 2 * Sp.sc k e ∧ Sp.fn (Sp.behindL X) (2 * e + 1) = 2 * Sp.pd k e + 1 := by
  rw [fn_behind _ _ (by rw [h.xl]; omega), fn_behind _ _ (by rw [h.xl]; omega), (Sp.oth_even e).1, (Sp.oth_even e).2]
  exact ⟨(h.f0 he).2, (h.f0 he).1⟩
theorem Sp.KnF.perm {k : Nat} {T X : List Int} (h : Sp.KnF k T X) : Sp.Perm X := by
  refine ⟨fun x hx => ?_, fun i j hi hj e => ?_⟩
  · obtain ⟨i, hi, rfl⟩ := List.getElem_of_mem hx
    have e1 : X[i] = X.getD i 0 := by rw [List.getD_eq_getElem?_getD, List.getElem?_eq_getElem hi]; rfl
    obtain ⟨e, he, rfl | rfl⟩ := Sp.half_cases (k := k) (x := i) (by rw [← h.xl]; exact hi)
    · rw [e1, h.x0 e he, h.xl]; have := Sp.pd_lt he; omega
    · rw [e1, h.x1 e he, h.xl]; have := Sp.sc_lt he; omega
  · rw [h.xl] at hi hj
    obtain ⟨a, ha, rfl | rfl⟩ := Sp.half_cases hi
    · obtain ⟨b, hb, rfl | rfl⟩ := Sp.half_cases hj
      · rw [h.x0 a ha, h.x0 b hb] at e
        have e2 : Sp.pd k a = Sp.pd k b := by omega
        have := congrArg (Sp.sc k) e2
        rw [Sp.sc_pd ha, Sp.sc_pd hb] at this
        omega
      · rw [h.x0 a ha, h.x1 b hb] at e; omega
    · obtain ⟨b, hb, rfl | rfl⟩ := Sp.half_cases hj
      · rw [h.x1 a ha, h.x0 b hb] at e; omega
      · rw [h.x1 a ha, h.x1 b hb] at e
        have e2 : Sp.sc k a = Sp.sc k b := by omega
        have := congrArg (Sp.pd k) e2
        rw [Sp.pd_sc ha, Sp.pd_sc hb] at this
        omega
theorem Sp.KnF.up {k : Nat} {T X : List Int} (h : Sp.KnF k T X) (i : Nat) : ∀ n, i + n < k → OrbF (Sp.fn (Sp.behindL X)) (2 * i) (2 * (i + n))
  | 0, _ => OrbF.refl _ _
  | n + 1, hn => OrbF.trans (h.up i n (by omega)) ⟨1, by
      show Sp.fn (Sp.behindL X) (2 * (i + n)) = _
      rw [(h.b0 (by omega)).1]
      unfold Sp.sc
      rw [if_neg (by omega)]
      omega⟩
theorem Sp.KnF.dn {k : Nat} {T X : List Int} (h : Sp.KnF k T X) (i : Nat) (hi : i < k) : ∀ n, n ≤ i → OrbF (Sp.fn (Sp.behindL X)) (2 * i + 1) (2 * (i - n) + 1)
  | 0, _ => OrbF.refl _ _
  | n + 1, hn => OrbF.trans (h.dn i hi n (by omega)) ⟨1, by
      show Sp.fn (Sp.behindL X) (2 * (i - n) + 1) = _
      rw [(h.b0 (by omega)).2]
      unfold Sp.pd
      rw [if_neg (by omega)]
      omega⟩
theorem Sp.KnF.orb0 {k : Nat} {T X : List Int} (h : Sp.KnF k T X) {i j : Nat} (hi : i < k) (hj : j < k) : OrbF (Sp.fn (Sp.behindL X)) (2 * i) (2 * j) := by
  rcases Nat.lt_or_ge j i with hl | hl
  · have h1 := h.up i (k - 1 - i) (by omega)
    have h2 := h.up 0 j (by omega)
    rw [show i + (k - 1 - i) = k - 1 by omega] at h1
    rw [show 0 + j = j by omega] at h2
    exact h1.trans (OrbF.trans ⟨1, by
      show Sp.fn (Sp.behindL X) (2 * (k - 1)) = _
      rw [(h.b0 (by omega)).1]
      unfold Sp.sc
      rw [if_pos (by omega)]⟩ h2)
  · have h1 := h.up i (j - i) (by omega)
    rw [show i + (j - i) = j by omega] at h1
    exact h1
theorem Sp.KnF.orb1 {k : Nat} {T X : List Int} (h : Sp.KnF k T X) {i j : Nat} (hi : i < k) (hj : j < k) : OrbF (Sp.fn (Sp.behindL X)) (2 * i + 1) (2 * j + 1) := by
  rcases Nat.lt_or_ge i j with hl | hl
  · have h1 := h.dn i hi i (Nat.le_refl _)
    have h2 := h.dn (k - 1) (by omega) (k - 1 - j) (by omega)
    rw [show i - i = 0 by omega] at h1
    rw [show k - 1 - (k - 1 - j) = j by omega] at h2
    exact h1.trans (OrbF.trans ⟨1, by
      show Sp.fn (Sp.behindL X) (2 * 0 + 1) = _
      rw [(h.b0 (by omega)).2]
      rfl⟩ h2)
  · have h1 := h.dn i hi (i - j) (by omega)
    rw [show i - (i - j) = j by omega] at h1
    exact h1
theorem Sp.KnF.plain {k : Nat} {T X : List Int} (h : Sp.KnF k T X) (C : List Int) : Sp.Plain ⟨(k : Int), T, X, C⟩ := by
  have hk3 := h.k3
  refine ⟨?_, ⟨fun x => x % 2, 2, ?_, ?_⟩, fun v h0 h1 => ?_⟩
  · show Cls T.length (Sp.fn X) (fun i => (T.getD i 0).toNat) ((k : Int).toNat)
    rw [h.tl, Int.toNat_natCast]
    have l0 : ∀ e, e < k → (T.getD (2 * e) 0).toNat = e := fun e he => by rw [h.t0 e he]; rfl
    have l1 : ∀ e, e < k → (T.getD (2 * e + 1) 0).toNat = Sp.sc k e := fun e he => by rw [h.t1 e he]; rfl
    refine ⟨fun i hi => ?_, fun c hc => ⟨2 * c, by omega, l0 c hc⟩, fun i hi => ?_, fun i j hi hj e => ?_⟩
    · obtain ⟨a, ha, rfl | rfl⟩ := Sp.half_cases hi
      · show (T.getD (2 * a) 0).toNat < k; rw [l0 a ha]; exact ha
      · show (T.getD (2 * a + 1) 0).toNat < k; rw [l1 a ha]; exact Sp.sc_lt ha
    · obtain ⟨a, ha, rfl | rfl⟩ := Sp.half_cases hi
      · show (T.getD (Sp.fn X (2 * a)) 0).toNat = (T.getD (2 * a) 0).toNat
        rw [(h.f0 ha).1, l1 _ (Sp.pd_lt ha), l0 a ha, Sp.sc_pd ha]
      · show (T.getD (Sp.fn X (2 * a + 1)) 0).toNat = (T.getD (2 * a + 1) 0).toNat
        rw [(h.f0 ha).2, l0 _ (Sp.sc_lt ha), l1 a ha]
    · have e' : (T.getD i 0).toNat = (T.getD j 0).toNat := e
      obtain ⟨a, ha, rfl | rfl⟩ := Sp.half_cases hi
      · obtain ⟨b, hb, rfl | rfl⟩ := Sp.half_cases hj
        · rw [l0 a ha, l0 b hb] at e'
          rw [e']; exact OrbF.refl _ _
        · rw [l0 a ha, l1 b hb] at e'
          exact ⟨1, by show Sp.fn X (2 * a) = _; rw [(h.f0 ha).1, e', Sp.pd_sc hb]⟩
      · obtain ⟨b, hb, rfl | rfl⟩ := Sp.half_cases hj
        · rw [l1 a ha, l0 b hb] at e'
          exact ⟨1, by show Sp.fn X (2 * a + 1) = _; rw [(h.f0 ha).2, e']⟩
        · rw [l1 a ha, l1 b hb] at e'
          have := congrArg (Sp.pd k) e'
          rw [Sp.pd_sc ha, Sp.pd_sc hb] at this
          rw [this]; exact OrbF.refl _ _
  · show Cls T.length (Sp.fn (Sp.behindL X)) (fun x => x % 2) 2
    rw [h.tl]
    refine ⟨fun i _ => Nat.mod_lt _ (by omega), fun c hc => ⟨c, by omega, by show c % 2 = c; omega⟩, fun i hi => ?_, fun i j hi hj e => ?_⟩
    · obtain ⟨a, ha, rfl | rfl⟩ := Sp.half_cases hi
      · show Sp.fn (Sp.behindL X) (2 * a) % 2 = 2 * a % 2
        rw [(h.b0 ha).1]; omega
      · show Sp.fn (Sp.behindL X) (2 * a + 1) % 2 = (2 * a + 1) % 2
        rw [(h.b0 ha).2]; omega
    · have e' : i % 2 = j % 2 := e
      obtain ⟨a, ha, rfl | rfl⟩ := Sp.half_cases hi
      · obtain ⟨b, hb, rfl | rfl⟩ := Sp.half_cases hj
        · exact h.orb0 ha hb
        · omega
      · obtain ⟨b, hb, rfl | rfl⟩ := Sp.half_cases hj
        · omega
        · exact h.orb1 ha hb
  · show (k : Int) - ((T.length / 2 : Nat) : Int) + ((2 : Nat) : Int) = 2
    rw [h.tl]
    omega
  · have h1' : v < (k : Int) := h1
    obtain ⟨u, rfl⟩ : ∃ u : Nat, v = (u : Int) := ⟨v.toNat, by omega⟩
    show Sp.Reach T 0 (u : Int)
    have key : ∀ n : Nat, n < k → Sp.Reach T 0 (n : Int) := fun n => by
      induction n with
      | zero => intro _; exact .refl _
      | succ n ih =>
        intro hn
        have h3 := Sp.Reach.step (tl := T) (u := 0) (d := 2 * n) (by rw [h.t0 n (by omega)]; exact ih (by omega)) (by rw [h.tl]; omega)
        rw [(Sp.oth_even n).1, h.t1 n (by omega)] at h3
        unfold Sp.sc at h3
        rw [if_neg (by omega)] at h3
        exact h3
    exact key u (by omega)
theorem Sp.KnF.tb {k : Nat} {T X : List Int} (h : Sp.KnF k T X) : ∀ x ∈ T, 0 ≤ x ∧ x < (k : Int) := fun x hx => by
  obtain ⟨i, hi, rfl⟩ := List.getElem_of_mem hx
  have e1 : T[i] = T.getD i 0 := by rw [List.getD_eq_getElem?_getD, List.getElem?_eq_getElem hi]; rfl
  obtain ⟨e, he, rfl | rfl⟩ := Sp.half_cases (k := k) (x := i) (by rw [← h.tl]; exact hi)
  · rw [e1, h.t0 e he]; omega
  · rw [e1, h.t1 e he]; have := Sp.sc_lt he; omega
theorem Sp.KnF.dual {k : Nat} {T X C : List Int} (h : Sp.KnF k T X) (hl : C.length = 2 * k) (hb : ∀ x ∈ C, 0 ≤ x ∧ x ≤ 2147483648) : Sp.DualQ ⟨(k : Int), T, X, C⟩ := by
  have := h.k3
  have := h.k11
  have e := h.tl
  exact ⟨⟨by show X.length = T.length; rw [h.xl, h.tl], by show C.length = T.length; rw [hl, h.tl], by show T.length ≤ 60; omega, by show T.length % 2 = 0; omega, h.perm⟩, by show T.length ≤ 48; omega, by show 0 < T.length; omega, by show 1 ≤ (k : Int); omega, by show (k : Int) ≤ 60; omega, h.tb, hb, h.plain C⟩
theorem Sp.KnF.planeQ {k : Nat} {T X C : List Int} (h : Sp.KnF k T X) (hl : C.length = 2 * k) (hb : ∀ x ∈ C, 0 ≤ x ∧ x ≤ 2147483648) : Sp.PlaneQ ⟨(k : Int), T, X, C⟩ 24 := by
  have := h.k3
  have := h.k11
  have e := h.tl
  refine ⟨by show T.length % 2 = 0; omega, by show T.length ≤ 48; omega, by show 1 ≤ (k : Int); omega, by show (k : Int) ≤ 25; omega, by show X.length = T.length; rw [h.xl, h.tl], by show C.length = T.length; rw [hl, h.tl], h.perm, h.tb, hb, fun i hi => ?_⟩
  have hi' : i < 2 * k := by rw [← h.xl]; exact hi
  show T.getD (X.getD i 0).toNat 0 = T.getD i 0
  obtain ⟨a, ha, rfl | rfl⟩ := Sp.half_cases hi'
  · rw [h.x0 a ha, Int.toNat_natCast, h.t1 _ (Sp.pd_lt ha), h.t0 a ha, Sp.sc_pd ha]
  · rw [h.x1 a ha, Int.toNat_natCast, h.t0 _ (Sp.sc_lt ha), h.t1 a ha]
theorem Sp.KnF.rimQ {k : Nat} {T X C : List Int} (h : Sp.KnF k T X) (hl : C.length = 2 * k) (hb : ∀ x ∈ C, 0 ≤ x ∧ x ≤ 2147483648) : Sp.RimQ ⟨(k : Int), T, X, C⟩ := by
  have hd := h.dual hl hb
  have hw := (h.planeQ hl hb).walk (by omega)
  exact Sp.RimQ.of_dual hd hw (Sp.check_plain hw hd.n0 hd.link.pm hb hd.l0 hd.pl)
theorem Sp.sumN_two (f : Nat → Int) : ∀ n, Sp.sumN f (2 * n) = Sp.sumN (fun e => f (2 * e) + f (2 * e + 1)) n
  | 0 => rfl
  | n + 1 => by
    rw [show 2 * (n + 1) = 2 * n + 1 + 1 by omega, Sp.sumN, Sp.sumN, Sp.sumN, Sp.sumN_two f n]
    omega
/-- What runs out of a vertex of a round. -/
theorem Sp.KnF.vs {k : Nat} {T X : List Int} (h : Sp.KnF k T X) (z : Nat → Int) {v : Nat} (hv : v < k) : Sp.sumN (fun d => if T.getD d 0 = (v : Int) then z d else 0) T.length = z (2 * v) + z (2 * Sp.pd k v + 1) := by
  rw [h.tl, Sp.sumN_two]
  have e : Sp.sumN (fun e => (if T.getD (2 * e) 0 = (v : Int) then z (2 * e) else 0) + (if T.getD (2 * e + 1) 0 = (v : Int) then z (2 * e + 1) else 0)) k = Sp.sumN (fun e => (if e = v then z (2 * v) else 0) + (if e = Sp.pd k v then z (2 * Sp.pd k v + 1) else 0)) k :=
    Sp.sumN_congr _ fun e he => by
      rw [h.t0 e he, h.t1 e he]
      have a1 : (if (e : Int) = (v : Int) then z (2 * e) else 0) = if e = v then z (2 * v) else 0 := by
        by_cases c : e = v
        · rw [if_pos (by omega), if_pos c, c]
        · rw [if_neg (by omega), if_neg c]
      have a2 : (if (Sp.sc k e : Int) = (v : Int) then z (2 * e + 1) else 0) = if e = Sp.pd k v then z (2 * Sp.pd k v + 1) else 0 := by
        by_cases c : e = Sp.pd k v
        · rw [if_pos (by rw [c, Sp.sc_pd hv]), if_pos c, c]
        · rw [if_neg (fun c2 => c (by have : Sp.sc k e = v := by omega
                                      rw [← this, Sp.pd_sc he])), if_neg c]
      rw [a1, a2]
  show Sp.sumN (fun e => (if T.getD (2 * e) 0 = (v : Int) then z (2 * e) else 0) + (if T.getD (2 * e + 1) 0 = (v : Int) then z (2 * e + 1) else 0)) k = _
  rw [e, Sp.sumN_add, Sp.sumN_one, Sp.sumN_one, if_pos hv, if_pos (Sp.pd_lt hv)]
theorem Sp.KnF.vs0 {k : Nat} {T X : List Int} (h : Sp.KnF k T X) (z : Nat → Int) {u : Int} (hu : ∀ v : Nat, v < k → u ≠ (v : Int)) : Sp.sumN (fun d => if T.getD d 0 = u then z d else 0) T.length = 0 := by
  rw [Sp.sumN_congr T.length (h := fun _ => 0) (fun d hd => by
    have := h.tb _ (Sp.getD_mem (l := T) hd)
    rw [if_neg (fun e => hu (T.getD d 0).toNat (by omega) (by omega))]), Sp.sumN_zero]
theorem Sp.KnF.cir {k : Nat} {T X : List Int} (h : Sp.KnF k T X) (C : List Int) : Sp.Cir ⟨(k : Int), T, X, C⟩ := by
  intro g ha hv
  have hk3 := h.k3
  have ha' : ∀ e, e < k → g (2 * e + 1) = - g (2 * e) := fun e he => by
    have := ha (2 * e) (by show _ < T.length; rw [h.tl]; omega)
    rw [(Sp.oth_even e).1] at this
    exact this
  have hst : ∀ v, v < k → g (2 * v) = g (2 * Sp.pd k v) := fun v hvk => by
    have h1 : Sp.sumN (fun d => if T.getD d 0 = (v : Int) then g d else 0) T.length = 0 := hv (v : Int)
    rw [h.vs g hvk, ha' _ (Sp.pd_lt hvk)] at h1
    omega
  have hco : ∀ n, n < k → g (2 * n) = g 0 := fun n => by
    induction n with
    | zero => intro _; rfl
    | succ n ih =>
      intro hn
      rw [hst (n + 1) hn]
      unfold Sp.pd
      rw [if_neg (by omega), show n + 1 - 1 = n by omega]
      exact ih (by omega)
  refine ⟨fun x => if x % 2 = 0 then 0 else g 0, fun x hx => ?_, fun d hd => ?_⟩
  · have hx' : x < 2 * k := by rw [← h.tl]; exact hx
    show (if Sp.fn (Sp.behindL X) x % 2 = 0 then 0 else g 0) = if x % 2 = 0 then 0 else g 0
    obtain ⟨a, ha2, rfl | rfl⟩ := Sp.half_cases hx'
    · rw [(h.b0 ha2).1, if_pos (by omega), if_pos (by omega)]
    · rw [(h.b0 ha2).2, if_neg (by omega), if_neg (by omega)]
  · have hd' : d < 2 * k := by rw [← h.tl]; exact hd
    show g d = (if Sp.oth d % 2 = 0 then 0 else g 0) - if d % 2 = 0 then 0 else g 0
    obtain ⟨a, ha2, rfl | rfl⟩ := Sp.half_cases hd'
    · rw [(Sp.oth_even a).1, if_neg (by omega), if_pos (by omega), hco a ha2]; omega
    · rw [(Sp.oth_even a).2, if_pos (by omega), if_neg (by omega), ha' a ha2, hco a ha2]; omega
/-- The j-th vertex on from s. -/
def Sp.go (k s : Nat) : Nat → Nat
  | 0 => s
  | j + 1 => Sp.sc k (Sp.go k s j)
/-- The least of the j edges on from s. -/
def Sp.mnC (k s : Nat) (c : Nat → Int) : Nat → Int
  | 0 => 1152921504606846976
  | j + 1 => min (Sp.mnC k s c j) (c (Sp.go k s j))
theorem Sp.go_lt {k s : Nat} (hs : s < k) : ∀ j, Sp.go k s j < k
  | 0 => hs
  | j + 1 => Sp.sc_lt (Sp.go_lt hs j)
theorem Sp.go_at {k s : Nat} (hs : s < k) : ∀ j, j ≤ k → Sp.go k s j = if s + j < k then s + j else s + j - k
  | 0, _ => by rw [if_pos (by omega)]; rfl
  | j + 1, hj => by
    show Sp.sc k (Sp.go k s j) = _
    rw [Sp.go_at hs j (by omega)]
    unfold Sp.sc
    split <;> split <;> split <;> omega
theorem Sp.mnC_le {k s : Nat} {c : Nat → Int} : ∀ j i, i < j → Sp.mnC k s c j ≤ c (Sp.go k s i)
  | 0, i, h => absurd h (Nat.not_lt_zero _)
  | j + 1, i, h => by
    show min (Sp.mnC k s c j) (c (Sp.go k s j)) ≤ _
    by_cases e : i = j
    · subst e; exact Int.min_le_right _ _
    · exact Int.le_trans (Int.min_le_left _ _) (Sp.mnC_le j i (by omega))
theorem Sp.mnC_ge {k s : Nat} {c : Nat → Int} {a : Int} (ha : a ≤ 1152921504606846976) : ∀ j, (∀ i, i < j → a ≤ c (Sp.go k s i)) → a ≤ Sp.mnC k s c j
  | 0, _ => ha
  | j + 1, h => by
    show a ≤ min (Sp.mnC k s c j) (c (Sp.go k s j))
    rw [Int.le_min]
    exact ⟨Sp.mnC_ge ha j (fun i hi => h i (by omega)), h j (by omega)⟩
/-- How many edges lie from s on to t. -/
def Sp.gap (k s t : Nat) : Nat := if s ≤ t then t - s else t + k - s
theorem Sp.gap_go {k s t : Nat} (hs : s < k) (ht : t < k) (hst : s ≠ t) : 0 < Sp.gap k s t ∧ Sp.gap k s t < k ∧ Sp.go k s (Sp.gap k s t) = t ∧ ∀ j, j < Sp.gap k s t → Sp.go k s j ≠ t := by
  have hg : 0 < Sp.gap k s t ∧ Sp.gap k s t < k := by unfold Sp.gap; split <;> omega
  refine ⟨hg.1, hg.2, ?_, fun j hj => ?_⟩
  · rw [Sp.go_at hs _ (by omega)]
    unfold Sp.gap
    split <;> split <;> omega
  · rw [Sp.go_at hs _ (by omega)]
    unfold Sp.gap at hj hg
    split at hj <;> split <;> omega
/-- What a flow has along a round. -/
theorem Sp.KnF.along {k : Nat} {T X C L : List Int} (h : Sp.KnF k T X) {s t : Nat} (hs : s < k) (ht : t < k) (hst : s ≠ t) {x : Int} (hf : Sp.FlowQ ⟨(k : Int), T, X, C⟩ (s : Int) (t : Int) L x) :
    (∀ j, j < Sp.gap k s t → L.getD (2 * Sp.go k s j) 0 = L.getD (2 * s) 0) ∧ (∀ j, j < Sp.gap k t s → L.getD (2 * Sp.go k t j) 0 = L.getD (2 * t) 0) ∧ x = L.getD (2 * s) 0 - L.getD (2 * t) 0 := by
  have hop : ∀ e, e < k → L.getD (2 * e + 1) 0 = - L.getD (2 * e) 0 := fun e he => by
    have := hf.op (2 * e) (by show _ < T.length; rw [h.tl]; omega)
    rw [(Sp.oth_even e).1] at this
    exact this
  have hmid : ∀ v, v < k → v ≠ s → v ≠ t → L.getD (2 * v) 0 = L.getD (2 * Sp.pd k v) 0 := fun v hv h1 h2 => by
    have h3 : Sp.sumN (fun d => if T.getD d 0 = (v : Int) then L.getD d 0 else 0) T.length = 0 := hf.mid (v : Int) (by omega) (by omega)
    rw [h.vs _ hv, hop _ (Sp.pd_lt hv)] at h3
    omega
  have arc : ∀ a b : Nat, a < k → b < k → a ≠ b → (∀ v, v < k → v ≠ a → v ≠ b → L.getD (2 * v) 0 = L.getD (2 * Sp.pd k v) 0) → ∀ j, j < Sp.gap k a b → L.getD (2 * Sp.go k a j) 0 = L.getD (2 * a) 0 := fun a b ha hb hab hm j => by
    obtain ⟨g1, g2, g3, g4⟩ := Sp.gap_go ha hb hab
    induction j with
    | zero => intro _; rfl
    | succ j ih =>
      intro hj
      have hlt := Sp.go_lt ha (j + 1)
      have hna : Sp.go k a (j + 1) ≠ a := by
        rw [Sp.go_at ha _ (by omega)]
        split <;> omega
      rw [hm _ hlt hna (g4 _ hj)]
      show L.getD (2 * Sp.pd k (Sp.sc k (Sp.go k a j))) 0 = _
      rw [Sp.pd_sc (Sp.go_lt ha j)]
      exact ih (by omega)
  have A1 := arc s t hs ht hst hmid
  have A2 := arc t s ht hs (fun e => hst e.symm) (fun v hv h1 h2 => hmid v hv h2 h1)
  refine ⟨A1, A2, ?_⟩
  obtain ⟨g1, g2, g3, g4⟩ := Sp.gap_go ht hs (fun e => hst e.symm)
  have h3 : Sp.sumN (fun d => if T.getD d 0 = (s : Int) then L.getD d 0 else 0) T.length = x := hf.src
  rw [h.vs _ hs, hop _ (Sp.pd_lt hs)] at h3
  have h4 : Sp.pd k s = Sp.go k t (Sp.gap k t s - 1) := by
    have : Sp.go k t (Sp.gap k t s) = Sp.sc k (Sp.go k t (Sp.gap k t s - 1)) := by
      rw [show Sp.gap k t s = (Sp.gap k t s - 1) + 1 by omega]; rfl
    have e : Sp.sc k (Sp.go k t (Sp.gap k t s - 1)) = s := this.symm.trans g3
    have e2 := Sp.pd_sc (k := k) (Sp.go_lt ht (Sp.gap k t s - 1))
    rw [e] at e2
    exact e2
  have h5 := A2 (Sp.gap k t s - 1) (by omega)
  rw [← h4] at h5
  omega
theorem Sp.gap_at {k s e : Nat} (hs : s < k) (he : e < k) : Sp.go k s (Sp.gap k s e) = e := by
  rw [Sp.go_at hs _ (by unfold Sp.gap; split <;> omega)]
  unfold Sp.gap
  split <;> split <;> omega
/-- What runs both ways about. -/
def Sp.knY (k s t : Nat) (a b : Int) (e : Nat) : Int := if Sp.gap k s e < Sp.gap k s t then a else -b
def Sp.knZ (k s t : Nat) (a b : Int) (d : Nat) : Int := if d % 2 = 0 then Sp.knY k s t a b (d / 2) else - Sp.knY k s t a b (d / 2)
theorem Sp.knZ0 (k s t : Nat) (a b : Int) (e : Nat) : Sp.knZ k s t a b (2 * e) = Sp.knY k s t a b e ∧ Sp.knZ k s t a b (2 * e + 1) = - Sp.knY k s t a b e := by
  unfold Sp.knZ
  rw [if_pos (by omega), if_neg (by omega), show 2 * e / 2 = e by omega, show (2 * e + 1) / 2 = e by omega]
  exact ⟨rfl, rfl⟩
theorem Sp.KnF.flow {k : Nat} {T X C : List Int} (h : Sp.KnF k T X) {c : Nat → Int} (hc0 : ∀ e, e < k → C.getD (2 * e) 0 = c e ∧ C.getD (2 * e + 1) 0 = c e) (hcp : ∀ e, e < k → 0 ≤ c e) {s t : Nat} (hs : s < k) (ht : t < k) (hst : s ≠ t) {a b : Int} (ha : 0 ≤ a) (hb : 0 ≤ b) (ha1 : ∀ j, j < Sp.gap k s t → a ≤ c (Sp.go k s j)) (hb1 : ∀ j, j < Sp.gap k t s → b ≤ c (Sp.go k t j)) :
    Sp.FlowQ ⟨(k : Int), T, X, C⟩ (s : Int) (t : Int) ((List.range (2 * k)).map (Sp.knZ k s t a b)) (a + b) := by
  have hL : ∀ d, d < 2 * k → ((List.range (2 * k)).map (Sp.knZ k s t a b)).getD d 0 = Sp.knZ k s t a b d := fun d hd => Sp.rowD hd
  have hY : ∀ e, e < k → Sp.knY k s t a b e ≤ c e ∧ - Sp.knY k s t a b e ≤ c e := fun e he => by
    have h0 := hcp e he
    unfold Sp.knY
    by_cases hg : Sp.gap k s e < Sp.gap k s t
    · rw [if_pos hg]
      have := ha1 _ hg
      rw [Sp.gap_at hs he] at this
      omega
    · rw [if_neg hg]
      have := hb1 (Sp.gap k t e) (by unfold Sp.gap at hg ⊢; split at hg <;> split at hg <;> split <;> split <;> omega)
      rw [Sp.gap_at ht he] at this
      omega
  have hS : ∀ v, v < k → Sp.sumN (fun d => if T.getD d 0 = (v : Int) then ((List.range (2 * k)).map (Sp.knZ k s t a b)).getD d 0 else 0) T.length = Sp.knY k s t a b v - Sp.knY k s t a b (Sp.pd k v) := fun v hv => by
    rw [h.vs _ hv, hL _ (by omega), hL _ (by have := Sp.pd_lt hv; omega), (Sp.knZ0 k s t a b v).1, (Sp.knZ0 k s t a b _).2]
    omega
  have hyy : ∀ v, v < k → Sp.knY k s t a b v - Sp.knY k s t a b (Sp.pd k v) = if v = s then a + b else if v = t then -(a + b) else 0 := fun v hv => by
    have c1 : (Sp.gap k s v < Sp.gap k s t ∧ Sp.gap k s (Sp.pd k v) < Sp.gap k s t ∧ v ≠ s ∧ v ≠ t) ∨ (Sp.gap k s v < Sp.gap k s t ∧ ¬ Sp.gap k s (Sp.pd k v) < Sp.gap k s t ∧ v = s) ∨ (¬ Sp.gap k s v < Sp.gap k s t ∧ Sp.gap k s (Sp.pd k v) < Sp.gap k s t ∧ v ≠ s ∧ v = t) ∨ (¬ Sp.gap k s v < Sp.gap k s t ∧ ¬ Sp.gap k s (Sp.pd k v) < Sp.gap k s t ∧ v ≠ s ∧ v ≠ t) := by
      unfold Sp.gap Sp.pd
      split <;> split <;> split <;> (try split) <;> omega
    unfold Sp.knY
    rcases c1 with ⟨p1, p2, p3, p4⟩ | ⟨p1, p2, p3⟩ | ⟨p1, p2, p3, p4⟩ | ⟨p1, p2, p3, p4⟩
    · rw [if_pos p1, if_pos p2, if_neg p3, if_neg p4]; omega
    · rw [if_pos p1, if_neg p2, if_pos p3]; omega
    · rw [if_neg p1, if_pos p2, if_neg p3, if_pos p4]; omega
    · rw [if_neg p1, if_neg p2, if_neg p3, if_neg p4]; omega
  refine ⟨by show _ = T.length; rw [List.length_map, List.length_range, h.tl], fun d hd => ?_, fun d hd => ?_, ?_, ?_, fun u us ut => ?_⟩
  · have hd' : d < 2 * k := by rw [← h.tl]; exact hd
    obtain ⟨e, he, rfl | rfl⟩ := Sp.half_cases hd'
    · rw [(Sp.oth_even e).1, hL _ (by omega), hL _ (by omega), (Sp.knZ0 k s t a b e).1, (Sp.knZ0 k s t a b e).2]
    · rw [(Sp.oth_even e).2, hL _ (by omega), hL _ (by omega), (Sp.knZ0 k s t a b e).1, (Sp.knZ0 k s t a b e).2]; omega
  · have hd' : d < 2 * k := by rw [← h.tl]; exact hd
    show _ ≤ C.getD d 0
    obtain ⟨e, he, rfl | rfl⟩ := Sp.half_cases hd'
    · rw [hL _ (by omega), (Sp.knZ0 k s t a b e).1, (hc0 e he).1]; exact (hY e he).1
    · rw [hL _ (by omega), (Sp.knZ0 k s t a b e).2, (hc0 e he).2]; exact (hY e he).2
  · exact (hS s hs).trans (by rw [hyy s hs, if_pos rfl])
  · exact (hS t ht).trans (by rw [hyy t ht, if_neg (fun e => hst e.symm), if_pos rfl])
  · by_cases hu : ∃ v : Nat, v < k ∧ u = (v : Int)
    · obtain ⟨v, hv, rfl⟩ := hu
      exact (hS v hv).trans (by rw [hyy v hv, if_neg (fun e => us (by rw [e])), if_neg (fun e => ut (by rw [e]))])
    · exact h.vs0 _ (fun v hv e => hu ⟨v, hv, e⟩)
theorem Sp.KnF.rim {k : Nat} {T X C : List Int} (h : Sp.KnF k T X) (hl : C.length = 2 * k) {c : Nat → Int} (hc0 : ∀ e, e < k → C.getD (2 * e) 0 = c e ∧ C.getD (2 * e + 1) 0 = c e) (hb : ∀ x ∈ C, 0 ≤ x ∧ x ≤ 2147483648) {s t : Nat} (hs : s < k) (ht : t < k) :
    (s = t → Sp.rimE ⟨(k : Int), T, X, C⟩ (s : Int) (t : Int) = 9) ∧ (s ≠ t → Sp.rimE ⟨(k : Int), T, X, C⟩ (s : Int) (t : Int) = 0 ∧ ∀ P L x, Sp.RimIs ⟨(k : Int), T, X, C⟩ (s : Int) (t : Int) P L x → x = Sp.mnC k s c (Sp.gap k s t) + Sp.mnC k t c (Sp.gap k t s)) := by
  have hd := h.dual hl hb
  have hq := h.rimQ hl hb
  have hE := Sp.rimE_of hq (s := (s : Int)) (t := (t : Int)) ⟨by omega, by show (s : Int) < (k : Int); omega⟩ ⟨by omega, by show (t : Int) < (k : Int); omega⟩
  refine ⟨fun e => hE.1 (by rw [e]), fun hst => ?_⟩
  have hsh : (Sp.shared ⟨(k : Int), T, X, C⟩ (s : Int) (t : Int)).2 = true := by
    have o1 : 2 * s < (⟨(k : Int), T, X, C⟩ : Sp.Net).tail.length := by show _ < T.length; rw [h.tl]; omega
    have o2 : 2 * t < (⟨(k : Int), T, X, C⟩ : Sp.Net).tail.length := by show _ < T.length; rw [h.tl]; omega
    have hlab := hd.cls.orb hd.mp o1 (h.orb0 hs ht)
    have g1 := hd.fb o1
    have g2 := hd.fb o2
    have hlab' : ((Sp.faces2 ⟨(k : Int), T, X, C⟩).1.getD (2 * s) 0).toNat = ((Sp.faces2 ⟨(k : Int), T, X, C⟩).1.getD (2 * t) 0).toNat := hlab
    have hk := hd.k1
    unfold Sp.shared
    rw [if_neg (by omega)]
    exact Sp.sharedGo_some _ 0 ((Sp.faces2 ⟨(k : Int), T, X, C⟩).1.getD (2 * s) 0).toNat (by omega) (by omega) ⟨2 * s, o1, h.t0 s hs, by omega⟩ ⟨2 * t, o2, h.t0 t ht, by omega⟩
  have hE0 := hE.2 (by omega) hsh
  refine ⟨hE0, fun P L x hR => ?_⟩
  have hcb : ∀ e, e < k → 0 ≤ c e ∧ c e ≤ 2147483648 := fun e he => by
    have := hb _ (Sp.getD_mem (l := C) (show 2 * e < C.length by omega))
    rw [(hc0 e he).1] at this
    exact this
  have hf := (hR.flow (fun _ => hd) hq hE0).1
  obtain ⟨a1, a2, a3⟩ := h.along hs ht hst hf
  obtain ⟨g1, g2, g3, g4⟩ := Sp.gap_go hs ht hst
  obtain ⟨k1, k2, k3, k4⟩ := Sp.gap_go ht hs (fun e => hst e.symm)
  have hop : ∀ e, e < k → L.getD (2 * e + 1) 0 = - L.getD (2 * e) 0 := fun e he => by
    have := hf.op (2 * e) (by show _ < T.length; rw [h.tl]; omega)
    rw [(Sp.oth_even e).1] at this
    exact this
  have up1 : ∀ j, j < Sp.gap k s t → L.getD (2 * s) 0 ≤ c (Sp.go k s j) := fun j hj => by
    have hg := Sp.go_lt hs j
    have := hf.le (2 * Sp.go k s j) (by show _ < T.length; rw [h.tl]; omega)
    rw [a1 j hj] at this
    have e : C.getD (2 * Sp.go k s j) 0 = c (Sp.go k s j) := (hc0 _ hg).1
    have this' : L.getD (2 * s) 0 ≤ C.getD (2 * Sp.go k s j) 0 := this
    omega
  have up2 : ∀ j, j < Sp.gap k t s → - L.getD (2 * t) 0 ≤ c (Sp.go k t j) := fun j hj => by
    have hg := Sp.go_lt ht j
    have := hf.le (2 * Sp.go k t j + 1) (by show _ < T.length; rw [h.tl]; omega)
    rw [hop _ hg, a2 j hj] at this
    have e : C.getD (2 * Sp.go k t j + 1) 0 = c (Sp.go k t j) := (hc0 _ hg).2
    have this' : - L.getD (2 * t) 0 ≤ C.getD (2 * Sp.go k t j + 1) 0 := this
    omega
  have b1 := hcb _ (Sp.go_lt hs 0)
  have b2 := hcb _ (Sp.go_lt ht 0)
  have m1 := Sp.mnC_ge (k := k) (s := s) (c := c) (a := L.getD (2 * s) 0) (by have := up1 0 g1; omega) _ up1
  have m2 := Sp.mnC_ge (k := k) (s := t) (c := c) (a := - L.getD (2 * t) 0) (by have := up2 0 k1; omega) _ up2
  have n1 := Sp.mnC_ge (k := k) (s := s) (c := c) (a := 0) (by omega) (Sp.gap k s t) (fun i _ => (hcb _ (Sp.go_lt hs i)).1)
  have n2 := Sp.mnC_ge (k := k) (s := t) (c := c) (a := 0) (by omega) (Sp.gap k t s) (fun i _ => (hcb _ (Sp.go_lt ht i)).1)
  have hfl := h.flow (C := C) hc0 (fun e he => (hcb e he).1) hs ht hst n1 n2 (fun j hj => Sp.mnC_le _ j hj) (fun j hj => Sp.mnC_le _ j hj)
  have hm := hR.most (fun _ => hd) hq (h.cir C) hE0 hfl
  omega
end Go.Proofs.Ytoegjnolccabjab


