/- What the proof needs, part 19. -/
import Derived.Test.YtoegjnolccabjaaL18
/- Every flow of two that share a face is a rise. -/
namespace Go.Proofs.Ytoegjnolccabjaa

theorem Sp.DualQ.flow_rise {q : Sp.Net} (h : Sp.DualQ q) (hr : Sp.RimQ q) (hc : Sp.Cir q) {s t : Int} {f d0 a jb : Nat} (hs : Sp.SplitQ q s t f d0 a jb) (hst : s ≠ t) {g : Nat → Int} {x : Int} (ha : ∀ d, d < q.tail.length → g (Sp.oth d) = - g d)
    (hv : ∀ u, u ≠ s → u ≠ t → Sp.sumN (fun d => if q.tail.getD d 0 = u then g d else 0) q.tail.length = 0)
    (hx : Sp.sumN (fun d => if q.tail.getD d 0 = s then g d else 0) q.tail.length = x) (hy : Sp.sumN (fun d => if q.tail.getD d 0 = t then g d else 0) q.tail.length = -x) :
    ∃ P : Nat → Int, P (Sp.landK q) - P f = x ∧ ∀ d, d < q.tail.length → g d = P ((Sp.splitL q f d0 a jb).getD (Sp.oth d) 0).toNat - P ((Sp.splitL q f d0 a jb).getD d 0).toNat := by
  have hh := h.halves hs
  have hev := h.link.ev
  have hkk : max (Sp.faces2 q).2 1 = Sp.landK q := rfl
  have hfK : f < Sp.landK q := by rw [← hkk]; exact hh.fK
  have hbm := (h.fp).fnP.mp
  rw [h.bl] at hbm
  have hvs := fun u => h.vsum hs ((List.range (Sp.landK q + 1)).map fun c => if c = Sp.landK q then x else 0) u
  rw [hkk] at hvs
  have e1 : ((List.range (Sp.landK q + 1)).map fun c => if c = Sp.landK q then x else 0).getD f 0 = 0 := by
    rw [Sp.rowD (D := fun c => if c = Sp.landK q then x else 0) (by omega), if_neg (by omega)]
  have e2 : ((List.range (Sp.landK q + 1)).map fun c => if c = Sp.landK q then x else 0).getD (Sp.landK q) 0 = x := by
    rw [Sp.rowD (D := fun c => if c = Sp.landK q then x else 0) (by omega), if_pos rfl]
  simp only [e1, e2] at hvs
  obtain ⟨H, h1, h2⟩ := hc (fun d => g d - Sp.rise (Sp.splitL q f d0 a jb) ((List.range (Sp.landK q + 1)).map fun c => if c = Sp.landK q then x else 0) d) (fun d hd => by
      show g (Sp.oth d) - Sp.rise _ _ (Sp.oth d) = -(g d - Sp.rise _ _ d)
      rw [Sp.rise_oth, ha d hd]
      omega) (fun u => by
      have e : Sp.sumN (fun d => if q.tail.getD d 0 = u then g d - Sp.rise (Sp.splitL q f d0 a jb) ((List.range (Sp.landK q + 1)).map fun c => if c = Sp.landK q then x else 0) d else 0) q.tail.length = Sp.sumN (fun d => (if q.tail.getD d 0 = u then g d else 0) - (if q.tail.getD d 0 = u then Sp.rise (Sp.splitL q f d0 a jb) ((List.range (Sp.landK q + 1)).map fun c => if c = Sp.landK q then x else 0) d else 0)) q.tail.length :=
        Sp.sumN_congr _ fun d _ => by
          by_cases e : q.tail.getD d 0 = u
          · rw [if_pos e, if_pos e, if_pos e]
          · rw [if_neg e, if_neg e, if_neg e]; rfl
      show Sp.sumN (fun d => if q.tail.getD d 0 = u then g d - Sp.rise (Sp.splitL q f d0 a jb) ((List.range (Sp.landK q + 1)).map fun c => if c = Sp.landK q then x else 0) d else 0) q.tail.length = 0
      rw [e, Sp.sumN_sub, hvs u]
      by_cases es : s = u
      · subst es
        rw [hx, if_neg (fun k => hst k.symm), if_pos rfl]
        omega
      · by_cases et : t = u
        · subst et
          rw [hy, if_pos rfl, if_neg es]
          omega
        · rw [hv u (fun k => es k.symm) (fun k => et k.symm), if_neg et, if_neg es]
          rfl)
  have hFl : ∀ d, d < q.tail.length → 0 ≤ (Sp.faces2 q).1.getD d 0 := fun d hd => (hr.fb d hd).1
  have hH : ∀ y, y < q.tail.length → ∀ m, itf (Sp.fn (Sp.behindL q.next)) y m < q.tail.length ∧ H (itf (Sp.fn (Sp.behindL q.next)) y m) = H y := fun y hy m => by
    induction m with
    | zero => exact ⟨hy, rfl⟩
    | succ m ih =>
      refine ⟨hbm _ ih.1, ?_⟩
      show H (Sp.fn (Sp.behindL q.next) _) = _
      rw [h1 _ ih.1, ih.2]
  have hHf : ∀ i j, i < q.tail.length → j < q.tail.length → (Sp.faces2 q).1.getD i 0 = (Sp.faces2 q).1.getD j 0 → H i = H j := fun i j hi hj e => by
    obtain ⟨m, hm⟩ := h.cls.sep i j hi hj (by rw [e])
    rw [← hm, (hH i hi m).2]
  have hF2 : ∀ i j, i < q.tail.length → j < q.tail.length → (Sp.splitL q f d0 a jb).getD i 0 = (Sp.splitL q f d0 a jb).getD j 0 → (Sp.faces2 q).1.getD i 0 = (Sp.faces2 q).1.getD j 0 := fun i j hi hj e => by
    have l1 := hh.lt i hi
    have l2 := hh.lt j hj
    by_cases fi : (Sp.faces2 q).1.getD i 0 = (f : Int)
    · by_cases fj : (Sp.faces2 q).1.getD j 0 = (f : Int)
      · omega
      · have o2 := hh.out j hj fj
        rcases hh.inn i hi fi with o1 | o1 <;> omega
    · have o1 := hh.out i hi fi
      by_cases fj : (Sp.faces2 q).1.getD j 0 = (f : Int)
      · rcases hh.inn j hj fj with o2 | o2 <;> omega
      · have o2 := hh.out j hj fj
        omega
  have hex : ∀ c : Nat, ∃ y : Int, ∀ d, d < q.tail.length → (Sp.splitL q f d0 a jb).getD d 0 = (c : Int) → y = H d := fun c => by
    by_cases hh : ∃ d, d < q.tail.length ∧ (Sp.splitL q f d0 a jb).getD d 0 = (c : Int)
    · obtain ⟨d, hd, e⟩ := hh
      exact ⟨H d, fun d' hd' e' => hHf d d' hd hd' (hF2 d d' hd hd' (by rw [e, e']))⟩
    · exact ⟨0, fun d hd e => absurd ⟨d, hd, e⟩ hh⟩
  obtain ⟨P2, hP2⟩ := Classical.axiomOfChoice hex
  have hPd : ∀ d, d < q.tail.length → P2 ((Sp.splitL q f d0 a jb).getD d 0).toNat = H d := fun d hd => by
    have := hr.rng hs hd
    exact hP2 _ d hd (by omega)
  refine ⟨fun c => (if c = Sp.landK q then x else 0) + P2 c, ?_, fun d hd => ?_⟩
  · obtain ⟨i, hi, ei⟩ := hh.has1
    obtain ⟨j, hj, ej⟩ := hh.has2
    rw [hkk] at ej
    have p1 := hP2 f i hi ei
    have p2 := hP2 (Sp.landK q) j hj ej
    have l1 := hh.lt i hi
    have l2 := hh.lt j hj
    rw [hkk] at l1 l2
    have fi : (Sp.faces2 q).1.getD i 0 = (f : Int) := by
      by_cases fi : (Sp.faces2 q).1.getD i 0 = (f : Int)
      · exact fi
      · have := hh.out i hi fi; omega
    have fj : (Sp.faces2 q).1.getD j 0 = (f : Int) := by
      by_cases fj : (Sp.faces2 q).1.getD j 0 = (f : Int)
      · exact fj
      · have := hh.out j hj fj; omega
    have := hHf i j hi hj (by rw [fi, fj])
    show (if Sp.landK q = Sp.landK q then x else 0) + P2 (Sp.landK q) - ((if f = Sp.landK q then x else 0) + P2 f) = x
    rw [if_pos rfl, if_neg (by omega)]
    omega
  · have h3 : g d - Sp.rise (Sp.splitL q f d0 a jb) ((List.range (Sp.landK q + 1)).map fun c => if c = Sp.landK q then x else 0) d = H (Sp.oth d) - H d := h2 d hd
    have ho := oth_lt hd hev
    have r1 := hr.rng hs hd
    have r2 := hr.rng hs ho
    have h4 : Sp.rise (Sp.splitL q f d0 a jb) ((List.range (Sp.landK q + 1)).map fun c => if c = Sp.landK q then x else 0) d = (if ((Sp.splitL q f d0 a jb).getD (Sp.oth d) 0).toNat = Sp.landK q then x else 0) - (if ((Sp.splitL q f d0 a jb).getD d 0).toNat = Sp.landK q then x else 0) := by
      unfold Sp.rise
      rw [Sp.rowD (D := fun c => if c = Sp.landK q then x else 0) (by omega), Sp.rowD (D := fun c => if c = Sp.landK q then x else 0) (by omega)]
    show g d = (if ((Sp.splitL q f d0 a jb).getD (Sp.oth d) 0).toNat = Sp.landK q then x else 0) + P2 ((Sp.splitL q f d0 a jb).getD (Sp.oth d) 0).toNat - ((if ((Sp.splitL q f d0 a jb).getD d 0).toNat = Sp.landK q then x else 0) + P2 ((Sp.splitL q f d0 a jb).getD d 0).toNat)
    rw [hPd d hd, hPd _ ho]
    omega
/-- So no flow within what the darts hold has more value than b is high. -/
theorem Sp.DualQ.flow_ub {q : Sp.Net} (h : Sp.DualQ q) (hr : Sp.RimQ q) (hc : Sp.Cir q) {s t : Int} {f d0 a jb : Nat} (hs : Sp.SplitQ q s t f d0 a jb) (hst : s ≠ t) {D : Nat → Int} (hD : Sp.Short 1152921504606846976 (Sp.rimR (Sp.splitL q f d0 a jb) q.cap q.tail.length) f (Sp.landK q + 1) D) {g : Nat → Int} {x : Int} (ha : ∀ d, d < q.tail.length → g (Sp.oth d) = - g d)
    (hg : ∀ d, d < q.tail.length → g d ≤ q.cap.getD d 0)
    (hv : ∀ u, u ≠ s → u ≠ t → Sp.sumN (fun d => if q.tail.getD d 0 = u then g d else 0) q.tail.length = 0)
    (hx : Sp.sumN (fun d => if q.tail.getD d 0 = s then g d else 0) q.tail.length = x) (hy : Sp.sumN (fun d => if q.tail.getD d 0 = t then g d else 0) q.tail.length = -x) : x ≤ D (Sp.landK q) := by
  obtain ⟨P, h1, h2⟩ := h.flow_rise hr hc hs hst ha hv hx hy
  have h3 := Sp.rise_ub (P := P) hD (fun d hd => by rw [← h2 d hd]; exact hg d hd) (v := Sp.landK q) (by omega) (h.near hr hs hst hD _ (by omega))
  omega
end Go.Proofs.Ytoegjnolccabjaa


/- within of watershedlaw8. -/
namespace Go.Proofs.Ytoegjnolccabjaa
open Go Go.RowKit

set_option maxRecDepth 100000 in
set_option maxHeartbeats 1000000 in
theorem within8_any (a n : Int) (w : World) (hn : 0 < n) (hn1 : n ≤ 4611686018427387904) :
    Calls Try.prog 11 #[.int .i64 a, .int .i64 n] w fun e w' => e = .returned (.int .i64 (a % n)) ∧ w' = w := by
  have h0 : 0 ≤ a % n := Int.emod_nonneg a (by omega)
  have h1 : a % n < n := Int.emod_lt_of_pos a hn
  rcases tmod_cases a n hn with ⟨ha, hb⟩ | ⟨ha, hb⟩
  · have hc : -n ≤ a.tmod n := by omega
    have Hb := hide hb; clear hb h0 h1
    go_enter Try.func11, Try.ntmps11
    go_wp2
    go_ret
    exact ⟨ret_int (unhide Hb), rfl⟩
  · have Hb := hide hb; clear hb h0 h1
    go_enter Try.func11, Try.ntmps11
    go_wp2
    go_ret
    exact ⟨ret_int (unhide Hb), rfl⟩
theorem Sp.rimE_none {q : Sp.Net} {s t : Int} (hs : 0 ≤ s ∧ s < q.n) (ht : 0 ≤ t ∧ t < q.n) (h : Sp.rimE q s t ≠ 0) : (Sp.rimE q s t = 9 ∧ s = t) ∨ (Sp.rimE q s t = 10 ∧ s ≠ t ∧ (Sp.shared q s t).2 = false) := by
  unfold Sp.rimE at h ⊢
  rw [if_neg (fun k => k ⟨hs, ht⟩)] at h ⊢
  by_cases e : s = t
  · rw [if_pos e]; exact .inl ⟨rfl, e⟩
  · rw [if_neg e] at h ⊢
    cases hh : (Sp.shared q s t).2 with
    | true => rw [if_pos hh] at h; exact absurd rfl h
    | false => rw [if_neg (by decide)]; exact .inr ⟨rfl, e, rfl⟩
end Go.Proofs.Ytoegjnolccabjaa


/- rim's contracts, of both cases told at once. -/
namespace Go.Proofs.Ytoegjnolccabjaa
open Go Go.RowKit

/-- What is told of two vertices: an error, or heights P, rises L, b's height x. -/
def Sp.RimIs (q : Sp.Net) (s t : Int) (P L : List Int) (x : Int) : Prop :=
  (Sp.rimE q s t ≠ 0 ∧ P = [] ∧ L = [] ∧ x = 0) ∨ (Sp.rimE q s t = 0 ∧ (0 ≤ s ∧ s < q.n) ∧ (0 ≤ t ∧ t < q.n) ∧ s ≠ t ∧ Sp.endsE q s t = 0 ∧ ∃ f d0 a jb D, Sp.SplitQ q s t f d0 a jb ∧
    (Sp.Short 1152921504606846976 (Sp.rimR (Sp.splitL q f d0 a jb) q.cap q.tail.length) f (Sp.landK q + 1) D ∧ ∀ v, v < Sp.landK q + 1 → D v ≠ 1152921504606846976 → D v < 1152921504606846976) ∧
    P = (List.range (Sp.landK q + 1)).map D ∧ L = (List.range q.tail.length).map (Sp.rise (Sp.splitL q f d0 a jb) ((List.range (Sp.landK q + 1)).map D)) ∧ x = D (Sp.landK q))
theorem Sp.rimE_zero {q : Sp.Net} {s t : Int} {f d0 a jb : Nat} (hE : Sp.endsE q s t = 0) (hs : Sp.SplitQ q s t f d0 a jb) : Sp.rimE q s t = 0 := by
  obtain ⟨h1, h2, h3, -⟩ := Sp.ends_ok hE
  unfold Sp.rimE
  rw [if_neg (fun k => k ⟨h1, h2⟩), if_neg h3, if_pos (by rw [hs.sh])]
theorem rmflow_any (q : Sp.Net) (v tv nv cv : Value) (s t : Int) (w : World) (hv : NetI w v q tv nv cv) (hq : Sp.RimQ q) :
    Calls Try.prog 14 #[v, .int .i64 s, .int .i64 t] w fun e w' => ∃ lv P L x, e = .returned (.tuple #[lv, .int .i64 x, .int .i64 (Sp.rimE q s t)]) ∧ OwnI w' w.heap.size lv L ∧ Sp.RimIs q s t P L x ∧ Below w.heap.size w w' := by
  rcases Sp.rim_cases hq s t with he | he
  · refine (rmflow_err q v tv nv cv s t w hv hq he).mono ?_
    rintro e w' ⟨rfl, hb⟩
    exact ⟨_, [], [], 0, rfl, World.ownsRow_nil _ _ _ _, .inl ⟨he, rfl, rfl, rfl⟩, hb⟩
  · obtain ⟨h0, h1, hst, hE, f, d0, a, jb, hs⟩ := he
    have hz : Sp.rimE q s t = 0 := Sp.rimE_zero hE hs
    refine (rmflow_yes q v tv nv cv s t w hv hq f d0 a jb h0 h1 hst hs).mono ?_
    rintro e w' ⟨lv, D, rfl, hO, hb, hD⟩
    rw [hz]
    exact ⟨_, _, _, _, rfl, hO, .inr ⟨hz, h0, h1, hst, hE, f, d0, a, jb, D, hs, hD, rfl, rfl, rfl⟩, hb⟩
end Go.Proofs.Ytoegjnolccabjaa


/- A flow (W4); what rim tells is one. -/
namespace Go.Proofs.Ytoegjnolccabjaa
open Go Go.RowKit

/-- What runs from s to t: x comes out of s, x comes to t, elsewhere nothing is left; no dart has more than it holds. -/
structure Sp.FlowQ (q : Sp.Net) (s t : Int) (L : List Int) (x : Int) : Prop where
  len : L.length = q.tail.length
  op : ∀ d, d < q.tail.length → L.getD (Sp.oth d) 0 = - L.getD d 0
  le : ∀ d, d < q.tail.length → L.getD d 0 ≤ q.cap.getD d 0
  src : Sp.sumN (fun d => if q.tail.getD d 0 = s then L.getD d 0 else 0) q.tail.length = x
  snk : Sp.sumN (fun d => if q.tail.getD d 0 = t then L.getD d 0 else 0) q.tail.length = -x
  mid : ∀ u, u ≠ s → u ≠ t → Sp.sumN (fun d => if q.tail.getD d 0 = u then L.getD d 0 else 0) q.tail.length = 0
theorem Sp.dualQ_pos (ns : List Int) : 0 < (Sp.plane ns).tail.length → Sp.DualQ (Sp.plane ns) := fun h => by
  rcases Sp.dualQ_plane ns with e | e
  · rw [e] at h; exact absurd h (Nat.not_lt_zero _)
  · exact e
theorem Sp.RimIs.flow {q : Sp.Net} (hd : 0 < q.tail.length → Sp.DualQ q) (hq : Sp.RimQ q) {s t : Int} {P L : List Int} {x : Int} (h : Sp.RimIs q s t P L x) (h0 : Sp.rimE q s t = 0) :
    Sp.FlowQ q s t L x ∧ 0 ≤ x ∧ x < 1152921504606846976 := by
  rcases h with ⟨he, -⟩ | ⟨-, h0, h1, hst, hE, f, d0, a, jb, D, hs, hD, rfl, rfl, rfl⟩
  · exact absurd h0 he
  · have hq2 := hd (by have := hs.d0l; omega)
    have hkk : max (Sp.faces2 q).2 1 = Sp.landK q := rfl
    have hfK : f < Sp.landK q := by rw [← hkk]; exact (hq2.halves hs).fK
    have hL : ∀ d, d < q.tail.length → ((List.range q.tail.length).map (Sp.rise (Sp.splitL q f d0 a jb) ((List.range (Sp.landK q + 1)).map D))).getD d 0 = Sp.rise (Sp.splitL q f d0 a jb) ((List.range (Sp.landK q + 1)).map D) d := fun d h => Sp.rowD (D := Sp.rise (Sp.splitL q f d0 a jb) ((List.range (Sp.landK q + 1)).map D)) h
    have hS : ∀ u, Sp.sumN (fun d => if q.tail.getD d 0 = u then ((List.range q.tail.length).map (Sp.rise (Sp.splitL q f d0 a jb) ((List.range (Sp.landK q + 1)).map D))).getD d 0 else 0) q.tail.length = Sp.sumN (fun d => if q.tail.getD d 0 = u then Sp.rise (Sp.splitL q f d0 a jb) ((List.range (Sp.landK q + 1)).map D) d else 0) q.tail.length := fun u => Sp.sumN_congr _ fun d hdl => by rw [hL d hdl]
    have hV := hq2.value hs hst hfK (D := D) hD.1.src
    have hN := hq2.near hq hs hst hD.1
    refine ⟨⟨by rw [List.length_map, List.length_range], fun d hdl => ?_, fun d hdl => ?_, ?_, ?_, fun u us ut => ?_⟩, Sp.short_nn hD.1 (hq.posR _ _) (by omega), hD.2 _ (by omega) (hN _ (by omega))⟩
    · rw [hL d hdl, hL _ (oth_lt hdl hq.link.ev), Sp.rise_oth]
    · rw [hL d hdl]
      exact hq.rise_le hs hD.1 hD.2 hdl
    · rw [hS, hV.1]
    · rw [hS, hV.2]
    · rw [hS, hq2.vsum hs _ u, if_neg (fun e => ut e.symm), if_neg (fun e => us e.symm)]
      rfl
/-- No dart has less than its other's hold, below 0. -/
theorem Sp.FlowQ.ge {q : Sp.Net} {s t : Int} {L : List Int} {x : Int} (h : Sp.FlowQ q s t L x) (hev : q.tail.length % 2 = 0) {d : Nat} (hd : d < q.tail.length) : - q.cap.getD (Sp.oth d) 0 ≤ L.getD d 0 := by
  have h1 := h.le _ (oth_lt hd hev)
  rw [h.op d hd] at h1
  omega
end Go.Proofs.Ytoegjnolccabjaa


/- What rim tells is the greatest; along an edge runs what it holds. -/
namespace Go.Proofs.Ytoegjnolccabjaa
open Go Go.RowKit

theorem Sp.RimIs.most {q : Sp.Net} (hd : 0 < q.tail.length → Sp.DualQ q) (hq : Sp.RimQ q) (hc : Sp.Cir q) {s t : Int} {P L : List Int} {x : Int} (h : Sp.RimIs q s t P L x) (h0 : Sp.rimE q s t = 0) {L' : List Int} {x' : Int} (hF : Sp.FlowQ q s t L' x') : x' ≤ x := by
  rcases h with ⟨he, -⟩ | ⟨-, h0, h1, hst, hE, f, d0, a, jb, D, hs, hD, rfl, rfl, rfl⟩
  · exact absurd h0 he
  · exact (hd (by have := hs.d0l; omega)).flow_ub hq hc hs hst hD.1 (g := fun d => L'.getD d 0) hF.op hF.le hF.mid hF.src hF.snk
/-- What runs along one edge alone. -/
def Sp.edgeL (m x : Nat) (c : Int) : List Int := (List.range m).map fun d => if d = x then c else if d = Sp.oth x then -c else 0
theorem Sp.oth_ne (x : Nat) : Sp.oth x ≠ x := by
  unfold Sp.oth
  split <;> omega
theorem Sp.FlowQ.edge {q : Sp.Net} (hev : q.tail.length % 2 = 0) (hcb : ∀ d, d < q.tail.length → 0 ≤ q.cap.getD d 0) {x : Nat} (hx : x < q.tail.length) (hn : q.tail.getD x 0 ≠ q.tail.getD (Sp.oth x) 0) :
    Sp.FlowQ q (q.tail.getD x 0) (q.tail.getD (Sp.oth x) 0) (Sp.edgeL q.tail.length x (q.cap.getD x 0)) (q.cap.getD x 0) := by
  have ho := oth_lt hx hev
  have hne := Sp.oth_ne x
  have hL : ∀ d, d < q.tail.length → (Sp.edgeL q.tail.length x (q.cap.getD x 0)).getD d 0 = if d = x then q.cap.getD x 0 else if d = Sp.oth x then -q.cap.getD x 0 else 0 := fun d hd => Sp.rowD (D := fun d => if d = x then q.cap.getD x 0 else if d = Sp.oth x then -q.cap.getD x 0 else 0) hd
  have hS : ∀ u, Sp.sumN (fun d => if q.tail.getD d 0 = u then (Sp.edgeL q.tail.length x (q.cap.getD x 0)).getD d 0 else 0) q.tail.length = (if q.tail.getD x 0 = u then q.cap.getD x 0 else 0) + (if q.tail.getD (Sp.oth x) 0 = u then -q.cap.getD x 0 else 0) := fun u => by
    have e : Sp.sumN (fun d => if q.tail.getD d 0 = u then (Sp.edgeL q.tail.length x (q.cap.getD x 0)).getD d 0 else 0) q.tail.length = Sp.sumN (fun d => (if d = x then (if q.tail.getD x 0 = u then q.cap.getD x 0 else 0) else 0) + (if d = Sp.oth x then (if q.tail.getD (Sp.oth x) 0 = u then -q.cap.getD x 0 else 0) else 0)) q.tail.length :=
      Sp.sumN_congr _ fun d hd => by
        rw [hL d hd]
        by_cases e1 : d = x
        · subst e1
          rw [if_pos rfl, if_pos rfl, if_neg (show ¬ d = Sp.oth d from fun k => hne k.symm)]
          omega
        · by_cases e2 : d = Sp.oth x
          · subst e2
            rw [if_neg (show ¬ Sp.oth x = x from hne), if_pos rfl, if_neg (show ¬ Sp.oth x = x from hne), if_pos rfl]
            omega
          · rw [if_neg e1, if_neg e2, if_neg e1, if_neg e2, ite_self]
            omega
    rw [e, Sp.sumN_add, Sp.sumN_one, Sp.sumN_one, if_pos hx, if_pos ho]
  refine ⟨by unfold Sp.edgeL; rw [List.length_map, List.length_range], fun d hd => ?_, fun d hd => ?_, ?_, ?_, fun u us ut => ?_⟩
  · rw [hL d hd, hL _ (oth_lt hd hev)]
    by_cases e1 : d = x
    · subst e1
      rw [if_neg hne, if_pos rfl, if_pos rfl]
    · by_cases e2 : d = Sp.oth x
      · subst e2
        rw [oth_oth, if_pos rfl, if_neg hne, if_pos rfl]
        omega
      · have e3 : Sp.oth d ≠ x := fun k => e2 (by rw [← k, oth_oth])
        have e4 : Sp.oth d ≠ Sp.oth x := fun k => e1 (oth_inj k)
        rw [if_neg e3, if_neg e4, if_neg e1, if_neg e2]
        rfl
  · rw [hL d hd]
    have h1 := hcb d hd
    have h2 := hcb x hx
    by_cases e1 : d = x
    · subst e1; rw [if_pos rfl]; omega
    · rw [if_neg e1]
      split <;> omega
  · rw [hS, if_pos rfl, if_neg (fun k => hn k.symm)]
    omega
  · rw [hS, if_neg hn, if_pos rfl]
    omega
  · rw [hS, if_neg (fun k => us k.symm), if_neg (fun k => ut k.symm)]
    rfl
/-- The cells of a row. -/
theorem Ints.at_ {w : World} {a : Option Addr} {n c : Nat} {l : List Int} (h : Ints w (.slice a n c) l) : ∀ k, k < l.length → ∃ b o, a = some ⟨b, o, none⟩ ∧ b < w.heap.size ∧ ∀ w', Below w.heap.size w w' → w'.cell? ⟨b, o + k, none⟩ = some (.int .i64 (l.getD k 0)) := fun k hk => by
  obtain ⟨a', c', e, -, -, hA⟩ := h.allA
  injection e with e1 e2 e3
  subst e1
  exact unhide hA k hk
theorem Ints.at2 {w : World} {a : Option Addr} {n c : Nat} {l : List Int} (h : Ints w (.slice a n c) l) {j k : Nat} (hj : j < l.length) (hk : k < l.length) : ∃ b o, a = some ⟨b, o, none⟩ ∧ b < w.heap.size ∧ ∀ w', Below w.heap.size w w' → w'.cell? ⟨b, o + j, none⟩ = some (.int .i64 (l.getD j 0)) ∧ w'.cell? ⟨b, o + k, none⟩ = some (.int .i64 (l.getD k 0)) := by
  obtain ⟨b, o, e1, e2, e3⟩ := h.at_ j hj
  obtain ⟨b', o', f1, f2, f3⟩ := h.at_ k hk
  rw [e1] at f1
  injection f1 with f1
  injection f1 with f4 f5
  subst f4 f5
  exact ⟨b, o, e1, e2, fun w' hb => ⟨e3 w' hb, f3 w' hb⟩⟩
end Go.Proofs.Ytoegjnolccabjaa


/- The law DualFirst, walked. -/
namespace Go.Proofs.Ytoegjnolccabjaa
open Go Go.RowKit

/-- Was a dart of the face that begins at the vertex met among the first ones? -/
def Sp.mt (T F : List Int) (f : Nat) (v : Int) : Nat → Bool
  | 0 => false
  | j + 1 => Sp.mt T F f v j || (F.getD j 0 == (f : Int) && T.getD j 0 == v)
theorem Sp.sharedGo_some {T F : List Int} {s t : Int} : ∀ g f (c : Nat), f ≤ c → c < f + g → Sp.meets T F c s → Sp.meets T F c t → (Sp.sharedGo T F s t g f).2 = true
  | 0, f, c, h1, h2, _, _ => by omega
  | g + 1, f, c, h1, h2, h3, h4 => by
    rw [Sp.sharedGo]
    split
    · rfl
    · rename_i h
      refine Sp.sharedGo_some g (f + 1) c ?_ (by omega) h3 h4
      rcases Nat.lt_or_ge f c with h5 | h5
      · omega
      · obtain rfl : f = c := by omega
        exact absurd ⟨Sp.meetsB_true h3, Sp.meetsB_true h4⟩ h
/-- The ends of an edge share a face. -/
theorem Sp.DualQ.edge {q : Sp.Net} (h : Sp.DualQ q) {x : Nat} (hx : x < q.tail.length) : (Sp.shared q (q.tail.getD x 0) (q.tail.getD (Sp.oth x) 0)).2 = (q.tail.getD x 0 != q.tail.getD (Sp.oth x) 0) := by
  unfold Sp.shared
  by_cases e : q.tail.getD x 0 = q.tail.getD (Sp.oth x) 0
  · rw [if_pos e, e]; simp
  · rw [if_neg e]
    have e2 : (q.tail.getD x 0 != q.tail.getD (Sp.oth x) 0) = true := by simpa using e
    rw [e2]
    have ho := oth_lt hx h.link.ev
    have hb := h.fb hx
    have hn := h.mpN _ ho
    have hk := h.k1
    have e3 : ((((Sp.faces2 q).1.getD x 0).toNat : Nat) : Int) = (Sp.faces2 q).1.getD x 0 := by omega
    refine Sp.sharedGo_some _ 0 ((Sp.faces2 q).1.getD x 0).toNat (by omega) (by omega) ⟨x, hx, rfl, e3.symm⟩ ⟨Sp.fn q.next (Sp.oth x), hn, ?_, ?_⟩
    · have hv := h.pl.vert.inv _ ho
      have b1 := h.tb _ (Sp.getD_mem (l := q.tail) hn)
      have b2 := h.tb _ (Sp.getD_mem (l := q.tail) ho)
      omega
    · rw [e3, h.turn ho, oth_oth]
end Go.Proofs.Ytoegjnolccabjaa


/- The law RimEdges, walked. -/
namespace Go.Proofs.Ytoegjnolccabjaa
open Go Go.RowKit

theorem Sp.rimE_of {q : Sp.Net} (_hq : Sp.RimQ q) {s t : Int} (hs : 0 ≤ s ∧ s < q.n) (ht : 0 ≤ t ∧ t < q.n) : (s = t → Sp.rimE q s t = 9) ∧ (s ≠ t → (Sp.shared q s t).2 = true → Sp.rimE q s t = 0) := by
  unfold Sp.rimE
  rw [if_neg (fun k => k ⟨hs, ht⟩)]
  exact ⟨fun e => by rw [if_pos e], fun e h => by rw [if_neg e, if_pos h]⟩
theorem Sp.RimIs.none {q : Sp.Net} {s t : Int} {P L : List Int} {x : Int} (h : Sp.RimIs q s t P L x) (h0 : Sp.rimE q s t ≠ 0) : P = [] ∧ L = [] ∧ x = 0 := by
  rcases h with ⟨-, h1, h2, h3⟩ | ⟨h1, -⟩
  · exact ⟨h1, h2, h3⟩
  · exact absurd h1 h0
set_option maxRecDepth 100000 in
set_option maxHeartbeats 4000000 in
theorem rimEdges_any (ns : List Int) (x : Value) (d : Int) (w : World) (hx : Ints w x ns) :
    Calls Try.prog 8 #[x, .int .i64 d] w fun e w' => e = .returned (.bool true) ∧ Below w.heap.size w w' := by
  obtain ⟨a, c, rfl, hc, hm⟩ := hx.form
  have HPL := hide (fun w' (hb : Below w.heap.size w w') => plane_any ns (.slice a ns.length c) w' (hx.below hb))
  have HOK := hide (Sp.plane_ok ns)
  have HLQ := hide (Sp.linkQ_plane ns)
  have HCk := hide (Sp.check_plane ns)
  have HRQ := hide (Sp.rimQ_plane ns)
  have HDQ := hide (Sp.dualQ_pos ns)
  have HCi := hide (Sp.plane_cir ns)
  generalize Sp.plane ns = q at *
  generalize ns.length = n at *
  clear hx
  obtain ⟨P, hP⟩ : ∃ P : Ending → World → Prop, P = fun e w' => e = .returned (.bool true) ∧ Below w.heap.size w w' := ⟨_, rfl⟩
  rw [← hP]
  have HP := hide hP
  clear hP
  go_enter Try.func8, Try.ntmps8
  go_wp2_with fail
  go_at_call 9
  refine (known8_any w).mono ?_
  rintro e w2 ⟨rfl, hb2⟩
  have Hb2 := hide hb2
  clear hb2
  go_wp2_with fail
  go_at_call 10
  refine (unhide HPL _ (unhide Hb2)).mono ?_
  clear HPL
  rintro e w3 ⟨v, tv, nv, cv, rfl, hnv, hb3⟩
  have hval := hnv.val
  subst hval
  obtain ⟨ta, tc, rfl, htc, htm, HT⟩ := hnv.netI.tail.allD
  obtain ⟨na, nc, rfl, -, -⟩ := hnv.netI.next.form
  obtain ⟨ca, cc, rfl, -, -⟩ := hnv.netI.cap.form
  obtain ⟨W4, hW4⟩ : ∃ W4, W4 = w3.alloc (.cells #[.int .i64 q.n, .slice ta q.tail.length tc, .slice na q.next.length nc, .slice ca q.cap.length cc] 25) := ⟨_, rfl⟩
  obtain ⟨hBX, hs4, hTR⟩ := boxed ((unhide Hb2).trans (hb3.mono (unhide Hb2).size)) hnv.netI W4 hW4
  have HBX := hide hBX
  have HTR := hide hTR
  have Hs4 := hide hs4
  have HW4 := hide hW4
  clear hnv hb3 Hb2 hBX hTR hs4 hW4
  have hb4 : Below (w3.heap.size + 1) W4 W4 := Below.refl _ _
  have HWK := hide ((unhide HOK).walk (by omega))
  have hn0 : 1 ≤ q.n := (unhide HOK).n0
  have hn1 : q.n ≤ 100 := by have := (unhide HOK).n1; omega
  obtain ⟨x0, x1, x2, x3⟩ := (unhide HBX W4 hb4).1
  have hm48 : q.tail.length ≤ 48 := (unhide HRQ).le
  by_cases h0 : q.tail.length = 0
  · have HF := hide (unhide HBX _ hb4).2.2.1
    have e0 : (((q.tail.length : Nat) : Int) == 0) = true := by rw [h0]; rfl
    clear HBX HTR HT h0
    go_upto_region 4 with fail
    rw [← unhide HW4]
    go_wp2
    rw [unhide HP]
    exact ⟨by rfl, unhide HF⟩
  · have hmI : (0 : Int) < (q.tail.length : Int) := by omega
    have e0 : (((q.tail.length : Nat) : Int) == 0) = false := beq_eq_false_iff_ne.2 (by omega)
    have hDQ := unhide HDQ (by omega)
    have hcl : q.cap.length = q.tail.length := (unhide HOK).cp
    obtain ⟨k, hk⟩ : ∃ k : Nat, d % (q.tail.length : Int) = (k : Int) := ⟨(d % (q.tail.length : Int)).toNat, by have := Int.emod_nonneg d (show (q.tail.length : Int) ≠ 0 by omega); omega⟩
    have hkm : k < q.tail.length := by have := Int.emod_lt_of_pos d hmI; omega
    have hev := hDQ.link.ev
    have hom : Sp.oth k < q.tail.length := oth_lt hkm hev
    have HWi := hide (fun w' => within8_any d (q.tail.length : Int) w' (by omega) (by omega))
    rw [hk] at HWi
    have HED := hide (hDQ.edge (x := k) hkm)
    have hkI : (k : Int) < (q.tail.length : Int) := by omega
    have hkC : (k : Int) < (q.cap.length : Int) := by omega
    have hoI : ((Sp.oth k : Nat) : Int) < (q.tail.length : Int) := by omega
    have hX : bits .xor .i64 (k : Int) 1 = ((Sp.oth k : Nat) : Int) := xor_oth ⟨k, by omega⟩
    obtain ⟨bt, ot, rfl, -, hTc⟩ := (unhide HBX W4 hb4).2.1.tail.at2 (j := k) (k := Sp.oth k) hkm hom
    obtain ⟨bc, oc, rfl, -, hCc⟩ := (unhide HBX W4 hb4).2.1.cap.at_ k (by omega)
    have HTc := hide hTc
    have HCc := hide hCc
    have hbt : ∀ j, j < q.tail.length → 0 ≤ q.tail.getD j 0 ∧ q.tail.getD j 0 < q.n := fun j hj => hDQ.tb _ (Sp.getD_mem hj)
    have HE := hide (Sp.rimE_of (unhide HRQ) (hbt k hkm) (hbt _ hom))
    have HFw : Hid (q.tail.getD k 0 ≠ q.tail.getD (Sp.oth k) 0 → Sp.FlowQ q (q.tail.getD k 0) (q.tail.getD (Sp.oth k) 0) (Sp.edgeL q.tail.length k (q.cap.getD k 0)) (q.cap.getD k 0)) := hide fun h => Sp.FlowQ.edge hev (fun j hj => ((unhide HRQ).cb _ (Sp.getD_mem (by omega))).1) hkm h
    have HD := hide (fun a b w' (hb : Below (w3.heap.size + 1) W4 w') => rmflow_any q _ _ _ _ a b w' (unhide HBX w' hb).2.1 (unhide HRQ))
    have HT4 : Hid (∀ w', Below (w3.heap.size + 1) W4 w' → Below W4.heap.size W4 w') := hide fun w' hb => by rw [unhide Hs4]; exact hb
    clear hk hbt HT htm htc hDQ hTc hCc hcl h0
    go_upto_region 4 with fail
    rw [← unhide HW4]
    go_wp2_with fail
    go_at_call 11
    refine (unhide HWi _).mono ?_
    rintro e w5 ⟨rfl, h5⟩
    have h5' := h5.symm
    subst h5'
    clear h5
    obtain ⟨c1, c2⟩ := unhide HTc W4 (unhide HT4 _ hb4)
    clear HTc
    obtain ⟨T1, hT1⟩ : ∃ T1, q.tail.getD k 0 = T1 := ⟨_, rfl⟩
    obtain ⟨T2, hT2⟩ : ∃ T2, q.tail.getD (Sp.oth k) 0 = T2 := ⟨_, rfl⟩
    rw [hT1, hT2] at HE HFw HED
    rw [hT1] at c1
    rw [hT2] at c2
    clear hT1 hT2
    go_upto_region 7 with fail
    go_quiet (fail)
    have hb5 : Below (w3.heap.size + 1) W4 (W4.drewN nq) := below_dn hb4 nq
    clear x0 x1 x2 x3 c1 c2 hb4
    generalize W4.drewN nq = w5 at *
    obtain ⟨x0, x1, x2, x3⟩ := (unhide HBX _ hb5).1
    go_wp2_with fail
    go_at_call 14
    refine (unhide HD T1 T2 _ hb5).mono ?_
    rintro e w6 ⟨lv, P1, L1, x9, rfl, hO, hR, hl⟩
    have hb6 := unhide HTR _ _ hb5 hl
    clear x0 x1 x2 x3 hl hb5
    obtain ⟨x0, x1, x2, x3⟩ := (unhide HBX _ hb6).1
    have c3 := unhide HCc w6 (unhide HT4 _ hb6)
    have HF := hide (unhide HBX _ hb6).2.2.1
    obtain ⟨la, lc, hlv, -, -⟩ := (OwnI.ints hO).form
    subst hlv
    by_cases hab : T1 = T2
    · have hE := (unhide HE).1 hab
      obtain ⟨-, hL, -⟩ := hR.none (by rw [hE]; decide)
      rw [hE, hL]
      subst hab
      clear HD HFw HED HE hR hO HDQ HCi HRQ
      go_wp2
      rw [unhide HP]
      exact ⟨by rfl, unhide HF⟩
    · have e1 : (T1 == T2) = false := beq_eq_false_iff_ne.2 hab
      have hE := (unhide HE).2 hab (by rw [unhide HED]; simpa using hab)
      have hfl := hR.flow (unhide HDQ) (unhide HRQ) hE
      have hmo := hR.most (unhide HDQ) (unhide HRQ) (unhide HCi) hE (unhide HFw hab)
      have hLl := hfl.1.len
      rw [hE, hLl]
      generalize q.cap.getD k 0 = cz at *
      have e2 : decide (x9 ≥ cz) = true := decide_eq_true hmo
      clear HD HFw HED HE hR hO HDQ HCi HRQ hfl
      go_wp2
      rw [unhide HP]
      exact ⟨by rfl, unhide HF⟩
end Go.Proofs.Ytoegjnolccabjaa


/- Known arcs: their ways. -/
namespace Go.Proofs.Ytoegjnolccabjaa
open Go Go.RowKit

/-- A step of the way: the first arc that may go on. -/
theorem Sp.WayIs.step {L : List Sp.Arc} {y : Nat → Int} {t v : Nat} {W : List Nat} (h : Sp.WayIs L y t v W) (hv : v ≠ t) {i : Nat} (hi : Sp.tt L y v i = true) (hk : ∀ k, k < i → Sp.tt L y v k = false) : ∃ r, W = i :: r ∧ Sp.WayIs L y t (L.getD i Sp.arc0).t r := by
  cases W with
  | nil => exact absurd h hv
  | cons j r =>
    obtain ⟨-, h2, h3, h4, h5⟩ := h
    have e : j = i := by
      rcases Nat.lt_trichotomy j i with e | e | e
      · rw [hk j e] at h3; cases h3
      · exact e
      · rw [h4 i e] at hi; cases hi
    subst e
    exact ⟨r, rfl, h5⟩
def Sp.L0 : List Sp.Arc := [⟨0, 1, 5⟩, ⟨1, 2, 2⟩, ⟨0, 2, 9⟩]
end Go.Proofs.Ytoegjnolccabjaa


/- By which arc each place was shortened last, pass by pass (P601: Any's round). -/
namespace Go.Proofs.Ytoegjnolccabjaa
open Go Go.RowKit

/-- The arc that a place's number names. -/
def Sp.byA (L : List Sp.Arc) (Y : Nat → Int) (v : Nat) : Option Sp.Arc := if Y v = -1 then none else some (L.getD (Y v).toNat Sp.arc0)
/-- While pass K is made, i arcs of it tried. -/
structure Sp.Pas (L : List Sp.Arc) (n K i : Nat) (D Y : Nat → Int) (tm pn : Nat → Nat) (clock : Nat) : Prop where
  tr : Sp.Tr 1152921504606846976 L n D (Sp.byA L Y) tm pn clock
  le : ∀ v, pn v ≤ K
  num : ∀ v, v < n → Y v = -1 ∨ ∃ m : Nat, Y v = (m : Int) ∧ m < L.length
  old : ∀ m, m < L.length → pn (L.getD m Sp.arc0).f + 1 < K → D (L.getD m Sp.arc0).f ≠ 1152921504606846976 → D (L.getD m Sp.arc0).t ≤ D (L.getD m Sp.arc0).f + (L.getD m Sp.arc0).l
  new_ : ∀ m, m < i → m < L.length → pn (L.getD m Sp.arc0).f < K → D (L.getD m Sp.arc0).f ≠ 1152921504606846976 → D (L.getD m Sp.arc0).t ≤ D (L.getD m Sp.arc0).f + (L.getD m Sp.arc0).l
theorem Sp.Pas.start (L : List Sp.Arc) (n s : Nat) : Sp.Pas L n 0 0 (Sp.pk L s 0) (fun _ => -1) (fun _ => 0) (fun _ => 0) 1 :=
  ⟨⟨fun v a _ h => by unfold Sp.byA at h; simp at h, fun v => by omega, fun v _ h => by omega⟩, fun _ => Nat.le_refl _, fun _ _ => .inl rfl, fun m _ h => by omega, fun m h => by omega⟩
/-- The next pass. -/
theorem Sp.Pas.next {L : List Sp.Arc} {n K : Nat} {D Y : Nat → Int} {tm pn : Nat → Nat} {clock : Nat} (h : Sp.Pas L n K L.length D Y tm pn clock) : Sp.Pas L n (K + 1) 0 D Y tm pn clock :=
  ⟨h.tr, fun v => by have := h.le v; omega, h.num, fun m hm hp hne => h.new_ m hm hm (by omega) hne, fun m hm => by omega⟩
/-- An arc that changes nothing. -/
theorem Sp.Pas.no {L : List Sp.Arc} {n K i : Nat} {D Y : Nat → Int} {tm pn : Nat → Nat} {clock : Nat} (h : Sp.Pas L n K i D Y tm pn clock) (hno : ¬ (D (L.getD i Sp.arc0).f ≠ 1152921504606846976 ∧ D (L.getD i Sp.arc0).f + (L.getD i Sp.arc0).l < D (L.getD i Sp.arc0).t)) : Sp.Pas L n K (i + 1) D Y tm pn clock :=
  ⟨h.tr, h.le, h.num, h.old, fun m hm hml hp hne => by
    by_cases e : m = i
    · subst e
      exact Int.not_lt.1 (fun hh => hno ⟨hne, hh⟩)
    · exact h.new_ m (by omega) hml hp hne⟩
/-- An arc that shortens a way. -/
theorem Sp.Pas.yes {L : List Sp.Arc} {n K i : Nat} {D Y : Nat → Int} {tm pn : Nat → Nat} {clock : Nat} (h : Sp.Pas L n K i D Y tm pn clock) (hi : i < L.length) (hg : D (L.getD i Sp.arc0).f ≠ 1152921504606846976) (hlt : D (L.getD i Sp.arc0).f + (L.getD i Sp.arc0).l < D (L.getD i Sp.arc0).t) (hx : D (L.getD i Sp.arc0).f + (L.getD i Sp.arc0).l ≠ 1152921504606846976) :
    Sp.Pas L n K (i + 1) (Sp.upd D (L.getD i Sp.arc0).t (D (L.getD i Sp.arc0).f + (L.getD i Sp.arc0).l)) (Sp.upd Y (L.getD i Sp.arc0).t (i : Int)) (fun v => if v = (L.getD i Sp.arc0).t then clock else tm v) (fun v => if v = (L.getD i Sp.arc0).t then K else pn v) (clock + 1) := by
  have hk : K ≤ pn (L.getD i Sp.arc0).f + 1 := by
    rcases Nat.lt_or_ge (pn (L.getD i Sp.arc0).f + 1) K with e | e
    · have := h.old i hi e hg; omega
    · exact e
  have hput := h.tr.put (Sp.arc_mem hi) hg hlt hx hk (h.le _)
  have eB : (fun v => if v = (L.getD i Sp.arc0).t then some (L.getD i Sp.arc0) else Sp.byA L Y v) = Sp.byA L (Sp.upd Y (L.getD i Sp.arc0).t (i : Int)) := funext fun v => by
    unfold Sp.byA Sp.upd
    by_cases e : v = (L.getD i Sp.arc0).t
    · rw [if_pos e, if_pos e, if_neg (by omega), Int.toNat_natCast]
    · rw [if_neg e, if_neg e]
  rw [eB] at hput
  refine ⟨hput, fun v => ?_, fun v hv => ?_, fun m hm hp hne => ?_, fun m hm hml hp hne => ?_⟩
  · show (if v = _ then K else pn v) ≤ K
    split
    · exact Nat.le_refl _
    · exact h.le v
  · unfold Sp.upd
    by_cases e : v = (L.getD i Sp.arc0).t
    · rw [if_pos e]; exact .inr ⟨i, rfl, hi⟩
    · rw [if_neg e]; exact h.num v hv
  · have hp' : (if (L.getD m Sp.arc0).f = (L.getD i Sp.arc0).t then K else pn (L.getD m Sp.arc0).f) + 1 < K := hp
    by_cases e : (L.getD m Sp.arc0).f = (L.getD i Sp.arc0).t
    · rw [if_pos e] at hp'; omega
    · rw [if_neg e] at hp'
      rw [Sp.upd_other _ _ e] at hne ⊢
      have h1 := h.old m hm hp' hne
      unfold Sp.upd
      split
      · rename_i e2; rw [e2] at h1; omega
      · exact h1
  · have hp' : (if (L.getD m Sp.arc0).f = (L.getD i Sp.arc0).t then K else pn (L.getD m Sp.arc0).f) < K := hp
    by_cases e : (L.getD m Sp.arc0).f = (L.getD i Sp.arc0).t
    · rw [if_pos e] at hp'; omega
    · rw [if_neg e] at hp'
      rw [Sp.upd_other _ _ e] at hne ⊢
      by_cases em : m = i
      · subst em
        rw [Sp.upd_same]; exact Int.le_refl _
      · have h1 := h.new_ m (by omega) hml hp' hne
        unfold Sp.upd
        split
        · rename_i e2; rw [e2] at h1; omega
        · exact h1
/-- Along a whole pass: what was shortened last was so in this pass. -/
theorem Sp.Pas.pass {L : List Sp.Arc} {n K : Nat} {D Y : Nat → Int} (hb : ∀ i, i < L.length → ∀ v, v < n → (Sp.pq L D Y i).1 v = 1152921504606846976 ∨ (Sp.pq L D Y i).1 v < 1000000000000000000) (hL : ∀ a ∈ L, a.f < n ∧ a.t < n ∧ a.l ≤ 1099511627776) :
    ∀ i, i ≤ L.length → (∃ tm pn clock, Sp.Pas L n K 0 D Y tm pn clock) → ∃ tm pn clock, Sp.Pas L n K i (Sp.pq L D Y i).1 (Sp.pq L D Y i).2.1 tm pn clock ∧ ((Sp.pq L D Y i).2.2 = -1 ∨ ∃ x : Nat, (Sp.pq L D Y i).2.2 = (x : Int) ∧ x < n ∧ pn x = K)
  | 0, _, ⟨tm, pn, clock, h⟩ => ⟨tm, pn, clock, h, .inl rfl⟩
  | i + 1, hi, h0 => by
    obtain ⟨tm, pn, clock, h, hs⟩ := Sp.Pas.pass hb hL i (by omega) h0
    obtain ⟨g1, g2, g3⟩ := hL _ (Sp.arc_mem (show i < L.length by omega))
    have hbf := hb i (by omega) _ g1
    rw [Sp.pq]
    by_cases hc : (Sp.pq L D Y i).1 (L.getD i Sp.arc0).f ≠ 1152921504606846976 ∧ (Sp.pq L D Y i).1 (L.getD i Sp.arc0).f + (L.getD i Sp.arc0).l < (Sp.pq L D Y i).1 (L.getD i Sp.arc0).t
    · rw [if_pos hc]
      have hx := hbf.resolve_left hc.1
      exact ⟨_, _, _, h.yes (by omega) hc.1 hc.2 (by omega), .inr ⟨_, rfl, g2, by show (if _ = _ then K else _) = K; rw [if_pos rfl]⟩⟩
    · rw [if_neg hc]
      exact ⟨tm, pn, clock, h.no hc, hs⟩
end Go.Proofs.Ytoegjnolccabjaa


/- Back along the arcs that shortened last: n steps back stands a place of a round, below 0 (P601: Any's round). -/
namespace Go.Proofs.Ytoegjnolccabjaa
open Go Go.RowKit

def Sp.bk (L : List Sp.Arc) (Y : Nat → Int) (v : Nat) : Nat := (L.getD (Y v).toNat Sp.arc0).f
def Sp.itb (L : List Sp.Arc) (Y : Nat → Int) : Nat → Nat → Nat
  | 0, x => x
  | m + 1, x => Sp.bk L Y (Sp.itb L Y m x)
theorem Sp.itb_add (L : List Sp.Arc) (Y : Nat → Int) (x : Nat) (i : Nat) : ∀ j, Sp.itb L Y (j + i) x = Sp.itb L Y j (Sp.itb L Y i x)
  | 0 => by rw [Nat.zero_add]; rfl
  | j + 1 => by
    rw [show j + 1 + i = j + i + 1 by omega]
    show Sp.bk L Y (Sp.itb L Y (j + i) x) = Sp.bk L Y _
    rw [Sp.itb_add L Y x i j]
theorem Sp.itb_succ (L : List Sp.Arc) (Y : Nat → Int) (x m : Nat) : Sp.itb L Y (m + 1) x = Sp.itb L Y m (Sp.bk L Y x) := Sp.itb_add L Y x 1 m
/-- How long m arcs back are together. -/
def Sp.smb (L : List Sp.Arc) (Y : Nat → Int) : Nat → Nat → Int
  | 0, _ => 0
  | m + 1, x => (L.getD (Y x).toNat Sp.arc0).l + Sp.smb L Y m (Sp.bk L Y x)
theorem Sp.byA_some {L : List Sp.Arc} {Y : Nat → Int} {v : Nat} (h : Y v ≠ -1) : Sp.byA L Y v = some (L.getD (Y v).toNat Sp.arc0) := by
  unfold Sp.byA; rw [if_neg h]
theorem Sp.Bk.of_it {L : List Sp.Arc} {Y : Nat → Int} : ∀ m x, (∀ j, j < m → Y (Sp.itb L Y j x) ≠ -1) → Sp.Bk (Sp.byA L Y) m x (Sp.itb L Y m x) (Sp.smb L Y m x)
  | 0, x, _ => ⟨rfl, rfl⟩
  | m + 1, x, h => by
    refine ⟨_, Sp.byA_some (h 0 (by omega)), ?_⟩
    have ih := Sp.Bk.of_it (L := L) (Y := Y) m (Sp.bk L Y x) (fun j hj => by rw [← Sp.itb_succ]; exact h (j + 1) (by omega))
    rw [← Sp.itb_succ] at ih
    have e : Sp.smb L Y (m + 1) x - (L.getD (Y x).toNat Sp.arc0).l = Sp.smb L Y m (Sp.bk L Y x) := by
      show (L.getD (Y x).toNat Sp.arc0).l + Sp.smb L Y m (Sp.bk L Y x) - _ = _
      omega
    rw [e]; exact ih
/-- The state behind pass K, as far as the way back asks it. -/
structure Sp.Ago (L : List Sp.Arc) (n : Nat) (D Y : Nat → Int) (pn : Nat → Nat) : Prop where
  tr : ∃ tm clock, Sp.Tr 1152921504606846976 L n D (Sp.byA L Y) tm pn clock
  rng : ∀ a ∈ L, a.f < n ∧ a.t < n
  num : ∀ v, v < n → Y v = -1 ∨ ∃ m : Nat, Y v = (m : Int) ∧ m < L.length
theorem Sp.Ago.ne {L : List Sp.Arc} {n : Nat} {D Y : Nat → Int} {pn : Nat → Nat} (h : Sp.Ago L n D Y pn) {v : Nat} (hv : v < n) (hp : 0 < pn v) : Y v ≠ -1 := fun e => by
  obtain ⟨tm, clock, ht⟩ := h.tr
  exact ht.some_ v hv hp (by unfold Sp.byA; rw [if_pos e])
theorem Sp.Ago.arc {L : List Sp.Arc} {n : Nat} {D Y : Nat → Int} {pn : Nat → Nat} (h : Sp.Ago L n D Y pn) {v : Nat} (hv : v < n) (hy : Y v ≠ -1) : (L.getD (Y v).toNat Sp.arc0).t = v ∧ Sp.bk L Y v < n ∧ D (Sp.bk L Y v) ≠ 1152921504606846976 ∧ pn v ≤ pn (Sp.bk L Y v) + 1 ∧ ∃ m : Nat, Y v = (m : Int) ∧ m < L.length := by
  obtain ⟨tm, clock, ht⟩ := h.tr
  obtain ⟨h1, h2, h3, -, -, h6⟩ := ht.arc v _ hv (Sp.byA_some hy)
  exact ⟨h2, (h.rng _ h1).1, h3, h6, (h.num v hv).resolve_left hy⟩
theorem Sp.Ago.back {L : List Sp.Arc} {n : Nat} {D Y : Nat → Int} {pn : Nat → Nat} (h : Sp.Ago L n D Y pn) {x : Nat} (hx : x < n) : ∀ m, m ≤ pn x → Sp.itb L Y m x < n ∧ pn x ≤ pn (Sp.itb L Y m x) + m
  | 0, _ => ⟨hx, by show pn x ≤ pn x + 0; omega⟩
  | m + 1, hm => by
    obtain ⟨h1, h2⟩ := Sp.Ago.back h hx m (by omega)
    obtain ⟨-, h3, -, h4, -⟩ := h.arc h1 (h.ne h1 (by omega))
    exact ⟨h3, by show pn x ≤ pn (Sp.bk L Y (Sp.itb L Y m x)) + (m + 1); omega⟩
/-- Of n + 1 places two are one. -/
theorem Sp.pigeon {n : Nat} (f : Nat → Nat) (hf : ∀ m, m ≤ n → f m < n) : ∃ i j, i < j ∧ j ≤ n ∧ f i = f j := by
  rcases Classical.em (∃ i j, i < j ∧ j ≤ n ∧ f i = f j) with h | h
  · exact h
  · exfalso
    have hnd : ((List.range (n + 1)).map fun m => ((f m : Nat) : Int)).Nodup := by
      unfold List.Nodup
      rw [List.pairwise_iff_getElem]
      intro i j hi hj hij e
      simp only [List.length_map, List.length_range] at hi hj
      simp only [List.getElem_map, List.getElem_range] at e
      exact h ⟨i, j, hij, by omega, by omega⟩
    have := nodup_le n _ hnd (fun x hx => by
      obtain ⟨m, hm, rfl⟩ := List.mem_map.1 hx
      have := hf m (by have := List.mem_range.1 hm; omega)
      omega)
    rw [List.length_map, List.length_range] at this
    omega
theorem Sp.least_nat {P : Nat → Prop} : ∀ m, P m → ∃ q, q ≤ m ∧ P q ∧ ∀ j, j < q → ¬ P j
  | m, h => by
    rcases Classical.em (∃ j, j < m ∧ P j) with ⟨j, hj, hp⟩ | hn
    · obtain ⟨q, h1, h2, h3⟩ := Sp.least_nat j hp
      exact ⟨q, by omega, h2, h3⟩
    · exact ⟨m, Nat.le_refl _, h, fun j hj hp => hn ⟨j, hj, hp⟩⟩
/-- n steps back stands a place of a round: q arcs lead back to it, none fewer; together they are below 0. -/
theorem Sp.Ago.round {L : List Sp.Arc} {n : Nat} {D Y : Nat → Int} {pn : Nat → Nat} (h : Sp.Ago L n D Y pn) {x : Nat} (hx : x < n) (hp : n ≤ pn x) :
    ∃ q, 0 < q ∧ q ≤ n ∧ Sp.itb L Y q (Sp.itb L Y n x) = Sp.itb L Y n x ∧ (∀ j, Sp.itb L Y j (Sp.itb L Y n x) < n ∧ Y (Sp.itb L Y j (Sp.itb L Y n x)) ≠ -1) ∧ (∀ j, 0 < j → j < q → Sp.itb L Y j (Sp.itb L Y n x) ≠ Sp.itb L Y n x) ∧ Sp.smb L Y q (Sp.itb L Y n x) < 0 := by
  obtain ⟨i, j, hij, hj, e⟩ := Sp.pigeon (n := n) (fun m => Sp.itb L Y m x) (fun m hm => (h.back hx m (by omega)).1)
  have e' : Sp.itb L Y i x = Sp.itb L Y j x := e
  obtain ⟨c, hc⟩ : ∃ c, Sp.itb L Y i x = c := ⟨_, rfl⟩
  obtain ⟨p, hpj⟩ : ∃ p, j = p + i := ⟨j - i, by omega⟩
  have hp0 : 0 < p := by omega
  have hcyc : Sp.itb L Y p c = c := by rw [← hc, ← Sp.itb_add, ← hpj]; exact e'.symm
  have hmod : ∀ m, Sp.itb L Y m c = Sp.itb L Y (m % p) c := by
    intro m
    induction m using Nat.strongRecOn with
    | _ m ih =>
      by_cases hm : m < p
      · rw [Nat.mod_eq_of_lt hm]
      · have h1 := ih (m - p) (by omega)
        rw [show m = (m - p) + p by omega, Sp.itb_add, hcyc, Nat.add_mod_right]
        exact h1
  have hgood : ∀ m, Sp.itb L Y m c < n ∧ Y (Sp.itb L Y m c) ≠ -1 := fun m => by
    rw [hmod m]
    have hlt := Nat.mod_lt m hp0
    generalize m % p = r at *
    rw [← hc, ← Sp.itb_add]
    obtain ⟨h1, h2⟩ := h.back hx (r + i) (by omega)
    exact ⟨h1, h.ne h1 (by omega)⟩
  obtain ⟨a, ha⟩ : ∃ a, Sp.itb L Y n x = a := ⟨_, rfl⟩
  have hac : a = Sp.itb L Y (n - i) c := by rw [← ha, ← hc, ← Sp.itb_add]; congr 1; omega
  rw [ha]
  have hpa : Sp.itb L Y p a = a := by
    rw [hac, ← Sp.itb_add, show p + (n - i) = (n - i) + p by omega, Sp.itb_add, hcyc]
  have hga : ∀ m, Sp.itb L Y m a < n ∧ Y (Sp.itb L Y m a) ≠ -1 := fun m => by
    rw [hac, ← Sp.itb_add]; exact hgood _
  obtain ⟨q, hq1, ⟨hq2, hq3⟩, hq4⟩ := Sp.least_nat (P := fun q => 0 < q ∧ Sp.itb L Y q a = a) p ⟨hp0, hpa⟩
  refine ⟨q, hq2, by omega, hq3, hga, fun j h1 h2 h3 => hq4 j h2 ⟨h1, h3⟩, ?_⟩
  obtain ⟨tm, clock, ht⟩ := h.tr
  have hB := Sp.Bk.of_it (L := L) (Y := Y) q a (fun j _ => (hga j).2)
  rw [hq3] at hB
  exact ht.round h.rng (hga 0).1 hq2 hB
end Go.Proofs.Ytoegjnolccabjaa


/- slices.Reverse of a row of ints. -/
namespace Go.Proofs.Ytoegjnolccabjaa
open Go Go.RowKit

theorem Sp.map_set (n : Nat) (f : Nat → Int) (i : Nat) (a : Int) : ((List.range n).map f).set i a = (List.range n).map (Sp.upd f i a) := by
  apply List.ext_getElem
  · simp
  · intro k h1 h2
    simp only [List.getElem_set, List.getElem_map, List.getElem_range, Sp.upd]
    by_cases e : i = k
    · rw [if_pos e, if_pos e.symm]
    · rw [if_neg e, if_neg (fun h => e h.symm)]
end Go.Proofs.Ytoegjnolccabjaa


/- Package path: Any where no row of lengths is: a round is told. (gen_a25.py makes this from A12.) -/
namespace Go.Proofs.Ytoegjnolccabjaa
open Go Go.RowKit

/-- Before the first pass. -/
theorem Sp.Pas.zero {L : List Sp.Arc} {n : Nat} {D Y : Nat → Int} {clock : Nat} (h : Sp.Pas L n 0 0 D Y (fun _ => 0) (fun _ => 0) clock) : Sp.Pas L n (0 + 1) 0 D Y (fun _ => 0) (fun _ => 0) clock :=
  ⟨h.tr, fun _ => by omega, h.num, fun m _ hp => by omega, fun m hm => by omega⟩
end Go.Proofs.Ytoegjnolccabjaa


/- Every pass shortens a way: then a round below 0 is reached, and no row of lengths is (P601). -/
namespace Go.Proofs.Ytoegjnolccabjaa
open Go Go.RowKit

/-- Along the arcs back no row of lengths rises by more than they are long. -/
theorem Sp.Short.back {N s : Nat} {L : List Sp.Arc} {D D0 Y : Nat → Int} {pn : Nat → Nat} (hD : Sp.Short 1152921504606846976 L s N D) (hA : Sp.Ago L N D0 Y pn) (hr : ∀ v, v < N → D0 v ≠ 1152921504606846976 → D v ≠ 1152921504606846976) :
    ∀ m a, (∀ j, Sp.itb L Y j a < N ∧ Y (Sp.itb L Y j a) ≠ -1) → D a ≤ D (Sp.itb L Y m a) + Sp.smb L Y m a
  | 0, a, _ => by show D a ≤ D a + 0; omega
  | m + 1, a, h => by
    have ih := Sp.Short.back hD hA hr m (Sp.bk L Y a) (fun j => by rw [← Sp.itb_succ]; exact h (j + 1))
    obtain ⟨h1, h2, h3, -, k, h5, h6⟩ := hA.arc (h 0).1 (h 0).2
    have h7 := (hD.arc _ (Sp.arc_mem h6) (by
      have e : (L.getD k Sp.arc0).f = Sp.bk L Y a := by unfold Sp.bk; rw [show Y a = (k : Int) from h5, Int.toNat_natCast]
      rw [e]; exact hr _ h2 h3)).2
    have e : (Y a).toNat = k := by rw [show Y a = (k : Int) from h5, Int.toNat_natCast]
    have h1' : (L.getD (Y a).toNat Sp.arc0).t = a := h1
    rw [e] at h1'
    rw [h1'] at h7
    rw [Sp.itb_succ]
    show D a ≤ _ + ((L.getD (Y a).toNat Sp.arc0).l + Sp.smb L Y m (Sp.bk L Y a))
    have e2 : (L.getD k Sp.arc0).f = Sp.bk L Y a := by unfold Sp.bk; rw [e]
    rw [e2] at h7
    rw [e]; omega
end Go.Proofs.Ytoegjnolccabjaa


/- What any arcs reach; the arcs of a round, told backwards (P601: the reference's Round). -/
namespace Go.Proofs.Ytoegjnolccabjaa
open Go Go.RowKit

/-- A row of truths that no arc leads out of. -/
def Sp.clo (L : List Sp.Arc) (s : Nat) (B : Nat → Bool) : Prop := B s = true ∧ ∀ k, k < L.length → B (L.getD k Sp.arc0).f = true → B (L.getD k Sp.arc0).t = true
theorem Sp.clo.wk {L : List Sp.Arc} {s : Nat} {B : Nat → Bool} (h : Sp.clo L s B) : ∀ m v x, Sp.Wk L s m v x → B v = true
  | 0, v, x, hw => by obtain ⟨rfl, -⟩ := hw; exact h.1
  | m + 1, v, x, hw => by
    obtain ⟨a, ha, rfl, hw⟩ := hw
    have ih := Sp.clo.wk h m a.f _ hw
    obtain ⟨k, hk, e⟩ := List.getElem_of_mem ha
    have e2 : L.getD k Sp.arc0 = a := by rw [List.getD_eq_getElem?_getD, List.getElem?_eq_getElem hk, e]; rfl
    have := h.2 k hk
    rw [e2] at this
    exact this ih
/-- An arc leads out of what is known: it is known as well; fewer are unknown. -/
def Sp.updB (z : Nat → Bool) (j : Nat) (v : Bool) : Nat → Bool := fun k => if k = j then v else z k
theorem Sp.updB_lt {n : Nat} {B : Nat → Bool} {t : Nat} (ht : t < n) (h : B t = false) : Sp.ct (fun v => !Sp.updB B t true v) n + 1 ≤ Sp.ct (fun v => !B v) n := by
  refine Sp.ct_lt n (fun i _ hp => ?_) ⟨t, ht, ?_, ?_⟩
  · unfold Sp.updB at hp
    by_cases e : i = t
    · rw [if_pos e] at hp; simp at hp
    · rw [if_neg e] at hp; exact hp
  · simp [Sp.updB]
  · simp [h]
end Go.Proofs.Ytoegjnolccabjaa


/- A row of truths in a block of its own, as a function; make([]bool, n). -/
namespace Go.Proofs.Ytoegjnolccabjaa
open Go Go.RowKit

def RowB (w : World) (b n : Nat) (z : Nat → Bool) : Prop := ∃ c, w.heap[b]? = some (.cells c 4) ∧ c.size = n ∧ ∀ j, j < n → c[j]? = some (.bool (z j))
theorem RowB.lt {w : World} {b n : Nat} {z : Nat → Bool} (h : RowB w b n z) : b < w.heap.size := by
  obtain ⟨c, hc, -⟩ := h
  exact (Array.getElem?_eq_some_iff.1 hc).1
theorem RowB.cell {w : World} {b n : Nat} {z : Nat → Bool} (h : RowB w b n z) {j : Nat} (hj : j < n) : w.cell? ⟨b, j, none⟩ = some (.bool (z j)) := by
  obtain ⟨c, hc, -, hz⟩ := h
  simp only [World.cell?, hc]
  exact hz j hj
theorem RowB.frozen {w : World} {b n : Nat} {z : Nat → Bool} (h : RowB w b n z) (j : Nat) (s : Option Nat) : w.frozen? ⟨b, j, s⟩ = false := by
  obtain ⟨c, hc, -⟩ := h
  simp only [World.frozen?, hc]
  simp
theorem RowB.of_block {w w' : World} {b n : Nat} {z : Nat → Bool} (h : RowB w b n z) (e : w'.heap[b]? = w.heap[b]?) : RowB w' b n z := by
  obtain ⟨c, hc, h1⟩ := h
  exact ⟨c, by rw [e]; exact hc, h1⟩
theorem RowB.set {w : World} {b n : Nat} {z : Nat → Bool} (h : RowB w b n z) (j : Nat) (v : Bool) : RowB (w.setCell ⟨b, j, none⟩ (.bool v)) b n (Sp.updB z j v) := by
  obtain ⟨c, hc, hs, hz⟩ := h
  refine ⟨c.setIfInBounds j (.bool v), ?_, by simpa using hs, fun k hk => ?_⟩
  · simp only [World.setCell, Array.getElem?_modify, if_pos, hc]
    rfl
  · rw [Array.getElem?_setIfInBounds]
    unfold Sp.updB
    by_cases hjk : j = k
    · rw [if_pos hjk, if_pos (by omega), if_pos hjk.symm]
    · rw [if_neg hjk, hz k hk, if_neg (fun e => hjk e.symm)]
theorem RowB.below {w w' : World} {b n : Nat} {z : Nat → Bool} (h : RowB w b n z) (hb : Below w.heap.size w w') : RowB w' b n z := h.of_block (hb.block b h.lt)
theorem RowB.congr {w : World} {b n : Nat} {z z' : Nat → Bool} (h : RowB w b n z) (e : ∀ j, j < n → z j = z' j) : RowB w b n z' := by
  obtain ⟨c, hc, hs, hz⟩ := h
  exact ⟨c, hc, hs, fun j hj => by rw [← e j hj]; exact hz j hj⟩
theorem RowB.of_rep {w : World} {B b n : Nat} {x : Bool} (h : OwnB w B (.slice (some ⟨b, 0, none⟩) n n) (List.replicate n x)) : RowB w b n (fun _ => x) ∧ B ≤ b := by
  unfold OwnB at h
  obtain ⟨h1, ⟨h2, -⟩ | ⟨g', cap, cur, e, hg, hh, hnc, hcm, hsz, htk⟩⟩ := h
  · cases h2
  · injection e with e1 e2 e3
    injection e1 with e1
    injection e1 with e1 _
    subst e1
    rw [List.length_replicate] at hnc htk
    refine ⟨⟨cur, hh, by omega, fun j hj => ?_⟩, hg⟩
    have e4 : cur.toList = (List.replicate n x).map Value.bool := by
      rw [← htk, List.take_of_length_le]
      simp; omega
    rw [← Array.getElem?_toList, e4, List.getElem?_map, List.getElem?_replicate, if_pos hj]; rfl
theorem wpList_mkB {w : World} {ops : Array Oper} {rest : List Oper} {o : Oper} {a : Act} {Q : Exit → Act → World → Prop} (hg : o.guard = none) (l c : Operand) (hop : o.op = Op.makeSlice 47 l c)
    (base n : Nat) (hl : a.eval l = .int .i64 (n : Int)) (hc : a.eval c = .int .i64 (n : Int)) (hn : n ≤ 1000000) (b4 : base ≤ w.heap.size)
    (hK : ∀ w', RowB w' w.heap.size n (fun _ => false) → Below base w w' → wpList Try.prog ops Q rest (a.put o.dst (.slice (some ⟨w.heap.size, 0, none⟩) n n)) w') : wpList Try.prog ops Q (o :: rest) a w := by
  obtain ⟨i0, hi, hz0, hz1, hz2⟩ := info_parts infoB
  refine wpList_make_full w hg l c 47 hop base 4 i0 (.bool false) 1 Try.underlying47 hi hz0 hz1 .i64 .i64 _ _ n hl hc rfl rfl (by rw [hz2]; omega) (by unfold maxLen; omega) b4 ?_
  intro w' h1 h2
  refine hK w' (RowB.of_rep (B := base) ?_).1 ((Below.refl base w).grown h2 b4 (by simp))
  unfold OwnB
  rw [List.length_replicate, ← made_bools]
  exact h1
end Go.Proofs.Ytoegjnolccabjaa


