/- What the proof needs, part 17. -/
import Derived.Test.YtoegjnolccabjaaL16
/- The dual of a plane net is plane. -/
namespace Go.Proofs.Ytoegjnolccabjaa
open Go Go.RowKit

theorem Sp.behind_twice {nx : List Int} (hev : nx.length % 2 = 0) : Sp.behindL (Sp.behindL nx) = nx := by
  have hl : (Sp.behindL (Sp.behindL nx)).length = nx.length := by rw [Sp.behindL_len, Sp.behindL_len]
  refine List.ext_getElem hl fun i h1 h2 => ?_
  have ho := oth_lt h2 hev
  have e : (Sp.behindL (Sp.behindL nx)).getD i 0 = nx.getD i 0 := by
    rw [Sp.behindL_get _ _ (by rw [Sp.behindL_len]; exact h2), Sp.behindL_get _ _ ho, oth_oth]
  rw [Sp.getD_eq _ _ h1, Sp.getD_eq _ _ h2] at e
  exact e
/-- What is asked of a plane net, small enough for its dual to be one. -/
structure Sp.DualQ (q : Sp.Net) : Prop where
  link : Sp.LinkQ q
  le : q.tail.length ≤ 48
  l0 : 0 < q.tail.length
  n0 : 1 ≤ q.n
  n1 : q.n ≤ 60
  tb : ∀ x ∈ q.tail, 0 ≤ x ∧ x < q.n
  cb : ∀ x ∈ q.cap, 0 ≤ x ∧ x ≤ 2147483648
  pl : Sp.Plain q
theorem Sp.DualQ.fp {q : Sp.Net} (h : Sp.DualQ q) : Sp.Perm (Sp.behindL q.next) := h.link.pm.behind (by rw [h.link.nx]; exact h.link.ev)
theorem Sp.DualQ.bl {q : Sp.Net} (h : Sp.DualQ q) : (Sp.behindL q.next).length = q.tail.length := by rw [Sp.behindL_len, h.link.nx]
theorem Sp.DualQ.cls {q : Sp.Net} (h : Sp.DualQ q) : Cls q.tail.length (Sp.fn (Sp.behindL q.next)) (fun i => ((Sp.faces2 q).1.getD i 0).toNat) (Sp.faces2 q).2 := by
  have hst := (Sp.faces2_st h.link.pm h.link.nx h.link.ev).cls
  rw [h.bl] at hst
  exact hst
theorem Sp.DualQ.mp {q : Sp.Net} (h : Sp.DualQ q) : ∀ i, i < q.tail.length → Sp.fn (Sp.behindL q.next) i < q.tail.length := fun i hi => by
  have := h.fp.fnP.mp i (by rw [h.bl]; exact hi)
  rw [h.bl] at this; exact this
theorem Sp.DualQ.mpN {q : Sp.Net} (h : Sp.DualQ q) : ∀ i, i < q.tail.length → Sp.fn q.next i < q.tail.length := fun i hi => by
  have := h.link.pm.fnP.mp i (by rw [h.link.nx]; exact hi)
  rw [h.link.nx] at this; exact this
theorem Sp.DualQ.k1 {q : Sp.Net} (h : Sp.DualQ q) : 1 ≤ (Sp.faces2 q).2 := by have := h.cls.lt 0 h.l0; omega
theorem Sp.DualQ.euler {q : Sp.Net} (h : Sp.DualQ q) : q.n - ((q.tail.length / 2 : Nat) : Int) + (((Sp.faces2 q).2 : Nat) : Int) = 2 := by
  obtain ⟨lab, F, hf, hE⟩ := h.pl.face
  rw [h.cls.count h.mp hf]
  exact hE
/-- Labels, as numbers. -/
theorem Sp.DualQ.fb {q : Sp.Net} (h : Sp.DualQ q) {i : Nat} (hi : i < q.tail.length) : 0 ≤ (Sp.faces2 q).1.getD i 0 ∧ (Sp.faces2 q).1.getD i 0 < ((Sp.faces2 q).2 : Int) := by
  have hst := Sp.faces2_st h.link.pm h.link.nx h.link.ev
  have h1 := hst.done i (by rw [h.bl]; exact hi)
  have h2 := h.cls.lt i hi
  omega
theorem Sp.DualQ.turn {q : Sp.Net} (h : Sp.DualQ q) {d : Nat} (hd : d < q.tail.length) : (Sp.faces2 q).1.getD (Sp.fn q.next d) 0 = (Sp.faces2 q).1.getD (Sp.oth d) 0 := by
  have ho := oth_lt hd h.link.ev
  have e : Sp.fn (Sp.behindL q.next) (Sp.oth d) = Sp.fn q.next d := by
    unfold Sp.fn
    rw [Sp.behindL_get _ _ (by rw [h.link.nx]; exact ho), oth_oth]
  have h1 := h.cls.inv _ ho
  rw [e] at h1
  have h2 := h.fb (h.mpN d hd)
  have h3 := h.fb ho
  omega
theorem Sp.DualQ.about {q : Sp.Net} (h : Sp.DualQ q) {d : Nat} (hd : d < q.tail.length) (m : Nat) : Sp.Reach (Sp.faces2 q).1 ((Sp.faces2 q).1.getD d 0) ((Sp.faces2 q).1.getD (itf (Sp.fn q.next) d m) 0) := by
  have hF := Sp.faces2_len q
  have hb : ∀ m, itf (Sp.fn q.next) d m < q.tail.length := fun m => by
    have := h.link.pm.fnP.it (by rw [h.link.nx]; exact hd) m
    rw [h.link.nx] at this; exact this
  induction m with
  | zero => exact .refl _
  | succ m ih =>
    show Sp.Reach _ _ ((Sp.faces2 q).1.getD (Sp.fn q.next (itf (Sp.fn q.next) d m)) 0)
    rw [h.turn (hb m)]
    exact ih.step (by rw [hF]; exact hb m)
theorem Sp.DualQ.same {q : Sp.Net} (h : Sp.DualQ q) {d e : Nat} (hd : d < q.tail.length) (he : e < q.tail.length) (ht : q.tail.getD d 0 = q.tail.getD e 0) : Sp.Reach (Sp.faces2 q).1 ((Sp.faces2 q).1.getD d 0) ((Sp.faces2 q).1.getD e 0) := by
  obtain ⟨m, rfl⟩ := h.pl.vert.sep d e hd he (by show (q.tail.getD d 0).toNat = (q.tail.getD e 0).toNat; rw [ht])
  exact h.about hd m
theorem Sp.DualQ.all {q : Sp.Net} (h : Sp.DualQ q) {d : Nat} (hd : d < q.tail.length) {v : Int} (hr : Sp.Reach q.tail (q.tail.getD d 0) v) : ∀ e, e < q.tail.length → q.tail.getD e 0 = v → Sp.Reach (Sp.faces2 q).1 ((Sp.faces2 q).1.getD d 0) ((Sp.faces2 q).1.getD e 0) := by
  have hF := Sp.faces2_len q
  refine hr.ind (p := fun v => ∀ e, e < q.tail.length → q.tail.getD e 0 = v → Sp.Reach (Sp.faces2 q).1 ((Sp.faces2 q).1.getD d 0) ((Sp.faces2 q).1.getD e 0)) (fun e he hv => h.same hd he hv.symm) fun c hc _ ih e he hv => ?_
  have ho := oth_lt hc h.link.ev
  have h1 := (ih c hc rfl).step (by rw [hF]; exact hc)
  exact h1.trans (h.same ho he hv.symm)
theorem Sp.DualQ.plain {q : Sp.Net} (h : Sp.DualQ q) : Sp.Plain (Sp.dual q) := by
  have hF := Sp.faces2_len q
  have hk := h.k1
  have hn : (Sp.dual q).n = (((Sp.faces2 q).2 : Nat) : Int) := by show ((max (Sp.faces2 q).2 1 : Nat) : Int) = _; omega
  have ht : (Sp.dual q).tail = (Sp.faces2 q).1 := rfl
  have hx : (Sp.dual q).next = Sp.behindL q.next := rfl
  refine ⟨?_, ⟨fun i => (q.tail.getD i 0).toNat, q.n.toNat, ?_, ?_⟩, fun v h0 h1 => ?_⟩
  · rw [ht, hF, hx, hn, Int.toNat_natCast]
    exact h.cls
  · rw [ht, hF, hx, Sp.behind_twice (by rw [h.link.nx]; exact h.link.ev)]
    exact h.pl.vert
  · rw [hn, ht, hF]
    have := h.euler
    have := h.n0
    omega
  · rw [ht]
    rw [hn] at h1
    obtain ⟨x, hx1, hx2⟩ := h.cls.on 0 (by omega)
    obtain ⟨y, hy1, hy2⟩ := h.cls.on v.toNat (by omega)

    have bx := h.fb hx1
    have bY := h.fb hy1
    have ex : (Sp.faces2 q).1.getD x 0 = 0 := by omega
    have ey : (Sp.faces2 q).1.getD y 0 = v := by omega
    have tx := h.tb _ (Sp.getD_mem (l := q.tail) hx1)
    have ty := h.tb _ (Sp.getD_mem (l := q.tail) hy1)
    have r := ((h.pl.conn _ tx.1 tx.2).symm h.link.ev).trans (h.pl.conn _ ty.1 ty.2)
    have := h.all hx1 r y hy1 rfl
    rw [ex, ey] at this
    exact this
theorem Sp.DualQ.half {q : Sp.Net} (h : Sp.DualQ q) : (Sp.faces2 q).2 ≤ 48 := by have := Sp.faces2_le q; have := h.le; omega
theorem Sp.DualQ.dlink {q : Sp.Net} (h : Sp.DualQ q) : Sp.LinkQ (Sp.dual q) := by
  have hF := Sp.faces2_len q
  refine ⟨?_, ?_, ?_, ?_, h.fp⟩
  · show (Sp.behindL q.next).length = (Sp.faces2 q).1.length; rw [hF, h.bl]
  · show q.cap.length = (Sp.faces2 q).1.length; rw [hF, h.link.cp]
  · show (Sp.faces2 q).1.length ≤ 60; rw [hF]; exact h.link.le
  · show (Sp.faces2 q).1.length % 2 = 0; rw [hF]; exact h.link.ev
theorem Sp.DualQ.dtb {q : Sp.Net} (h : Sp.DualQ q) : ∀ x ∈ (Sp.dual q).tail, 0 ≤ x ∧ x < (Sp.dual q).n := by
  have hF := Sp.faces2_len q
  have hk := h.k1
  have hn : (Sp.dual q).n = (((Sp.faces2 q).2 : Nat) : Int) := by show ((max (Sp.faces2 q).2 1 : Nat) : Int) = _; omega
  intro x hx
  rw [hn]
  have hx' : x ∈ (Sp.faces2 q).1 := hx
  obtain ⟨i, hi, rfl⟩ := List.getElem_of_mem hx'
  have := h.fb (i := i) (by rw [← hF]; exact hi)
  rw [Sp.getD_eq _ _ hi] at this
  exact this
theorem Sp.DualQ.dn {q : Sp.Net} (h : Sp.DualQ q) : (Sp.dual q).n = (((Sp.faces2 q).2 : Nat) : Int) := by
  have hk := h.k1
  show ((max (Sp.faces2 q).2 1 : Nat) : Int) = _
  omega
theorem Sp.DualQ.dualQ {q : Sp.Net} (h : Sp.DualQ q) : Sp.DualQ (Sp.dual q) := by
  have hF := Sp.faces2_len q
  have hk := h.k1
  have hh := h.half
  refine ⟨h.dlink, ?_, ?_, ?_, ?_, h.dtb, h.cb, h.plain⟩
  · show (Sp.faces2 q).1.length ≤ 48; rw [hF]; exact h.le
  · show 0 < (Sp.faces2 q).1.length; rw [hF]; exact h.l0
  · rw [h.dn]; omega
  · rw [h.dn]; omega
theorem Sp.DualQ.walk {q : Sp.Net} (h : Sp.DualQ q) : Sp.walkB q = true :=
  walkB_of ⟨h.n1, by have := h.n0; omega, by have := h.le; omega, h.link.ev, h.link.nx, h.link.cp, h.link.pm.bd, h.tb⟩
/-- The dual's faces are as many as the vertices. -/
theorem Sp.DualQ.count {q : Sp.Net} (h : Sp.DualQ q) : ((max (Sp.faces2 (Sp.dual q)).2 1 : Nat) : Int) = q.n := by
  have e1 := h.euler
  have e2 := h.dualQ.euler
  rw [h.dn] at e2
  have hl : (Sp.dual q).tail.length = q.tail.length := Sp.faces2_len q
  rw [hl] at e2
  have := h.n0
  omega
theorem Sp.dualQ_plane (ns : List Int) : Sp.plane ns = ⟨1, [], [], []⟩ ∨ Sp.DualQ (Sp.plane ns) := by
  have hq := Sp.plane_ok ns
  rcases Sp.plane_plain ns with e | ⟨h1, h2⟩
  · exact .inl e
  · exact .inr ⟨Sp.linkQ_plane ns, hq.le, h1, hq.n0, by have := hq.n1; omega, hq.tb, hq.cb, h2⟩
end Go.Proofs.Ytoegjnolccabjaa


/- rim: what a land is; its arcs are arcs. -/
namespace Go.Proofs.Ytoegjnolccabjaa
open Go Go.RowKit

/-- What the walks of stage 8 take of a net. -/
structure Sp.RimQ (q : Sp.Net) : Prop where
  link : Sp.LinkQ q
  le : q.tail.length ≤ 48
  n0 : 1 ≤ q.n
  n1 : q.n ≤ 60
  cb : ∀ x ∈ q.cap, 0 ≤ x ∧ x ≤ 2147483648
  fb : ∀ i, i < q.tail.length → 0 ≤ (Sp.faces2 q).1.getD i 0 ∧ (Sp.faces2 q).1.getD i 0 < ((Sp.faces2 q).2 : Int)
  walk : Sp.walkB q = true
  chk : Sp.checkI q = 0
theorem Sp.splitAt_rng {x : Nat → Nat} {K f : Int} {jb : Nat} {F : List Int} {p : Int → Prop} (hK : p K) (hf : p f) (hF : ∀ i, i < F.length → p (F.getD i 0)) : ∀ j i, i < F.length → p ((Sp.splitAt x K f jb F j).getD i 0)
  | 0, i, hi => hF i hi
  | j + 1, i, hi => by
    have ih := Sp.splitAt_rng (x := x) (jb := jb) hK hf hF j i hi
    rw [Sp.splitAt, List.getD_eq_getElem?_getD, List.getElem?_set]
    split
    · rename_i e
      split
      · simp only [Option.getD_some]
        split
        · exact hK
        · exact hf
      · rename_i h2
        rw [Sp.splitAt_len] at h2
        omega
    · rw [← List.getD_eq_getElem?_getD]; exact ih
/-- The faces of a land. -/
def Sp.landK (q : Sp.Net) : Nat := max (Sp.faces2 q).2 1
theorem Sp.RimQ.kle {q : Sp.Net} (h : Sp.RimQ q) : Sp.landK q + 1 ≤ 49 := by
  have := Sp.faces2_le q
  have := h.le
  unfold Sp.landK
  omega
theorem Sp.RimQ.flt {q : Sp.Net} (h : Sp.RimQ q) {s t : Int} {f d0 a jb : Nat} (hs : Sp.SplitQ q s t f d0 a jb) : f < Sp.landK q := by
  have h1 := (h.fb d0 hs.d0l).2
  rw [hs.d0f] at h1
  unfold Sp.landK
  omega
theorem Sp.splitL_len (q : Sp.Net) (f d0 a jb : Nat) : (Sp.splitL q f d0 a jb).length = q.tail.length := by
  unfold Sp.splitL
  rw [Sp.splitAt_len, Sp.faces2_len]
theorem Sp.RimQ.rng {q : Sp.Net} (h : Sp.RimQ q) {s t : Int} {f d0 a jb : Nat} (hs : Sp.SplitQ q s t f d0 a jb) {d : Nat} (hd : d < q.tail.length) : 0 ≤ (Sp.splitL q f d0 a jb).getD d 0 ∧ (Sp.splitL q f d0 a jb).getD d 0 < ((Sp.landK q + 1 : Nat) : Int) := by
  have hf := h.flt hs
  unfold Sp.landK at hf ⊢
  unfold Sp.splitL
  refine Sp.splitAt_rng (p := fun z => 0 ≤ z ∧ z < ((max (Sp.faces2 q).2 1 + 1 : Nat) : Int)) (by omega) (by omega) (fun i hi => ?_) _ d (by rw [Sp.faces2_len]; exact hd)
  rw [Sp.faces2_len] at hi
  have := h.fb i hi
  omega
theorem Sp.RimQ.capd {q : Sp.Net} (h : Sp.RimQ q) (d : Nat) : 0 ≤ q.cap.getD d 0 ∧ q.cap.getD d 0 ≤ 2147483648 := by
  rw [List.getD_eq_getElem?_getD]
  by_cases hd : d < q.cap.length
  · rw [List.getElem?_eq_getElem hd]
    exact h.cb _ (List.getElem_mem hd)
  · rw [List.getElem?_eq_none (by omega)]
    exact ⟨Int.le_refl _, by decide⟩
theorem Sp.RimQ.sndR {q : Sp.Net} (h : Sp.RimQ q) {s t : Int} {f d0 a jb : Nat} (hs : Sp.SplitQ q s t f d0 a jb) : Sp.Snd (Sp.landK q + 1) (Sp.rimR (Sp.splitL q f d0 a jb) q.cap q.tail.length) where
  few := by rw [Sp.rimR_len]; have := h.le; omega
  at_ := fun x hx => by
    obtain ⟨d, hd, rfl⟩ := Sp.mem_rimR.1 hx
    have h1 := h.rng hs hd
    have h2 := h.rng hs (oth_lt hd h.link.ev)
    have h3 := h.capd d
    refine ⟨?_, ?_, ?_, ?_⟩
    · show ((Sp.splitL q f d0 a jb).getD d 0).toNat < _; omega
    · show ((Sp.splitL q f d0 a jb).getD (Sp.oth d) 0).toNat < _; omega
    · show _ ≤ q.cap.getD d 0; omega
    · show q.cap.getD d 0 ≤ _; omega
theorem Sp.RimQ.posR {q : Sp.Net} (h : Sp.RimQ q) (F : List Int) (m : Nat) : ∀ x ∈ Sp.rimR F q.cap m, 0 ≤ x.l := fun x hx => by
  obtain ⟨d, hd, rfl⟩ := Sp.mem_rimR.1 hx
  exact (h.capd d).1
theorem Sp.RimQ.sndL {q : Sp.Net} (h : Sp.RimQ q) {s t : Int} {f d0 a jb : Nat} (hs : Sp.SplitQ q s t f d0 a jb) : Sp.Snd (Sp.landK q + 1) (Sp.rimL (Sp.splitL q f d0 a jb) q.cap q.tail.length) where
  few := by have := Sp.rimL_len (Sp.splitL q f d0 a jb) q.cap q.tail.length; have := h.le; omega
  at_ := fun x hx => (h.sndR hs).at_ x (Sp.rimL_mem _ _ _ x hx)
theorem Sp.RimQ.posL {q : Sp.Net} (h : Sp.RimQ q) (F : List Int) (m : Nat) : ∀ x ∈ Sp.rimL F q.cap m, 0 ≤ x.l := fun x hx => h.posR F m x (Sp.rimL_mem _ _ _ x hx)
theorem Sp.RimQ.of_dual {q : Sp.Net} (h : Sp.DualQ q) (hw : Sp.walkB q = true) (hc : Sp.checkI q = 0) : Sp.RimQ q := ⟨h.link, h.le, h.n0, h.n1, h.cb, fun _ hi => h.fb hi, hw, hc⟩
end Go.Proofs.Ytoegjnolccabjaa


/- rim: survey where there is a land. -/
namespace Go.Proofs.Ytoegjnolccabjaa
open Go Go.RowKit

set_option maxRecDepth 100000 in
set_option maxHeartbeats 8000000 in
theorem survey_yes (q : Sp.Net) (v tv nv cv : Value) (s t : Int) (w : World) (hv : NetI w v q tv nv cv) (f d0 a jb : Nat) (h0 : 0 ≤ s ∧ s < q.n) (h1 : 0 ≤ t ∧ t < q.n) (hst : s ≠ t) (hq : Sp.RimQ q) (hs : Sp.SplitQ q s t f d0 a jb) :
    Calls Try.prog 27 #[v, .int .i64 s, .int .i64 t] w fun e w' => ∃ O G D, e = .returned (.tuple #[.agg #[.slice (some ⟨O, 0, none⟩) q.tail.length q.tail.length, .slice (some ⟨G, 0, none⟩) (Sp.landK q + 1) (Sp.landK q + 1), .int .i64 ((Sp.landK q : Nat) : Int)], .int .i64 0]) ∧ OwnI w' w.heap.size (.slice (some ⟨O, 0, none⟩) q.tail.length q.tail.length) (Sp.splitL q f d0 a jb) ∧ w.heap.size ≤ G ∧ RowAt w' G (Sp.landK q + 1) D ∧ Below w.heap.size w w' ∧ Sp.Short 1152921504606846976 (Sp.rimR (Sp.splitL q f d0 a jb) q.cap q.tail.length) f (Sp.landK q + 1) D ∧ ∀ v, v < Sp.landK q + 1 → D v ≠ 1152921504606846976 → D v < 1152921504606846976 := by
  have hv' := hv
  obtain ⟨rfl, h1, h2, h3⟩ := hv
  obtain ⟨ta, tc, rfl, -, -⟩ := h1.form
  obtain ⟨na, nc, rfl, -, -⟩ := h2.form
  obtain ⟨ca, cc, rfl, -, -⟩ := h3.form
  have HFX : Hid (∀ w', Below (w.heap.size + 2) ((w.alloc (.cells #[.int .i64 q.n, .slice ta q.tail.length tc, .slice na q.next.length nc, .slice ca q.cap.length cc] 25)).alloc (.cells #[.slice none 0 0, .slice none 0 0, .int .i64 0] 54)) w' → w'.cell? ⟨w.heap.size, 0, none⟩ = some (.int .i64 q.n) ∧ w'.cell? ⟨w.heap.size, 1, none⟩ = some (.slice ta q.tail.length tc) ∧ w'.cell? ⟨w.heap.size, 2, none⟩ = some (.slice na q.next.length nc) ∧ w'.cell? ⟨w.heap.size, 3, none⟩ = some (.slice ca q.cap.length cc)) := hide fun w' hb => survey_fx w _ _ _ _ w' hb
  have HGX : Hid (∀ w', Below (w.heap.size + 2) ((w.alloc (.cells #[.int .i64 q.n, .slice ta q.tail.length tc, .slice na q.next.length nc, .slice ca q.cap.length cc] 25)).alloc (.cells #[.slice none 0 0, .slice none 0 0, .int .i64 0] 54)) w' → w'.cell? ⟨w.heap.size + 1, 0, none⟩ = some (.slice none 0 0) ∧ w'.cell? ⟨w.heap.size + 1, 1, none⟩ = some (.slice none 0 0) ∧ w'.cell? ⟨w.heap.size + 1, 2, none⟩ = some (.int .i64 0) ∧ (∀ k, w'.frozen? ⟨w.heap.size + 1, k, none⟩ = false)) := hide fun w' hb => survey_gx w _ _ _ _ w' hb
  have HW : Hid (∀ w', Below (w.heap.size + 2) ((w.alloc (.cells #[.int .i64 q.n, .slice ta q.tail.length tc, .slice na q.next.length nc, .slice ca q.cap.length cc] 25)).alloc (.cells #[.slice none 0 0, .slice none 0 0, .int .i64 0] 54)) w' → Below w.heap.size w w') := hide fun w' hb => survey_w w _ _ _ _ w' hb
  have HS2 : Hid (((w.alloc (.cells #[.int .i64 q.n, .slice ta q.tail.length tc, .slice na q.next.length nc, .slice ca q.cap.length cc] 25)).alloc (.cells #[.slice none 0 0, .slice none 0 0, .int .i64 0] 54)).heap.size = w.heap.size + 2) := hide (by simp)
  have HV : Hid (∀ w', Below (w.heap.size + 2) ((w.alloc (.cells #[.int .i64 q.n, .slice ta q.tail.length tc, .slice na q.next.length nc, .slice ca q.cap.length cc] 25)).alloc (.cells #[.slice none 0 0, .slice none 0 0, .int .i64 0] 54)) w' → NetI w' (.agg #[.int .i64 q.n, .slice ta q.tail.length tc, .slice na q.next.length nc, .slice ca q.cap.length cc]) q (.slice ta q.tail.length tc) (.slice na q.next.length nc) (.slice ca q.cap.length cc)) := hide fun w' hb => NetI.below ⟨rfl, h1, h2, h3⟩ (unhide HW _ hb)
  have HIs : Hid (∀ w', Below (w.heap.size + 2) ((w.alloc (.cells #[.int .i64 q.n, .slice ta q.tail.length tc, .slice na q.next.length nc, .slice ca q.cap.length cc] 25)).alloc (.cells #[.slice none 0 0, .slice none 0 0, .int .i64 0] 54)) w' → Calls Try.prog 37 #[.agg #[.int .i64 q.n, .slice ta q.tail.length tc, .slice na q.next.length nc, .slice ca q.cap.length cc], .int .i64 s] w' fun e w'' => e = .returned (.bool (decide (0 ≤ s ∧ s < q.n))) ∧ Below w'.heap.size w' w'') := hide fun w' hb => rmvertex_any q _ _ _ _ s w' (unhide HV w' hb)
  have HIt : Hid (∀ w', Below (w.heap.size + 2) ((w.alloc (.cells #[.int .i64 q.n, .slice ta q.tail.length tc, .slice na q.next.length nc, .slice ca q.cap.length cc] 25)).alloc (.cells #[.slice none 0 0, .slice none 0 0, .int .i64 0] 54)) w' → Calls Try.prog 37 #[.agg #[.int .i64 q.n, .slice ta q.tail.length tc, .slice na q.next.length nc, .slice ca q.cap.length cc], .int .i64 t] w' fun e w'' => e = .returned (.bool (decide (0 ≤ t ∧ t < q.n))) ∧ Below w'.heap.size w' w'') := hide fun w' hb => rmvertex_any q _ _ _ _ t w' (unhide HV w' hb)
  clear h1 h2 h3
  rw [decide_eq_true h0] at HIs
  rw [decide_eq_true h1] at HIt
  have hsb : (s == t) = false := beq_eq_false_iff_ne.2 hst
  have HSp : Hid (∀ w', Below (w.heap.size + 2) ((w.alloc (.cells #[.int .i64 q.n, .slice ta q.tail.length tc, .slice na q.next.length nc, .slice ca q.cap.length cc] 25)).alloc (.cells #[.slice none 0 0, .slice none 0 0, .int .i64 0] 54)) w' → Calls Try.prog 38 #[.agg #[.int .i64 q.n, .slice ta q.tail.length tc, .slice na q.next.length nc, .slice ca q.cap.length cc], .int .i64 s, .int .i64 t] w' fun e w'' => ∃ O, e = .returned (.tuple #[.slice (some ⟨O, 0, none⟩) q.tail.length q.tail.length, .int .i64 (((Sp.landK q : Nat) : Int) + 1), .int .i64 (f : Int), .int .i64 ((Sp.landK q : Nat) : Int), .bool true]) ∧ OwnI w'' w'.heap.size (.slice (some ⟨O, 0, none⟩) q.tail.length q.tail.length) (Sp.splitL q f d0 a jb) ∧ Below w'.heap.size w' w'') := hide fun w' hb => dsplit_any q _ _ _ _ s t f d0 a jb w' (unhide HV w' hb) hq.link hq.walk hq.chk (by have := hq.n0; omega) (by have := hq.n1; omega) hs
  have HCp : Hid (∀ w', Below (w.heap.size + 2) ((w.alloc (.cells #[.int .i64 q.n, .slice ta q.tail.length tc, .slice na q.next.length nc, .slice ca q.cap.length cc] 25)).alloc (.cells #[.slice none 0 0, .slice none 0 0, .int .i64 0] 54)) w' → Ints w' (.slice ca q.cap.length cc) q.cap) := hide fun w' hb => (unhide HV w' hb).cap
  have HAr : Hid (∀ w' O, Below (w.heap.size + 2) ((w.alloc (.cells #[.int .i64 q.n, .slice ta q.tail.length tc, .slice na q.next.length nc, .slice ca q.cap.length cc] 25)).alloc (.cells #[.slice none 0 0, .slice none 0 0, .int .i64 0] 54)) w' → Ints w' (.slice (some ⟨O, 0, none⟩) q.tail.length q.tail.length) (Sp.splitL q f d0 a jb) → Calls Try.prog 40 #[.agg #[.slice (some ⟨O, 0, none⟩) q.tail.length q.tail.length, .slice none 0 0, .int .i64 ((Sp.landK q : Nat) : Int)], .slice ca q.cap.length cc] w' fun e w'' => ∃ v, e = .returned v ∧ OwnA w'' w'.heap.size v (Sp.rimL (Sp.splitL q f d0 a jb) q.cap q.tail.length) ∧ Below w'.heap.size w' w'') := hide fun w' O hb hI => rmarcs_any (Sp.splitL q f d0 a jb) q.cap _ _ ((Sp.landK q : Nat) : Int) q.tail.length w' hI (unhide HCp w' hb) (Sp.splitL_len q f d0 a jb) hq.link.cp hq.link.ev (by have := hq.le; omega) (fun d hd => (hq.rng hs hd).1)
  have HFr : Hid (∀ w' v, ArcsI w' v (Sp.rimL (Sp.splitL q f d0 a jb) q.cap q.tail.length) → Calls Try.prog 39 #[.int .i64 (((Sp.landK q : Nat) : Int) + 1), v, .int .i64 (f : Int)] w' fun e w'' => ∃ G D, e = .returned (.slice (some ⟨G, 0, none⟩) (Sp.landK q + 1) (Sp.landK q + 1)) ∧ w'.heap.size ≤ G ∧ RowAt w'' G (Sp.landK q + 1) D ∧ Below w'.heap.size w' w'' ∧ Sp.Short 1152921504606846976 (Sp.rimL (Sp.splitL q f d0 a jb) q.cap q.tail.length) f (Sp.landK q + 1) D ∧ ∀ v, v < Sp.landK q + 1 → D v ≠ 1152921504606846976 → D v < 1152921504606846976) := hide fun w' v hA => by
    have h := from_any (Sp.landK q + 1) _ f v w' hA (hq.sndL hs) (hq.posL _ _) (by have := hq.flt hs; omega) (by have := hq.kle; omega)
    rwa [show ((Sp.landK q + 1 : Nat) : Int) = ((Sp.landK q : Nat) : Int) + 1 by omega] at h
  have HM := hide (show q.tail.length ≤ 48 from hq.le)
  clear hv' hq hs
  have hbz := Below.refl (w.heap.size + 2) ((w.alloc (.cells #[.int .i64 q.n, .slice ta q.tail.length tc, .slice na q.next.length nc, .slice ca q.cap.length cc] 25)).alloc (.cells #[.slice none 0 0, .slice none 0 0, .int .i64 0] 54))
  obtain ⟨x0, x1, x2, x3⟩ := unhide HFX _ hbz
  obtain ⟨P, hP⟩ : ∃ P : Ending → World → Prop, P = fun e w' => ∃ O G D, e = .returned (.tuple #[.agg #[.slice (some ⟨O, 0, none⟩) q.tail.length q.tail.length, .slice (some ⟨G, 0, none⟩) (Sp.landK q + 1) (Sp.landK q + 1), .int .i64 ((Sp.landK q : Nat) : Int)], .int .i64 0]) ∧ OwnI w' w.heap.size (.slice (some ⟨O, 0, none⟩) q.tail.length q.tail.length) (Sp.splitL q f d0 a jb) ∧ w.heap.size ≤ G ∧ RowAt w' G (Sp.landK q + 1) D ∧ Below w.heap.size w w' ∧ Sp.Short 1152921504606846976 (Sp.rimR (Sp.splitL q f d0 a jb) q.cap q.tail.length) f (Sp.landK q + 1) D ∧ ∀ v, v < Sp.landK q + 1 → D v ≠ 1152921504606846976 → D v < 1152921504606846976 := ⟨_, rfl⟩
  rw [← hP]
  have HP := hide hP
  clear hP
  go_enter Try.func27, Try.ntmps27
  go_wp2_with fail
  go_at_call 37
  refine (unhide HIs _ hbz).mono ?_
  rintro e wa ⟨rfl, hlwa⟩
  have hbwa := Below.trans hbz (hlwa.mono (by have h1 := Below.size hbz; have h2 := unhide HS2; omega))
  clear x0 x1 x2 x3
  obtain ⟨x0, x1, x2, x3⟩ := unhide HFX _ hbwa
  go_wp2_with fail
  go_at_call 37
  refine (unhide HIt _ hbwa).mono ?_
  rintro e wb ⟨rfl, hlwb⟩
  have hbwb := Below.trans hbwa (hlwb.mono (by have h1 := Below.size hbwa; have h2 := unhide HS2; omega))
  clear x0 x1 x2 x3
  obtain ⟨x0, x1, x2, x3⟩ := unhide HFX _ hbwb
  go_wp2_with fail
  go_at_call 38
  refine (unhide HSp _ hbwb).mono ?_
  rintro e wd ⟨O, rfl, hOd, hld⟩
  have hbwd := Below.trans hbwb (hld.mono (by have h1 := Below.size hbwb; have h2 := unhide HS2; omega))
  have hszd : w.heap.size + 2 ≤ wd.heap.size := (by have h1 := Below.size hbwd; have h2 := unhide HS2; omega)
  have HO0 := hide (own_base hOd (B' := w.heap.size + 2) (by have h1 := Below.size hbwb; have h2 := unhide HS2; omega))
  obtain ⟨wl, hwl⟩ : ∃ wl, wl = wd.alloc (.cells #[.slice (some ⟨O, 0, none⟩) q.tail.length q.tail.length, .slice none 0 0, .int .i64 ((Sp.landK q : Nat) : Int)] 54) := ⟨_, rfl⟩
  have hbdl : Below wd.heap.size wd wl := by rw [hwl]; exact (Below.refl _ _).alloc (Nat.le_refl _) _
  have hsl : wl.heap.size = wd.heap.size + 1 := by rw [hwl]; simp
  have h13 : wl.heap[wd.heap.size]? = some (.cells #[.slice (some ⟨O, 0, none⟩) q.tail.length q.tail.length, .slice none 0 0, .int .i64 ((Sp.landK q : Nat) : Int)] 54) := by rw [hwl]; exact heap_alloc_new _ _
  have hbwl := Below.trans hbwd (hbdl.mono hszd)
  have HL13 : Hid (∀ w', Below wl.heap.size wl w' → w'.heap[wd.heap.size]? = some (.cells #[.slice (some ⟨O, 0, none⟩) q.tail.length q.tail.length, .slice none 0 0, .int .i64 ((Sp.landK q : Nat) : Int)] 54)) := hide fun w' hb => (hb.block _ (by omega)).trans h13
  have HArl := hide (unhide HAr wl O hbwl (OwnI.ints (own_below hOd hbdl)))
  have HBd := hide hbwd
  have HBl := hide (And.intro hbwl (And.intro hbdl (show wd.heap.size + 1 ≤ wl.heap.size by omega)))
  have y0 : wl.cell? ⟨wd.heap.size, 0, none⟩ = some (.slice (some ⟨O, 0, none⟩) q.tail.length q.tail.length) := by rw [cell_of_row _ _ _ _ _ _ h13]; rfl
  have y1 : wl.cell? ⟨wd.heap.size, 1, none⟩ = some (.slice none 0 0) := by rw [cell_of_row _ _ _ _ _ _ h13]; rfl
  have y2 : wl.cell? ⟨wd.heap.size, 2, none⟩ = some (.int .i64 ((Sp.landK q : Nat) : Int)) := by rw [cell_of_row _ _ _ _ _ _ h13]; rfl
  clear x0 x1 x2 x3
  obtain ⟨x0, x1, x2, x3⟩ := unhide HFX _ hbwl
  clear hbz hlwa hbwa hlwb hbwb hld hbwd hbdl hsl h13 hbwl hOd HSp HAr HCp HIs HIt
  go_upto_region 9 with fail
  rw [← hwl]
  clear hwl
  go_wp2_with fail
  go_at_call 40
  refine (unhide HArl).mono ?_
  rintro e we ⟨av, rfl, hA, hle⟩
  have HAI := hide hA.arcs
  have HBe := hide (And.intro (Below.trans (unhide HBl).1 (hle.mono (by have := (unhide HBl).2.2; omega))) (And.intro hle (Nat.le_trans (unhide HBl).2.2 hle.size)))
  clear hA hle HArl x0 x1 x2 x3 y0 y1 y2
  go_wp2_with fail
  go_at_call 39
  refine (unhide HFr we av (unhide HAI)).mono ?_
  rintro e wf ⟨G, D, rfl, hG, hrow, hlf, hsh, hbd⟩
  have hle := (unhide HBe).2.1
  have hblf : Below wl.heap.size wl wf := hle.trans (hlf.mono hle.size)
  have e13 := unhide HL13 wf hblf
  have HDD := hide (And.intro hsh hbd)
  have hGd : wd.heap.size + 1 ≤ G := Nat.le_trans (unhide HBe).2.2 hG
  have y1 : wf.cell? ⟨wd.heap.size, 1, none⟩ = some (.slice none 0 0) := by rw [cell_of_row _ _ _ _ _ _ e13]; rfl
  have yf : ∀ k, wf.frozen? ⟨wd.heap.size, k, none⟩ = false := fun k => by simp only [World.frozen?, e13]; rfl
  have hbdf : Below wd.heap.size wd wf := (unhide HBl).2.1.trans (hblf.mono (unhide HBl).2.1.size)
  have HBf := hide (And.intro hbdf (And.intro hrow e13))
  have Hszd := hide hszd
  clear hle hblf hbdf hlf hsh hbd hrow e13 HFr HAI HBe HL13 HBl hszd
  go_upto_region 10 with fail
  have e14 : (wf.setCell ⟨wd.heap.size, 1, none⟩ (.slice (some ⟨G, 0, none⟩) (Sp.landK q + 1) (Sp.landK q + 1))).heap[wd.heap.size]? = some (.cells #[.slice (some ⟨O, 0, none⟩) q.tail.length q.tail.length, .slice (some ⟨G, 0, none⟩) (Sp.landK q + 1) (Sp.landK q + 1), .int .i64 ((Sp.landK q : Nat) : Int)] 54) := by
    simp only [World.setCell, Array.getElem?_modify, if_pos, (unhide HBf).2.2]; rfl
  have hbdz : Below wd.heap.size wd (wf.setCell ⟨wd.heap.size, 1, none⟩ (.slice (some ⟨G, 0, none⟩) (Sp.landK q + 1) (Sp.landK q + 1))) := (unhide HBf).1.setCell (p := ⟨wd.heap.size, 1, none⟩) (Nat.le_refl _) _
  have hrz : RowAt (wf.setCell ⟨wd.heap.size, 1, none⟩ (.slice (some ⟨G, 0, none⟩) (Sp.landK q + 1) (Sp.landK q + 1))) G (Sp.landK q + 1) D := (unhide HBf).2.1.set_ne (by omega) _ _ _
  generalize wf.setCell ⟨wd.heap.size, 1, none⟩ (.slice (some ⟨G, 0, none⟩) (Sp.landK q + 1) (Sp.landK q + 1)) = wz at *
  have hbwd : Below (w.heap.size + 2) ((w.alloc (.cells #[.int .i64 q.n, .slice ta q.tail.length tc, .slice na q.next.length nc, .slice ca q.cap.length cc] 25)).alloc (.cells #[.slice none 0 0, .slice none 0 0, .int .i64 0] 54)) wd := unhide HBd
  have HB := hide (Below.trans hbwd (hbdz.mono (unhide Hszd)))
  have HOz := hide (own_below (unhide HO0) hbdz)
  have HRz := hide hrz
  have y0 : wz.cell? ⟨wd.heap.size, 0, none⟩ = some (.slice (some ⟨O, 0, none⟩) q.tail.length q.tail.length) := by rw [cell_of_row _ _ _ _ _ _ e14]; rfl
  have y1 : wz.cell? ⟨wd.heap.size, 1, none⟩ = some (.slice (some ⟨G, 0, none⟩) (Sp.landK q + 1) (Sp.landK q + 1)) := by rw [cell_of_row _ _ _ _ _ _ e14]; rfl
  have y2 : wz.cell? ⟨wd.heap.size, 2, none⟩ = some (.int .i64 ((Sp.landK q : Nat) : Int)) := by rw [cell_of_row _ _ _ _ _ _ e14]; rfl
  obtain ⟨z0, z1, z2, zf⟩ := unhide HGX _ (unhide HB)
  have HZ : Hid (∀ w', Below (w.heap.size + 2) ((w.alloc (.cells #[.int .i64 q.n, .slice ta q.tail.length tc, .slice na q.next.length nc, .slice ca q.cap.length cc] 25)).alloc (.cells #[.slice none 0 0, .slice none 0 0, .int .i64 0] 54)) w' → w'.heap[w.heap.size + 1]? = some (.cells #[.slice none 0 0, .slice none 0 0, .int .i64 0] 54)) := hide fun w' hb => survey_z w _ _ _ _ w' hb
  have z1' := fun v : Value => show (wz.setCell ⟨w.heap.size + 1, 0, none⟩ v).cell? ⟨w.heap.size + 1, 1, none⟩ = some (.slice none 0 0) by rw [cell_set_ne (by omega)]; exact z1
  have z2' := fun v v' : Value => show ((wz.setCell ⟨w.heap.size + 1, 0, none⟩ v).setCell ⟨w.heap.size + 1, 1, none⟩ v').cell? ⟨w.heap.size + 1, 2, none⟩ = some (.int .i64 0) by rw [cell_set_ne (by omega), cell_set_ne (by omega)]; exact z2
  clear e14 hbdz hrz hbwd
  go_wp2
  have hOF : OwnI ((((wz.setCell ⟨w.heap.size + 1, 0, none⟩ (.slice (some ⟨O, 0, none⟩) q.tail.length q.tail.length)).setCell ⟨w.heap.size + 1, 1, none⟩ (.slice (some ⟨G, 0, none⟩) (Sp.landK q + 1) (Sp.landK q + 1))).setCell ⟨w.heap.size + 1, 2, none⟩ (.int .i64 ((Sp.landK q : Nat) : Int)))) (w.heap.size + 2) (.slice (some ⟨O, 0, none⟩) q.tail.length q.tail.length) (Sp.splitL q f d0 a jb) := own_store (own_store (own_store (unhide HOz) (Nat.lt_succ_self _) _ _) (Nat.lt_succ_self _) _ _) (Nat.lt_succ_self _) _ _
  have hRF : RowAt ((((wz.setCell ⟨w.heap.size + 1, 0, none⟩ (.slice (some ⟨O, 0, none⟩) q.tail.length q.tail.length)).setCell ⟨w.heap.size + 1, 1, none⟩ (.slice (some ⟨G, 0, none⟩) (Sp.landK q + 1) (Sp.landK q + 1))).setCell ⟨w.heap.size + 1, 2, none⟩ (.int .i64 ((Sp.landK q : Nat) : Int)))) G (Sp.landK q + 1) D := (((unhide HRz).set_ne (by have := unhide Hszd; omega) _ _ _).set_ne (by have := unhide Hszd; omega) _ _ _).set_ne (by have := unhide Hszd; omega) _ _ _
  have hfin : ((((wz.setCell ⟨w.heap.size + 1, 0, none⟩ (.slice (some ⟨O, 0, none⟩) q.tail.length q.tail.length)).setCell ⟨w.heap.size + 1, 1, none⟩ (.slice (some ⟨G, 0, none⟩) (Sp.landK q + 1) (Sp.landK q + 1))).setCell ⟨w.heap.size + 1, 2, none⟩ (.int .i64 ((Sp.landK q : Nat) : Int)))).heap[w.heap.size + 1]? = some (.cells #[.slice (some ⟨O, 0, none⟩) q.tail.length q.tail.length, .slice (some ⟨G, 0, none⟩) (Sp.landK q + 1) (Sp.landK q + 1), .int .i64 ((Sp.landK q : Nat) : Int)] 54) := land_set (unhide HZ _ (unhide HB)) _ _ _
  have hbf : Below w.heap.size w ((((wz.setCell ⟨w.heap.size + 1, 0, none⟩ (.slice (some ⟨O, 0, none⟩) q.tail.length q.tail.length)).setCell ⟨w.heap.size + 1, 1, none⟩ (.slice (some ⟨G, 0, none⟩) (Sp.landK q + 1) (Sp.landK q + 1))).setCell ⟨w.heap.size + 1, 2, none⟩ (.int .i64 ((Sp.landK q : Nat) : Int)))) := ((((unhide HW _ (unhide HB)).setCell (p := ⟨w.heap.size + 1, 0, none⟩) (Nat.le_succ _) _).setCell (p := ⟨w.heap.size + 1, 1, none⟩) (Nat.le_succ _) _).setCell (p := ⟨w.heap.size + 1, 2, none⟩) (Nat.le_succ _) _)
  generalize (((wz.setCell ⟨w.heap.size + 1, 0, none⟩ (.slice (some ⟨O, 0, none⟩) q.tail.length q.tail.length)).setCell ⟨w.heap.size + 1, 1, none⟩ (.slice (some ⟨G, 0, none⟩) (Sp.landK q + 1) (Sp.landK q + 1))).setCell ⟨w.heap.size + 1, 2, none⟩ (.int .i64 ((Sp.landK q : Nat) : Int))) = WF at *
  have r0 : WF.cell? ⟨w.heap.size + 1, 0, none⟩ = some (.slice (some ⟨O, 0, none⟩) q.tail.length q.tail.length) := by rw [cell_of_row _ _ _ _ _ _ hfin]; rfl
  have r1 : WF.cell? ⟨w.heap.size + 1, 1, none⟩ = some (.slice (some ⟨G, 0, none⟩) (Sp.landK q + 1) (Sp.landK q + 1)) := by rw [cell_of_row _ _ _ _ _ _ hfin]; rfl
  have r2 : WF.cell? ⟨w.heap.size + 1, 2, none⟩ = some (.int .i64 ((Sp.landK q : Nat) : Int)) := by rw [cell_of_row _ _ _ _ _ _ hfin]; rfl
  refine bodyPost_ret (v := .tuple #[.agg #[.slice (some ⟨O, 0, none⟩) q.tail.length q.tail.length, .slice (some ⟨G, 0, none⟩) (Sp.landK q + 1) (Sp.landK q + 1), .int .i64 ((Sp.landK q : Nat) : Int)], .int .i64 0]) (by simp [results, Try.results27, go_sem, r0, r1, r2]) rfl ?_
  rw [unhide HP]
  exact ⟨O, G, D, rfl, own_base hOF (by omega), by have := unhide Hszd; omega, hRF, hbf, Sp.rim_short (unhide HDD).1, (unhide HDD).2⟩
end Go.Proofs.Ytoegjnolccabjaa


/- rim: Heights, Flow. -/
namespace Go.Proofs.Ytoegjnolccabjaa
open Go Go.RowKit

/-- The error of two vertices. -/
noncomputable def Sp.rimE (q : Sp.Net) (s t : Int) : Int := if ¬ ((0 ≤ s ∧ s < q.n) ∧ (0 ≤ t ∧ t < q.n)) then 3 else if s = t then 9 else if (Sp.shared q s t).2 = true then 0 else 10
theorem Sp.wk_nn {L : List Sp.Arc} {s : Nat} (hp : ∀ a ∈ L, 0 ≤ a.l) : ∀ m v x, Sp.Wk L s m v x → 0 ≤ x
  | 0, v, x, hw => by
    obtain ⟨_, rfl⟩ := hw
    exact Int.le_refl _
  | m + 1, v, x, ⟨a, ha, _, hw⟩ => by
    have h1 := Sp.wk_nn hp m a.f _ hw
    have h2 := hp a ha
    omega
theorem Sp.short_nn {L : List Sp.Arc} {s n : Nat} {D : Nat → Int} (h : Sp.Short 1152921504606846976 L s n D) (hp : ∀ a ∈ L, 0 ≤ a.l) {v : Nat} (hv : v < n) : 0 ≤ D v := by
  by_cases e : D v = 1152921504606846976
  · rw [e]; decide
  · obtain ⟨m, hm⟩ := h.att v hv e
    exact Sp.wk_nn hp m v _ hm
theorem survey_err (q : Sp.Net) (v tv nv cv : Value) (s t : Int) (w : World) (hv : NetI w v q tv nv cv) (hq : Sp.RimQ q) (he : Sp.rimE q s t ≠ 0) :
    Calls Try.prog 27 #[v, .int .i64 s, .int .i64 t] w fun e w' => e = .returned (.tuple #[.agg #[.slice none 0 0, .slice none 0 0, .int .i64 0], .int .i64 (Sp.rimE q s t)]) ∧ Below w.heap.size w w' := by
  by_cases h0 : 0 ≤ s ∧ s < q.n
  · by_cases h1 : 0 ≤ t ∧ t < q.n
    · by_cases hst : s = t
      · rw [show Sp.rimE q s t = 9 by unfold Sp.rimE; rw [if_neg (fun hh => hh ⟨h0, h1⟩), if_pos hst]]
        exact survey_bad2 q v tv nv cv s t w hv h0 h1 hst
      · have hsh : (Sp.shared q s t).2 = false := by
          cases hh : (Sp.shared q s t).2 with
          | false => rfl
          | true => exact absurd (by unfold Sp.rimE; rw [if_neg (fun hh => hh ⟨h0, h1⟩), if_neg hst, if_pos hh]) he
        rw [show Sp.rimE q s t = 10 by unfold Sp.rimE; rw [if_neg (fun hh => hh ⟨h0, h1⟩), if_neg hst, if_neg (by rw [hsh]; decide)]]
        exact survey_bad3 q v tv nv cv s t w hv h0 h1 hst hq.link hq.chk (by have := hq.n0; omega) (by have := hq.n1; omega) hsh
    · rw [show Sp.rimE q s t = 3 by unfold Sp.rimE; rw [if_pos (fun hh => h1 hh.2)]]
      exact survey_bad1 q v tv nv cv s t w hv h0 h1
  · rw [show Sp.rimE q s t = 3 by unfold Sp.rimE; rw [if_pos (fun hh => h0 hh.1)]]
    exact survey_bad0 q v tv nv cv s t w hv h0
set_option maxRecDepth 100000 in
set_option maxHeartbeats 4000000 in
theorem rmheights_err (q : Sp.Net) (v tv nv cv : Value) (s t : Int) (w : World) (hv : NetI w v q tv nv cv) (hq : Sp.RimQ q) (he : Sp.rimE q s t ≠ 0) :
    Calls Try.prog 12 #[v, .int .i64 s, .int .i64 t] w fun e w' => e = .returned (.tuple #[.slice none 0 0, .int .i64 (Sp.rimE q s t)]) ∧ Below w.heap.size w w' := by
  obtain ⟨rfl, h1, h2, h3⟩ := hv
  obtain ⟨ta, tc, rfl, -, -⟩ := h1.form
  obtain ⟨na, nc, rfl, -, -⟩ := h2.form
  obtain ⟨ca, cc, rfl, -, -⟩ := h3.form
  obtain ⟨W1, hW1⟩ : ∃ W1, W1 = w.alloc (.cells #[.int .i64 q.n, .slice ta q.tail.length tc, .slice na q.next.length nc, .slice ca q.cap.length cc] 25) := ⟨_, rfl⟩
  have hb1 : Below w.heap.size w W1 := by rw [hW1]; exact (Below.refl _ w).alloc (Nat.le_refl _) _
  have hs1 : W1.heap.size = w.heap.size + 1 := by rw [hW1]; simp
  have hv1 : NetI W1 (.agg #[.int .i64 q.n, .slice ta q.tail.length tc, .slice na q.next.length nc, .slice ca q.cap.length cc]) q (.slice ta q.tail.length tc) (.slice na q.next.length nc) (.slice ca q.cap.length cc) := NetI.below ⟨rfl, h1, h2, h3⟩ hb1
  have e1 : W1.heap[w.heap.size]? = some (.cells #[.int .i64 q.n, .slice ta q.tail.length tc, .slice na q.next.length nc, .slice ca q.cap.length cc] 25) := by rw [hW1]; exact heap_alloc_new _ _
  have x0 : W1.cell? ⟨w.heap.size, 0, none⟩ = some (.int .i64 q.n) := by rw [cell_of_row _ _ _ _ _ _ e1]; rfl
  have x1 : W1.cell? ⟨w.heap.size, 1, none⟩ = some (.slice ta q.tail.length tc) := by rw [cell_of_row _ _ _ _ _ _ e1]; rfl
  have x2 : W1.cell? ⟨w.heap.size, 2, none⟩ = some (.slice na q.next.length nc) := by rw [cell_of_row _ _ _ _ _ _ e1]; rfl
  have x3 : W1.cell? ⟨w.heap.size, 3, none⟩ = some (.slice ca q.cap.length cc) := by rw [cell_of_row _ _ _ _ _ _ e1]; rfl
  have HC := hide (survey_err q _ _ _ _ s t W1 hv1 hq he)
  have HB1 := hide (And.intro hb1 (show w.heap.size ≤ W1.heap.size by omega))
  obtain ⟨P, hP⟩ : ∃ P : Ending → World → Prop, P = fun e w' => e = .returned (.tuple #[.slice none 0 0, .int .i64 (Sp.rimE q s t)]) ∧ Below w.heap.size w w' := ⟨_, rfl⟩
  rw [← hP]
  have HP := hide hP
  clear hP e1 hv1 hs1 hb1 h1 h2 h3
  go_enter Try.func12, Try.ntmps12
  go_upto_region 1 with fail
  rw [← hW1]
  clear hW1
  go_wp2_with fail
  go_at_call 27
  refine (unhide HC).mono ?_
  clear x0 x1 x2 x3
  rintro e w2 ⟨rfl, hb2⟩
  have HB := hide (And.intro ((unhide HB1).1.trans (hb2.mono (unhide HB1).2)) (show w.heap.size ≤ w2.heap.size from Nat.le_trans (unhide HB1).2 hb2.size))
  have heb : (Sp.rimE q s t == 0) = false := beq_eq_false_iff_ne.2 he
  clear hb2 HB1 HC hq he
  generalize Sp.rimE q s t = E at *
  go_wp2
  rw [unhide HP]
  exact ⟨rfl, (unhide HB).1.alloc (unhide HB).2 _⟩
set_option maxRecDepth 100000 in
set_option maxHeartbeats 4000000 in
theorem rmflow_err (q : Sp.Net) (v tv nv cv : Value) (s t : Int) (w : World) (hv : NetI w v q tv nv cv) (hq : Sp.RimQ q) (he : Sp.rimE q s t ≠ 0) :
    Calls Try.prog 14 #[v, .int .i64 s, .int .i64 t] w fun e w' => e = .returned (.tuple #[.slice none 0 0, .int .i64 0, .int .i64 (Sp.rimE q s t)]) ∧ Below w.heap.size w w' := by
  obtain ⟨rfl, h1, h2, h3⟩ := hv
  obtain ⟨ta, tc, rfl, -, -⟩ := h1.form
  obtain ⟨na, nc, rfl, -, -⟩ := h2.form
  obtain ⟨ca, cc, rfl, -, -⟩ := h3.form
  obtain ⟨W1, hW1⟩ : ∃ W1, W1 = w.alloc (.cells #[.int .i64 q.n, .slice ta q.tail.length tc, .slice na q.next.length nc, .slice ca q.cap.length cc] 25) := ⟨_, rfl⟩
  have hb1 : Below w.heap.size w W1 := by rw [hW1]; exact (Below.refl _ w).alloc (Nat.le_refl _) _
  have hs1 : W1.heap.size = w.heap.size + 1 := by rw [hW1]; simp
  have hv1 : NetI W1 (.agg #[.int .i64 q.n, .slice ta q.tail.length tc, .slice na q.next.length nc, .slice ca q.cap.length cc]) q (.slice ta q.tail.length tc) (.slice na q.next.length nc) (.slice ca q.cap.length cc) := NetI.below ⟨rfl, h1, h2, h3⟩ hb1
  have e1 : W1.heap[w.heap.size]? = some (.cells #[.int .i64 q.n, .slice ta q.tail.length tc, .slice na q.next.length nc, .slice ca q.cap.length cc] 25) := by rw [hW1]; exact heap_alloc_new _ _
  have x0 : W1.cell? ⟨w.heap.size, 0, none⟩ = some (.int .i64 q.n) := by rw [cell_of_row _ _ _ _ _ _ e1]; rfl
  have x1 : W1.cell? ⟨w.heap.size, 1, none⟩ = some (.slice ta q.tail.length tc) := by rw [cell_of_row _ _ _ _ _ _ e1]; rfl
  have x2 : W1.cell? ⟨w.heap.size, 2, none⟩ = some (.slice na q.next.length nc) := by rw [cell_of_row _ _ _ _ _ _ e1]; rfl
  have x3 : W1.cell? ⟨w.heap.size, 3, none⟩ = some (.slice ca q.cap.length cc) := by rw [cell_of_row _ _ _ _ _ _ e1]; rfl
  have HC := hide (survey_err q _ _ _ _ s t W1 hv1 hq he)
  have HB1 := hide (And.intro hb1 (show w.heap.size ≤ W1.heap.size by omega))
  obtain ⟨P, hP⟩ : ∃ P : Ending → World → Prop, P = fun e w' => e = .returned (.tuple #[.slice none 0 0, .int .i64 0, .int .i64 (Sp.rimE q s t)]) ∧ Below w.heap.size w w' := ⟨_, rfl⟩
  rw [← hP]
  have HP := hide hP
  clear hP e1 hv1 hs1 hb1 h1 h2 h3
  go_enter Try.func14, Try.ntmps14
  go_upto_region 1 with fail
  rw [← hW1]
  clear hW1
  go_wp2_with fail
  go_at_call 27
  refine (unhide HC).mono ?_
  clear x0 x1 x2 x3
  rintro e w2 ⟨rfl, hb2⟩
  have HB := hide (And.intro ((unhide HB1).1.trans (hb2.mono (unhide HB1).2)) (show w.heap.size ≤ w2.heap.size from Nat.le_trans (unhide HB1).2 hb2.size))
  have heb : (Sp.rimE q s t == 0) = false := beq_eq_false_iff_ne.2 he
  clear hb2 HB1 HC hq he
  generalize Sp.rimE q s t = E at *
  go_wp2
  rw [unhide HP]
  go_ret3
  exact ⟨rfl, (unhide HB).1.alloc (unhide HB).2 _⟩
set_option maxRecDepth 100000 in
set_option maxHeartbeats 8000000 in
theorem rmflow_yes (q : Sp.Net) (v tv nv cv : Value) (s t : Int) (w : World) (hv : NetI w v q tv nv cv) (hq : Sp.RimQ q) (f d0 a jb : Nat) (h0 : 0 ≤ s ∧ s < q.n) (h1' : 0 ≤ t ∧ t < q.n) (hst : s ≠ t) (hs : Sp.SplitQ q s t f d0 a jb) :
    Calls Try.prog 14 #[v, .int .i64 s, .int .i64 t] w fun e w' => ∃ lv D, e = .returned (.tuple #[lv, .int .i64 (D (Sp.landK q)), .int .i64 0]) ∧ OwnI w' w.heap.size lv ((List.range q.tail.length).map (Sp.rise (Sp.splitL q f d0 a jb) ((List.range (Sp.landK q + 1)).map D))) ∧ Below w.heap.size w w' ∧ Sp.Short 1152921504606846976 (Sp.rimR (Sp.splitL q f d0 a jb) q.cap q.tail.length) f (Sp.landK q + 1) D ∧ ∀ v, v < Sp.landK q + 1 → D v ≠ 1152921504606846976 → D v < 1152921504606846976 := by
  have HEa : Hid (∀ w' O G D, OwnI w' 0 (.slice (some ⟨O, 0, none⟩) q.tail.length q.tail.length) (Sp.splitL q f d0 a jb) → RowAt w' G (Sp.landK q + 1) D → (Sp.Short 1152921504606846976 (Sp.rimR (Sp.splitL q f d0 a jb) q.cap q.tail.length) f (Sp.landK q + 1) D ∧ ∀ v, v < Sp.landK q + 1 → D v ≠ 1152921504606846976 → D v < 1152921504606846976) → Calls Try.prog 29 #[.agg #[.slice (some ⟨O, 0, none⟩) q.tail.length q.tail.length, .slice (some ⟨G, 0, none⟩) (Sp.landK q + 1) (Sp.landK q + 1), .int .i64 ((Sp.landK q : Nat) : Int)], .func (.func 30) #[.agg #[.slice (some ⟨O, 0, none⟩) q.tail.length q.tail.length, .slice (some ⟨G, 0, none⟩) (Sp.landK q + 1) (Sp.landK q + 1), .int .i64 ((Sp.landK q : Nat) : Int)]] #[]] w' fun e w'' => ∃ lv, e = .returned lv ∧ OwnI w'' w'.heap.size lv ((List.range q.tail.length).map (Sp.rise (Sp.splitL q f d0 a jb) ((List.range (Sp.landK q + 1)).map D))) ∧ Below w'.heap.size w' w'') := hide fun w' O G D h1 h2 h3 => by
    refine rmeach_any (Sp.splitL q f d0 a jb) ((List.range (Sp.landK q + 1)).map D) _ _ ((Sp.landK q : Nat) : Int) q.tail.length (Sp.landK q + 1) w' h1.ints (h2.ints (by have := hq.kle; omega)) (Sp.splitL_len q f d0 a jb) (by simp) hq.link.ev (by have := hq.le; omega) (fun d hd => hq.rng hs hd) (fun j hj => ?_)
    rw [List.getD_eq_getElem?_getD, List.getElem?_map, List.getElem?_range hj]
    have h4 := Sp.short_nn h3.1 (hq.posR _ _) hj
    refine ⟨h4, ?_⟩
    show D j ≤ _
    by_cases e : D j = 1152921504606846976
    · omega
    · have := h3.2 j hj e; omega
  obtain ⟨rfl, h1, h2, h3⟩ := hv
  obtain ⟨ta, tc, rfl, -, -⟩ := h1.form
  obtain ⟨na, nc, rfl, -, -⟩ := h2.form
  obtain ⟨ca, cc, rfl, -, -⟩ := h3.form
  obtain ⟨W1, hW1⟩ : ∃ W1, W1 = w.alloc (.cells #[.int .i64 q.n, .slice ta q.tail.length tc, .slice na q.next.length nc, .slice ca q.cap.length cc] 25) := ⟨_, rfl⟩
  have hb1 : Below w.heap.size w W1 := by rw [hW1]; exact (Below.refl _ w).alloc (Nat.le_refl _) _
  have hs1 : W1.heap.size = w.heap.size + 1 := by rw [hW1]; simp
  have hv1 : NetI W1 (.agg #[.int .i64 q.n, .slice ta q.tail.length tc, .slice na q.next.length nc, .slice ca q.cap.length cc]) q (.slice ta q.tail.length tc) (.slice na q.next.length nc) (.slice ca q.cap.length cc) := NetI.below ⟨rfl, h1, h2, h3⟩ hb1
  have e1 : W1.heap[w.heap.size]? = some (.cells #[.int .i64 q.n, .slice ta q.tail.length tc, .slice na q.next.length nc, .slice ca q.cap.length cc] 25) := by rw [hW1]; exact heap_alloc_new _ _
  have x0 : W1.cell? ⟨w.heap.size, 0, none⟩ = some (.int .i64 q.n) := by rw [cell_of_row _ _ _ _ _ _ e1]; rfl
  have x1 : W1.cell? ⟨w.heap.size, 1, none⟩ = some (.slice ta q.tail.length tc) := by rw [cell_of_row _ _ _ _ _ _ e1]; rfl
  have x2 : W1.cell? ⟨w.heap.size, 2, none⟩ = some (.slice na q.next.length nc) := by rw [cell_of_row _ _ _ _ _ _ e1]; rfl
  have x3 : W1.cell? ⟨w.heap.size, 3, none⟩ = some (.slice ca q.cap.length cc) := by rw [cell_of_row _ _ _ _ _ _ e1]; rfl
  have HC := hide (survey_yes q _ _ _ _ s t W1 hv1 f d0 a jb h0 h1' hst hq hs)
  have HB1 := hide (And.intro hb1 (show w.heap.size ≤ W1.heap.size by omega))
  obtain ⟨P, hP⟩ : ∃ P : Ending → World → Prop, P = fun e w' => ∃ lv D, e = .returned (.tuple #[lv, .int .i64 (D (Sp.landK q)), .int .i64 0]) ∧ OwnI w' w.heap.size lv ((List.range q.tail.length).map (Sp.rise (Sp.splitL q f d0 a jb) ((List.range (Sp.landK q + 1)).map D))) ∧ Below w.heap.size w w' ∧ Sp.Short 1152921504606846976 (Sp.rimR (Sp.splitL q f d0 a jb) q.cap q.tail.length) f (Sp.landK q + 1) D ∧ ∀ v, v < Sp.landK q + 1 → D v ≠ 1152921504606846976 → D v < 1152921504606846976 := ⟨_, rfl⟩
  rw [← hP]
  have HP := hide hP
  clear hP e1 hv1 hs1 hb1 h1 h2 h3
  go_enter Try.func14, Try.ntmps14
  go_upto_region 1 with fail
  rw [← hW1]
  clear hW1
  go_wp2_with fail
  go_at_call 27
  refine (unhide HC).mono ?_
  clear x0 x1 x2 x3
  rintro e w2 ⟨O, G, D, rfl, hO, hG, hrow, hb2, hD⟩
  have hw2 : w.heap.size ≤ w2.heap.size := Nat.le_trans (unhide HB1).2 hb2.size
  obtain ⟨W2, hW2⟩ : ∃ W2, W2 = w2.alloc (.cells #[.slice (some ⟨O, 0, none⟩) q.tail.length q.tail.length, .slice (some ⟨G, 0, none⟩) (Sp.landK q + 1) (Sp.landK q + 1), .int .i64 ((Sp.landK q : Nat) : Int)] 54) := ⟨_, rfl⟩
  have hb22 : Below w2.heap.size w2 W2 := by rw [hW2]; exact (Below.refl _ _).alloc (Nat.le_refl _) _
  have hs2 : W2.heap.size = w2.heap.size + 1 := by rw [hW2]; simp
  have e9 : W2.heap[w2.heap.size]? = some (.cells #[.slice (some ⟨O, 0, none⟩) q.tail.length q.tail.length, .slice (some ⟨G, 0, none⟩) (Sp.landK q + 1) (Sp.landK q + 1), .int .i64 ((Sp.landK q : Nat) : Int)] 54) := by rw [hW2]; exact heap_alloc_new _ _
  have HS9 : Hid (∀ w', Below W2.heap.size W2 w' → w'.cell? ⟨w2.heap.size, 0, none⟩ = some (.slice (some ⟨O, 0, none⟩) q.tail.length q.tail.length) ∧ w'.cell? ⟨w2.heap.size, 1, none⟩ = some (.slice (some ⟨G, 0, none⟩) (Sp.landK q + 1) (Sp.landK q + 1)) ∧ w'.cell? ⟨w2.heap.size, 2, none⟩ = some (.int .i64 ((Sp.landK q : Nat) : Int)) ∧ w'.cell? ⟨G, Sp.landK q, none⟩ = some (.int .i64 (D (Sp.landK q)))) := hide fun w' hb => by
    have e := (hb.block w2.heap.size (by omega)).trans e9
    refine ⟨?_, ?_, ?_, ((hrow.below hb22).below hb).cell (Nat.lt_succ_self _)⟩ <;> rw [cell_of_row _ _ _ _ _ _ e] <;> rfl
  have HE : Hid (∀ w', Below W2.heap.size W2 w' → Calls Try.prog 29 #[.agg #[.slice (some ⟨O, 0, none⟩) q.tail.length q.tail.length, .slice (some ⟨G, 0, none⟩) (Sp.landK q + 1) (Sp.landK q + 1), .int .i64 ((Sp.landK q : Nat) : Int)], .func (.func 30) #[.agg #[.slice (some ⟨O, 0, none⟩) q.tail.length q.tail.length, .slice (some ⟨G, 0, none⟩) (Sp.landK q + 1) (Sp.landK q + 1), .int .i64 ((Sp.landK q : Nat) : Int)]] #[]] w' fun e w'' => ∃ lv, e = .returned lv ∧ OwnI w'' w'.heap.size lv ((List.range q.tail.length).map (Sp.rise (Sp.splitL q f d0 a jb) ((List.range (Sp.landK q + 1)).map D))) ∧ Below w'.heap.size w' w'') := hide fun w' hb => unhide HEa w' O G D (own_below (own_below (own_base hO (Nat.zero_le _)) hb22) hb) ((hrow.below hb22).below hb) hD
  have HB2 := hide (((unhide HB1).1.trans (hb2.mono (unhide HB1).2)).trans (hb22.mono hw2))
  have HW2 : Hid (w2.heap.size + 1 = W2.heap.size ∧ w.heap.size ≤ W2.heap.size) := hide ⟨hs2.symm, by omega⟩
  have HD := hide hD
  have hKI : ((Sp.landK q : Nat) : Int) < ((Sp.landK q : Nat) : Int) + 1 := by omega
  clear hb2 HB1 HC hq hs hO hG hrow hD hb22 hs2 e9 HEa hw2
  go_upto_region 4 with fail
  rw [← hW2]
  clear hW2
  have hbq := (Below.refl W2.heap.size W2).drew
  refine wp_region_G (fun w' => w'.cell? ⟨w2.heap.size, 0, none⟩ = some (.slice (some ⟨O, 0, none⟩) q.tail.length q.tail.length) ∧ w'.cell? ⟨w2.heap.size, 1, none⟩ = some (.slice (some ⟨G, 0, none⟩) (Sp.landK q + 1) (Sp.landK q + 1)) ∧ w'.cell? ⟨w2.heap.size, 2, none⟩ = some (.int .i64 ((Sp.landK q : Nat) : Int)) ∧ w'.cell? ⟨G, Sp.landK q, none⟩ = some (.int .i64 (D (Sp.landK q)))) (fun _ => false) (by kernel_rfl) (unhide HS9 _ hbq) (fun hHeld => ?_)
  generalize W2.drew = wq at *
  refine wpAnyG_take (v := ?_) 0 (by rfl) (by kernel_rfl) (by kernel_rfl) (by kernel_rfl) (by kernel_rfl) (fun _ _ _ h => h) (Or.inl ⟨by rfl, ?_⟩) (by assumption) ?_
  rotate_left
  · (intro w' hSw; (try dsimp only at hSw); (try simp only [List.getElem_toArray, List.getElem_cons_zero]); go_simp; try (with_reducible rfl))
  simp only [Act.put, List.getElem_toArray, List.getElem_cons_zero, List.setIfInBounds_toArray, List.set_cons_zero, List.set_cons_succ]
  refine wpAnyG_take (v := ?_) 1 (by rfl) (by kernel_rfl) (by kernel_rfl) (by kernel_rfl) (by kernel_rfl) (fun _ _ _ h => h) (Or.inl ⟨by rfl, ?_⟩) (by assumption) ?_
  rotate_left
  · (intro w' hSw; (try dsimp only at hSw); (try simp only [List.getElem_toArray, List.getElem_cons_succ, List.getElem_cons_zero]); go_simp; try (with_reducible rfl))
  simp only [Act.put, List.getElem_toArray, List.getElem_cons_succ, List.getElem_cons_zero, List.setIfInBounds_toArray, List.set_cons_zero, List.set_cons_succ]
  refine wpAnyG_take (v := ?_) 2 (by rfl) (by kernel_rfl) (by kernel_rfl) (by kernel_rfl) (by kernel_rfl) (fun _ _ _ h => h) (Or.inl ⟨by rfl, ?_⟩) (by assumption) ?_
  rotate_left
  · (intro w' hSw; (try dsimp only at hSw); (try simp only [List.getElem_toArray, List.getElem_cons_succ, List.getElem_cons_zero]); go_simp; try (with_reducible rfl))
  simp only [Act.put, List.getElem_toArray, List.getElem_cons_succ, List.getElem_cons_zero, List.setIfInBounds_toArray, List.set_cons_zero, List.set_cons_succ]
  refine wpAnyG_take (v := ?_) 4 (by rfl) (by kernel_rfl) (by kernel_rfl) (by kernel_rfl) (by kernel_rfl) (fun _ _ _ h => h) (Or.inl ⟨by rfl, ?_⟩) (by assumption) ?_
  rotate_left
  · (intro w' hSw; (try dsimp only at hSw); (try simp only [List.getElem_toArray, List.getElem_cons_succ, List.getElem_cons_zero]); go_simp; try (with_reducible rfl))
  simp only [Act.put, List.getElem_toArray, List.getElem_cons_succ, List.getElem_cons_zero, List.setIfInBounds_toArray, List.set_cons_zero, List.set_cons_succ]
  refine wpAnyG_take (v := ?_) 5 (by rfl) (by kernel_rfl) (by kernel_rfl) (by kernel_rfl) (by kernel_rfl) (fun _ _ _ h => h) (Or.inl ⟨by rfl, ?_⟩) (by assumption) ?_
  rotate_left
  · (intro w' hSw; (try dsimp only at hSw); (try simp only [List.getElem_toArray, List.getElem_cons_succ, List.getElem_cons_zero]); go_simp; try (with_reducible rfl))
  simp only [Act.put, List.getElem_toArray, List.getElem_cons_succ, List.getElem_cons_zero, List.setIfInBounds_toArray, List.set_cons_zero, List.set_cons_succ]
  refine wpAnyG_take (v := ?_) 6 (by rfl) (by kernel_rfl) (by kernel_rfl) (by kernel_rfl) (by kernel_rfl) (fun _ _ _ h => h) (Or.inl ⟨by rfl, ?_⟩) (by assumption) ?_
  rotate_left
  · (intro w' hSw; (try dsimp only at hSw); (try simp only [List.getElem_toArray, List.getElem_cons_succ, List.getElem_cons_zero]); go_simp; try (with_reducible rfl))
  simp only [Act.put, List.getElem_toArray, List.getElem_cons_succ, List.getElem_cons_zero, List.setIfInBounds_toArray, List.set_cons_zero, List.set_cons_succ]
  refine wpAnyG_take (v := ?_) 7 (by rfl) (by kernel_rfl) (by kernel_rfl) (by kernel_rfl) (by kernel_rfl) (fun _ _ _ h => h) (Or.inl ⟨by rfl, ?_⟩) (by assumption) ?_
  rotate_left
  · (intro w' hSw; (try dsimp only at hSw); (try simp only [List.getElem_toArray, List.getElem_cons_succ, List.getElem_cons_zero]); go_simp; try (with_reducible rfl))
  simp only [Act.put, List.getElem_toArray, List.getElem_cons_succ, List.getElem_cons_zero, List.setIfInBounds_toArray, List.set_cons_zero, List.set_cons_succ]
  refine wpAnyG_take (v := ?_) 8 (by rfl) (by kernel_rfl) (by kernel_rfl) (by kernel_rfl) (by kernel_rfl) (fun _ _ _ h => h) (Or.inl ⟨by rfl, ?_⟩) (by assumption) ?_
  rotate_left
  · (intro w' hSw; (try dsimp only at hSw); (try simp only [List.getElem_toArray, List.getElem_cons_succ, List.getElem_cons_zero]); go_simp; try (with_reducible rfl))
  simp only [Act.put, List.getElem_toArray, List.getElem_cons_succ, List.getElem_cons_zero, List.setIfInBounds_toArray, List.set_cons_zero, List.set_cons_succ]
  refine wpAnyG_take (v := ?_) 9 (by rfl) (by kernel_rfl) (by kernel_rfl) (by kernel_rfl) (by kernel_rfl) (fun _ _ _ h => h) (Or.inl ⟨by rfl, ?_⟩) (by assumption) ?_
  rotate_left
  · (intro w' hSw; (try dsimp only at hSw); (try simp only [List.getElem_toArray, List.getElem_cons_succ, List.getElem_cons_zero]); go_simp; try (with_reducible rfl))
  simp only [Act.put, List.getElem_toArray, List.getElem_cons_succ, List.getElem_cons_zero, List.setIfInBounds_toArray, List.set_cons_zero, List.set_cons_succ]
  refine wpAnyG_ready [3] (by kernel_rfl) (by simp) ?_
  refine AllReadyG.cons 3 (by rfl) (fun K hK => ?_) ?_
  · simp only [List.getElem_toArray, List.getElem_cons_succ, List.getElem_cons_zero]
    go_simp
    go_at_call 29
    refine (unhide HE _ hbq).mono ?_
    rintro e we ⟨lv, rfl, hO, hle⟩
    have hbe : Below W2.heap.size W2 we := Below.trans hbq (hle.mono hbq.size)
    have hszq := hbq.size
    refine hK.out _ _ (unhide HS9 _ hbe) (fun _ => ?_)
    clear hK K
    try simp only [Act.put, List.setIfInBounds_toArray, List.set_cons_zero, List.set_cons_succ]
    refine wpAnyG_take (v := ?_) 10 (by rfl) (by kernel_rfl) (by kernel_rfl) (by kernel_rfl) (by kernel_rfl) (fun _ _ _ h => h) (Or.inl ⟨by rfl, ?_⟩) (by assumption) ?_
    rotate_left
    · (intro w' hSw; (try dsimp only at hSw); (try simp only [List.getElem_toArray, List.getElem_cons_succ, List.getElem_cons_zero]); go_simp; try (with_reducible rfl))
    simp only [Act.put, List.getElem_toArray, List.getElem_cons_succ, List.getElem_cons_zero, List.setIfInBounds_toArray, List.set_cons_zero, List.set_cons_succ]
    refine wpAnyG_take (v := ?_) 11 (by rfl) (by kernel_rfl) (by kernel_rfl) (by kernel_rfl) (by kernel_rfl) (fun _ _ _ h => h) (Or.inl ⟨by rfl, ?_⟩) (by assumption) ?_
    rotate_left
    · (intro w' hSw; (try dsimp only at hSw); (try simp only [List.getElem_toArray, List.getElem_cons_succ, List.getElem_cons_zero]); go_simp; try (with_reducible rfl))
    simp only [Act.put, List.getElem_toArray, List.getElem_cons_succ, List.getElem_cons_zero, List.setIfInBounds_toArray, List.set_cons_zero, List.set_cons_succ]
    refine wpAnyG_take (v := ?_) 12 (by rfl) (by kernel_rfl) (by kernel_rfl) (by kernel_rfl) (by kernel_rfl) (fun _ _ _ h => h) (Or.inl ⟨by rfl, ?_⟩) (by assumption) ?_
    rotate_left
    · (intro w' hSw; (try dsimp only at hSw); (try simp only [List.getElem_toArray, List.getElem_cons_succ, List.getElem_cons_zero]); go_simp; try (with_reducible rfl))
    simp only [Act.put, List.getElem_toArray, List.getElem_cons_succ, List.getElem_cons_zero, List.setIfInBounds_toArray, List.set_cons_zero, List.set_cons_succ]
    refine wpAnyG_done (by kernel_rfl) ?_ _
    refine NoPanic.normal ?_
    clear hHeld
    have HFi := hide (And.intro (own_base hO (B' := w.heap.size) (by have := unhide HW2; omega)) ((unhide HB2).trans (hbe.mono (unhide HW2).2)))
    clear hO hle hbe hbq
    go_wp2
    rw [unhide HP]
    go_ret3
    exact ⟨lv, D, rfl, (unhide HFi).1, (unhide HFi).2, unhide HD⟩
  exact AllReadyG.nil
end Go.Proofs.Ytoegjnolccabjaa


/- Ways along tight arcs (P601: Way). -/
namespace Go.Proofs.Ytoegjnolccabjaa
open Go Go.RowKit

/-- Whether the way from v may go on by arc i. -/
def Sp.tt (L : List Sp.Arc) (y : Nat → Int) (v i : Nat) : Bool := decide ((L.getD i Sp.arc0).f = v) && (decide (y ((L.getD i Sp.arc0).t * 2) + (L.getD i Sp.arc0).l = y (v * 2)) && decide (y ((L.getD i Sp.arc0).t * 2 + 1) + 1 = y (v * 2 + 1)))
def Sp.WayIs (L : List Sp.Arc) (y : Nat → Int) (t : Nat) : Nat → List Nat → Prop
  | v, [] => v = t
  | v, i :: r => v ≠ t ∧ i < L.length ∧ Sp.tt L y v i = true ∧ (∀ k, k < i → Sp.tt L y v k = false) ∧ Sp.WayIs L y t (L.getD i Sp.arc0).t r
theorem Sp.tt_iff {L : List Sp.Arc} {y : Nat → Int} {v i : Nat} : Sp.tt L y v i = true ↔ (L.getD i Sp.arc0).f = v ∧ y ((L.getD i Sp.arc0).t * 2) + (L.getD i Sp.arc0).l = y (v * 2) ∧ y ((L.getD i Sp.arc0).t * 2 + 1) + 1 = y (v * 2 + 1) := by
  unfold Sp.tt
  rw [Bool.and_eq_true, Bool.and_eq_true, decide_eq_true_eq, decide_eq_true_eq, decide_eq_true_eq]
/-- The row of costs that Way works with: from t on, against the arcs. -/
structure Sp.Tow (L : List Sp.Arc) (t n : Nat) (y : Nat → Int) : Prop where
  sh : Sp.Short 345876451382054092800 (Sp.pairL 300 (L.map Sp.sw)) t n (Sp.rk y)
  bd : Sp.Bd n n y
theorem Sp.Tow.on {L : List Sp.Arc} {t n : Nat} {y : Nat → Int} (h : Sp.Tow L t n y) (hn : n ≤ 200) (hL : ∀ a ∈ L, a.f < n ∧ a.t < n) {v : Nat} (hv : v < n) (hvt : v ≠ t) (hf : y (v * 2) ≠ 1152921504606846976) : ∃ i, i < L.length ∧ Sp.tt L y v i = true := by
  obtain ⟨m, hm⟩ := h.sh.att v hv (fun e => hf ((h.bd.far (by omega) hv).1 e))
  cases m with
  | zero => exact absurd hm.1 hvt
  | succ m =>
    obtain ⟨b, hb, hbt, hw⟩ := hm
    obtain ⟨a', ha', rfl⟩ := Sp.mem_pairL.1 hb
    obtain ⟨a, ha, rfl⟩ := List.mem_map.1 ha'
    have hbt' : a.f = v := hbt
    have h1 : Sp.Wk (Sp.pairL 300 (L.map Sp.sw)) t m a.t (Sp.rk y v - (300 * a.l + 1)) := hw
    obtain ⟨h2, h3⟩ := h.sh.low (by omega) m _ _ h1
    have h4 : Sp.rk y a.f ≤ Sp.rk y a.t + (300 * a.l + 1) := (h.sh.arc _ hb h2).2
    rw [hbt'] at h4
    have h5 : y (a.t * 2) ≠ 1152921504606846976 := fun e => h2 ((h.bd.far (by omega) (hL a ha).2).2 e)
    have b1 := h.bd v hv
    have b2 := h.bd a.t (hL a ha).2
    obtain ⟨i, hi, e⟩ := List.mem_iff_getElem.1 ha
    refine ⟨i, hi, Sp.tt_iff.2 ?_⟩
    have e2 : L.getD i Sp.arc0 = a := by rw [List.getD_eq_getElem?_getD, List.getElem?_eq_getElem hi]; exact e
    rw [e2]
    unfold Sp.rk at h3 h4
    refine ⟨hbt', ?_⟩
    rcases b1 with b1 | b1
    · exact absurd b1.1 hf
    · rcases b2 with b2 | b2
      · exact absurd b2.1 h5
      · omega
theorem Sp.Tow.root {L : List Sp.Arc} {t n : Nat} {y : Nat → Int} (h : Sp.Tow L t n y) (ht : t < n) : y (t * 2) = 0 ∧ y (t * 2 + 1) = 0 := by
  have h0 := h.sh.src
  have h1 := h.bd t ht
  unfold Sp.rk at h0
  rcases h1 with h1 | h1
  · omega
  · omega
theorem Sp.Tow.many {L : List Sp.Arc} {t n : Nat} {y : Nat → Int} (h : Sp.Tow L t n y) {v : Nat} (hv : v < n) : ∃ g : Nat, y (v * 2 + 1) = (g : Int) ∧ g ≤ n := by
  rcases h.bd v hv with h1 | h1
  · exact ⟨0, h1.2, Nat.zero_le _⟩
  · exact ⟨(y (v * 2 + 1)).toNat, by omega, by omega⟩
theorem Sp.WayIs.snoc {L : List Sp.Arc} {y : Nat → Int} {t s v i : Nat} {W : List Nat} (h : ∀ r, Sp.WayIs L y t v r → Sp.WayIs L y t s (W ++ r)) (hv : v ≠ t) (hi : i < L.length) (hb : Sp.tt L y v i = true) (hk : ∀ k, k < i → Sp.tt L y v k = false) : ∀ r, Sp.WayIs L y t (L.getD i Sp.arc0).t r → Sp.WayIs L y t s (W ++ [i] ++ r) := fun r hr => by
  rw [List.append_assoc]
  exact h (i :: r) ⟨hv, hi, hb, hk, hr⟩
/-- Of the same lengths there is one way. -/
theorem Sp.WayIs.uniq {L : List Sp.Arc} {y y' : Nat → Int} {t : Nat} (hy : ∀ v i, Sp.tt L y v i = Sp.tt L y' v i) : ∀ (W W' : List Nat) (v : Nat), Sp.WayIs L y t v W → Sp.WayIs L y' t v W' → W = W'
  | [], [], _, _, _ => rfl
  | [], i :: r, v, h, h' => absurd h h'.1
  | i :: r, [], v, h, h' => absurd h' h.1
  | i :: r, i' :: r', v, h, h' => by
    obtain ⟨-, h2, h3, h4, h5⟩ := h
    obtain ⟨-, k2, k3, k4, k5⟩ := h'
    have e : i = i' := by
      rcases Nat.lt_trichotomy i i' with e | e | e
      · have := k4 i e; rw [← hy, h3] at this; cases this
      · exact e
      · have := h4 i' e; rw [hy, k3] at this; cases this
    subst e
    rw [Sp.WayIs.uniq hy r r' _ h5 k5]
end Go.Proofs.Ytoegjnolccabjaa


/- Passes as the program and the reference make them (P601: Any). -/
namespace Go.Proofs.Ytoegjnolccabjaa
open Go Go.RowKit

def Sp.still (L : List Sp.Arc) (D : Nat → Int) : Prop := ∀ a ∈ L, D a.f ≠ 1152921504606846976 → ¬ D a.f + a.l < D a.t
theorem Sp.rxs_append (far : Int) : ∀ (L L' : List Sp.Arc) (D : Nat → Int), Sp.rxs far (L ++ L') D = Sp.rxs far L' (Sp.rxs far L D)
  | [], _, _ => rfl
  | a :: L, L', D => Sp.rxs_append far L L' (Sp.rx far D a)
theorem Sp.take_arc {L : List Sp.Arc} {i : Nat} (hi : i < L.length) : L.take (i + 1) = L.take i ++ [L.getD i Sp.arc0] := by
  rw [List.take_succ_eq_append_getElem hi, List.getD_eq_getElem?_getD, List.getElem?_eq_getElem hi]; rfl
theorem Sp.pq_fst (L : List Sp.Arc) (D Y : Nat → Int) : ∀ i, i ≤ L.length → (Sp.pq L D Y i).1 = Sp.rxs 1152921504606846976 (L.take i) D
  | 0, _ => by simp [Sp.pq, Sp.rxs]
  | i + 1, hi => by
    rw [Sp.take_arc (by omega), Sp.rxs_append, ← Sp.pq_fst L D Y i (by omega), Sp.pq]
    show _ = Sp.rx _ _ _
    generalize Sp.pq L D Y i = q
    generalize L.getD i Sp.arc0 = a
    funext v
    unfold Sp.rx
    by_cases h : q.1 a.f ≠ 1152921504606846976 ∧ q.1 a.f + a.l < q.1 a.t
    · rw [if_pos h]
      show Sp.upd q.1 a.t _ v = _
      unfold Sp.upd
      by_cases e : v = a.t
      · rw [if_pos e, if_pos ⟨e, h⟩]
      · rw [if_neg e, if_neg (fun hh => e hh.1)]
    · rw [if_neg h, if_neg (fun hh => h hh.2)]
/-- The row behind k passes. -/
def Sp.pk (L : List Sp.Arc) (s k : Nat) : Nat → Int := Sp.ps 1152921504606846976 L (Sp.d0 1152921504606846976 s) k
theorem Sp.pk_succ (L : List Sp.Arc) (s k : Nat) (Y : Nat → Int) : (Sp.pq L (Sp.pk L s k) Y L.length).1 = Sp.pk L s (k + 1) := by
  rw [Sp.pq_fst L _ _ _ (Nat.le_refl _), List.take_of_length_le (Nat.le_refl _)]; rfl
theorem Sp.pk_bnd {n s : Nat} {L : List Sp.Arc} (hS : Sp.Snd n L) : ∀ k, Sp.Bnd n (((k * L.length : Nat) : Int) * 1099511627776) (Sp.pk L s k)
  | 0 => fun v _ => by
    show Sp.d0 _ s v = _ ∨ (_ ≤ Sp.d0 _ s v ∧ Sp.d0 _ s v ≤ _)
    unfold Sp.d0
    by_cases h : v = s
    · rw [if_pos h]; exact .inr ⟨by simp, by simp⟩
    · rw [if_neg h]; exact .inl rfl
  | k + 1 => by
    have h := Sp.Bnd.pq (fun _ => 0) hS (by omega) (Sp.pk_bnd (s := s) hS k) L.length (Nat.le_refl _)
    rw [Sp.pk_succ] at h
    have e : (((k * L.length : Nat) : Int) * 1099511627776) + (L.length : Int) * 1099511627776 = ((((k + 1) * L.length : Nat) : Int) * 1099511627776) := by
      rw [Nat.succ_mul]; push_cast; omega
    rw [← e]; exact h
theorem Sp.pk_small {k m : Nat} (hk : k ≤ 200) (hm : m ≤ 1000) : (((k * m : Nat) : Int) * 1099511627776) + (m : Int) * 1099511627776 < 1152921504606846976 := by
  have h1 : k * m ≤ 200 * m := Nat.mul_le_mul_right _ hk
  generalize k * m = x at *
  omega
/-- Where a pass changes nothing the row is one of shortest ways. -/
theorem Sp.pk_short {n s k : Nat} {L : List Sp.Arc} (hS : Sp.Snd n L) (hs : s < n) (hk : k ≤ 200) (h : Sp.still L (Sp.pk L s k)) : Sp.Short 1152921504606846976 L s n (Sp.pk L s k) := by
  refine Sp.short_still hs (Sp.Att.ps (by decide) (fun a ha => (hS.at_ a ha).1) (Sp.att0 (by decide)) k) h (fun a ha hne => ?_)
  have h1 := Sp.pk_small hk hS.few
  obtain ⟨h2, -, h3, h4⟩ := hS.at_ a ha
  by_cases h0 : L.length = 0
  · rw [List.length_eq_zero_iff.1 h0] at ha; cases ha
  · rcases Sp.pk_bnd (s := s) hS k a.f h2 with e | e
    · exact absurd e hne
    · have h5 := e.2
      show Sp.pk L s k a.f + a.l < _
      have h6 : 1 ≤ (L.length : Int) := by omega
      generalize ((k * L.length : Nat) : Int) = x at *
      omega
/-- Where there is one the last pass changes nothing. -/
theorem Sp.pk_still {n s k : Nat} {L : List Sp.Arc} {D : Nat → Int} (hS : Sp.Snd n L) (hs : s < n) (hD : Sp.Short 1152921504606846976 L s n D) (hlt : ∀ v, D v ≠ 1152921504606846976 → D v < 1152921504606846976) (hk : n ≤ k + 1) : Sp.still L (Sp.pk L s k) := fun a ha hne hlt2 => by
  obtain ⟨h1, h2, -⟩ := hS.at_ a ha
  have e1 := Sp.ps_short hD (by decide) (fun a ha => ⟨(hS.at_ a ha).1, (hS.at_ a ha).2.1⟩) hlt hs hk h1
  have e2 := Sp.ps_short hD (by decide) (fun a ha => ⟨(hS.at_ a ha).1, (hS.at_ a ha).2.1⟩) hlt hs hk h2
  unfold Sp.pk at hne hlt2
  rw [e1] at hne hlt2
  rw [e2] at hlt2
  have := (hD.arc a ha hne).2
  omega
/-- Beyond the places nothing is asked. -/
theorem Sp.Short.ex {n s : Nat} {L : List Sp.Arc} {D : Nat → Int} (hL : ∀ a ∈ L, a.f < n ∧ a.t < n) (hs : s < n) (hD : Sp.Short 1152921504606846976 L s n D) (hb : ∀ v, v < n → D v ≠ 1152921504606846976 → D v < 1152921504606846976) : ∃ D, Sp.Short 1152921504606846976 L s n D ∧ ∀ v, D v ≠ 1152921504606846976 → D v < 1152921504606846976 := by
  refine ⟨fun v => if v < n then D v else 1152921504606846976, ⟨?_, fun a ha hne => ?_, fun v hv hne => ?_⟩, fun v hne => ?_⟩
  · show (if s < n then D s else _) = 0
    rw [if_pos hs]; exact hD.src
  · have h1 := hL a ha
    rw [if_pos h1.1] at hne
    show (if a.t < n then D a.t else _) ≠ _ ∧ (if a.t < n then D a.t else _) ≤ (if a.f < n then D a.f else _) + a.l
    rw [if_pos h1.1, if_pos h1.2]
    exact hD.arc a ha hne
  · rw [if_pos hv] at hne
    obtain ⟨m, hm⟩ := hD.att v hv hne
    refine ⟨m, ?_⟩
    show Sp.Wk L s m v (if v < n then D v else _)
    rw [if_pos hv]; exact hm
  · have hne1 : (if v < n then D v else (1152921504606846976 : Int)) ≠ 1152921504606846976 := hne
    show (if v < n then D v else (1152921504606846976 : Int)) < 1152921504606846976
    by_cases hv : v < n
    · rw [if_pos hv] at hne1 ⊢; exact hb v hv hne1
    · rw [if_neg hv] at hne1; exact absurd rfl hne1
end Go.Proofs.Ytoegjnolccabjaa


/- The reference's heights. -/
namespace Go.Proofs.Ytoegjnolccabjaa
open Go Go.RowKit

def Sp.endsE (q : Sp.Net) (s t : Int) : Int := if ¬ ((0 ≤ s ∧ s < q.n) ∧ (0 ≤ t ∧ t < q.n)) then 3 else if s = t then 9 else 0
theorem Sp.ends_ok {q : Sp.Net} {s t : Int} (h : Sp.endsE q s t = 0) : (0 ≤ s ∧ s < q.n) ∧ (0 ≤ t ∧ t < q.n) ∧ s ≠ t ∧ ((Sp.shared q s t).2 = false → Sp.rimE q s t = 10) := by
  unfold Sp.endsE at h
  unfold Sp.rimE
  split at h
  · cases h
  · rename_i h1
    split at h
    · cases h
    · rename_i h2
      have h3 := Classical.not_not.1 h1
      refine ⟨h3.1, h3.2, h2, fun h4 => ?_⟩
      rw [if_neg h1, if_neg h2, if_neg (by rw [h4]; decide)]
end Go.Proofs.Ytoegjnolccabjaa


