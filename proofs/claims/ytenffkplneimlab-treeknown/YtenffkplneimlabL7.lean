/- What the proof needs, part 7. -/
import Derived.Test.YtenffkplneimlabL6
/- A plane net is told so; a plane net turned is plane. -/
namespace Go.Proofs.Ytenffkplneimlab
open Go Go.RowKit

def Sp.turnC (tl : List Int) : List (List Int) → List Int → Bool
  | [], _ => true
  | r :: c, bg => if tl.getD (r.getD 0 0).toNat 0 ∈ bg then false
      else if r.all (fun d => tl.getD d.toNat 0 == tl.getD (r.getD 0 0).toNat 0) then Sp.turnC tl c (bg ++ [tl.getD (r.getD 0 0).toNat 0]) else false
theorem Sp.turnGo_cyc (tl : List Int) : ∀ (c : List (List Int)) (a bg : List Int), (∀ r ∈ c, r ≠ []) → Sp.turnGo tl (a ++ c.flatten) (Sp.offs a.length c) bg = Sp.turnC tl c bg
  | [], _, _, _ => rfl
  | r :: c, a, bg, h => by
    have e : a ++ (r :: c).flatten = a ++ (r ++ c.flatten) := by simp
    have hr := h r (by simp)
    have hg : (a ++ (r ++ c.flatten)).getD a.length 0 = r.getD 0 0 := by
      rw [List.getD_eq_getElem?_getD, List.getElem?_append_right (Nat.le_refl _), Nat.sub_self]
      cases r with
      | nil => exact absurd rfl hr
      | cons x r => rfl
    show (if tl.getD ((a ++ (r :: c).flatten).getD a.length 0).toNat 0 ∈ bg then false
      else if (Sp.piece (a ++ (r :: c).flatten) (a.length, a.length + r.length)).all (fun d => tl.getD d.toNat 0 == tl.getD ((a ++ (r :: c).flatten).getD a.length 0).toNat 0) then Sp.turnGo tl (a ++ (r :: c).flatten) (Sp.offs (a.length + r.length) c) (bg ++ [tl.getD ((a ++ (r :: c).flatten).getD a.length 0).toNat 0]) else false) = _
    rw [e, Sp.piece_at, hg]
    have ih := Sp.turnGo_cyc tl c (a ++ r) (bg ++ [tl.getD (r.getD 0 0).toNat 0]) (fun r' hr' => h r' (by simp [hr']))
    rw [List.length_append, List.append_assoc] at ih
    rw [ih]
    rfl
theorem rounds_head {st : List Int} (hp : Sp.Perm st) {d : Nat} (hd : d < st.length) : (Sp.rounds st d (Sp.per st d)).getD 0 0 = (d : Int) ∧ Sp.rounds st d (Sp.per st d) ≠ [] := by
  have h1 := (hp.per hd).1
  constructor
  · rw [Sp.getD_eq _ _ (by rw [Sp.rounds_len]; omega)]
    simp [Sp.rounds, Sp.nth]
  · intro e
    have := congrArg List.length e
    rw [Sp.rounds_len] at this
    simp at this
    omega
theorem Sp.turnC_of {st tl : List Int} (hp : Sp.Perm st) (hT : ∀ i, i < st.length → tl.getD (Sp.fn st i) 0 = tl.getD i 0) (hS : ∀ i j, i < st.length → j < st.length → tl.getD i 0 = tl.getD j 0 → OrbF (Sp.fn st) i j) :
    ∀ f d row bg, d + f = st.length → Sp.Shut st row → (∀ b ∈ bg, ∃ i : Nat, i < st.length ∧ (i : Int) ∈ row ∧ tl.getD i 0 = b) → Sp.turnC tl (Sp.cyc st f d row) bg = true
  | 0, _, _, _, _, _, _ => rfl
  | f + 1, d, row, bg, hd, hs, hb => by
    have hdl : d < st.length := by omega
    rw [Sp.cyc]
    by_cases hm : (d : Int) ∈ row
    · rw [if_pos hm]
      exact Sp.turnC_of hp hT hS f (d + 1) row bg (by omega) hs hb
    · rw [if_neg hm, Sp.turnC, (rounds_head hp hdl).1, Int.toNat_natCast]
      have hnb : ¬ tl.getD d 0 ∈ bg := fun h => by
        obtain ⟨i, h1, h2, h3⟩ := hb _ h
        exact hm (hs.orb hp h1 h2 (hS i d h1 hdl h3))
      have hall : (Sp.rounds st d (Sp.per st d)).all (fun x => tl.getD x.toNat 0 == tl.getD d 0) = true := by
        rw [List.all_eq_true]
        intro x hx
        obtain ⟨j, rfl, m, rfl⟩ := (hp.mem_rounds hdl x).1 hx
        rw [Int.toNat_natCast, beq_iff_eq]
        clear hx
        induction m with
        | zero => rfl
        | succ m ih => exact (hT _ (hp.fnP.it hdl m)).trans ih
      rw [if_neg hnb, if_pos hall]
      refine Sp.turnC_of hp hT hS f (d + 1) _ _ (by omega) (hs.add hp hdl) (fun b hb' => ?_)
      rcases List.mem_append.1 hb' with h1 | h1
      · obtain ⟨i, h2, h3, h4⟩ := hb b h1
        exact ⟨i, h2, List.mem_append_left _ h3, h4⟩
      · rw [List.mem_singleton] at h1
        exact ⟨d, hdl, List.mem_append_right _ ((hp.mem_rounds hdl _).2 ⟨d, rfl, OrbF.refl _ _⟩), h1.symm⟩
theorem Sp.turning_of {q : Sp.Net} (hp : Sp.Perm q.next) (hT : ∀ i, i < q.next.length → q.tail.getD (Sp.fn q.next i) 0 = q.tail.getD i 0) (hS : ∀ i j, i < q.next.length → j < q.next.length → q.tail.getD i 0 = q.tail.getD j 0 → OrbF (Sp.fn q.next) i j) : Sp.turningB q = true := by
  unfold Sp.turningB
  rw [Sp.rndsD_cyc hp, Sp.rnds_cyc hp]
  have h := Sp.turnGo_cyc q.tail (Sp.cycs q.next) [] [] (fun r hr => by
    obtain ⟨e, he, rfl⟩ := Sp.cyc_pos hp _ 0 [] (by omega) r hr
    exact (rounds_head hp he).2)
  rw [List.nil_append] at h
  have h2 := Sp.turnC_of hp hT hS q.next.length 0 [] [] (by omega) (fun i _ h => by simp at h) (fun b hb => by simp at hb)
  show (Sp.turnGo q.tail (Sp.cycs q.next).flatten (Sp.offs ([] : List Int).length (Sp.cycs q.next)) [] && true) = true
  rw [h, Bool.and_true]
  exact h2
/-- The net seen from behind. -/
def Sp.seen (q : Sp.Net) : Sp.Net := ⟨q.n, q.tail, Sp.turnL q.next, q.cap⟩
theorem fn_tb {nx : List Int} (hp : Sp.Perm nx) (hev : nx.length % 2 = 0) {x : Nat} (hx : x < nx.length) : Sp.fn (Sp.behindL (Sp.turnL nx)) (Sp.oth (Sp.fn (Sp.behindL nx) x)) = Sp.oth x ∧ Sp.oth (Sp.fn (Sp.behindL nx) x) < nx.length := by
  have ho := oth_lt hx hev
  have h1 : Sp.fn (Sp.behindL nx) x = Sp.fn nx (Sp.oth x) := fn_behind nx x hx
  have h2 := hp.fnP.mp _ ho
  have h3 : Sp.oth (Sp.fn (Sp.behindL nx) x) < nx.length := by rw [h1]; exact oth_lt h2 hev
  refine ⟨?_, h3⟩
  rw [fn_behind _ _ (by rw [Sp.turnL_len]; exact h3), oth_oth, h1, Sp.fn_turn hp ho]
theorem orb_turn {st : List Int} (hp : Sp.Perm st) {g : Nat → Nat} (hg : ∀ x, x < st.length → g (Sp.oth (Sp.fn st x)) = Sp.oth x) {i : Nat} (hi : i < st.length) : ∀ m, OrbF g (Sp.oth (itf (Sp.fn st) i m)) (Sp.oth i)
  | 0 => OrbF.refl _ _
  | m + 1 => OrbF.trans ⟨1, hg _ (hp.fnP.it hi m)⟩ (orb_turn hp hg hi m)
theorem Sp.Plain.seen {q : Sp.Net} (hp : Sp.Perm q.next) (hl : q.next.length = q.tail.length) (hev : q.tail.length % 2 = 0) (h : Sp.Plain q) : Sp.Plain (Sp.seen q) := by
  have hmp : ∀ i, i < q.tail.length → Sp.fn q.next i < q.tail.length := fun i hi => by have := hp.fnP.mp i (by rw [hl]; exact hi); rw [hl] at this; exact this
  have hmpt : ∀ i, i < q.tail.length → Sp.fn (Sp.turnL q.next) i < q.tail.length := fun i hi => by have := hp.turn.fnP.mp i (by rw [Sp.turnL_len, hl]; exact hi); rw [Sp.turnL_len, hl] at this; exact this
  have hback : ∀ i, i < q.tail.length → ∀ m, OrbF (Sp.fn (Sp.turnL q.next)) (itf (Sp.fn q.next) i m) i := by
    intro i hi m
    induction m with
    | zero => exact OrbF.refl _ _
    | succ m ih =>
      have hb : itf (Sp.fn q.next) i m < q.next.length := hp.fnP.it (by rw [hl]; exact hi) m
      exact OrbF.trans ⟨1, Sp.fn_turn hp hb⟩ ih
  refine ⟨?_, ?_, h.conn⟩
  · show Cls q.tail.length (Sp.fn (Sp.turnL q.next)) (fun i => (q.tail.getD i 0).toNat) q.n.toNat
    refine ⟨h.vert.lt, h.vert.on, fun i hi => ?_, fun i j hi hj e => ?_⟩
    · have h1 := h.vert.inv _ (hmpt i hi)
      rw [Sp.fn_turn' hp (by rw [hl]; exact hi)] at h1
      exact h1.symm
    · obtain ⟨m, hm⟩ := h.vert.sep j i hj hi e.symm
      have := hback j hj m
      rw [hm] at this
      exact this
  · obtain ⟨lab, F, hf, hE⟩ := h.face
    have hbp := hp.behind (by rw [hl]; exact hev)
    have hbl : (Sp.behindL q.next).length = q.tail.length := by rw [Sp.behindL_len, hl]
    refine ⟨fun x => lab (Sp.oth x), F, ?_, hE⟩
    show Cls q.tail.length (Sp.fn (Sp.behindL (Sp.turnL q.next))) (fun x => lab (Sp.oth x)) F
    have hg : ∀ x, x < q.tail.length → Sp.fn (Sp.behindL (Sp.turnL q.next)) (Sp.oth (Sp.fn (Sp.behindL q.next) x)) = Sp.oth x := fun x hx => (fn_tb hp (by rw [hl]; exact hev) (by rw [hl]; exact hx)).1
    refine ⟨fun i hi => hf.lt _ (oth_lt hi hev), fun c hc => ?_, fun i hi => ?_, fun i j hi hj e => ?_⟩
    · obtain ⟨i, h1, h2⟩ := hf.on c hc
      exact ⟨Sp.oth i, oth_lt h1 hev, by show lab (Sp.oth (Sp.oth i)) = c; rw [oth_oth]; exact h2⟩
    · -- i is the other of what comes behind some dart
      obtain ⟨y, hy, ey⟩ := hbp.onto (j := Sp.oth i) (by rw [hbl]; exact oth_lt hi hev)
      rw [hbl] at hy
      have ei : i = Sp.oth (Sp.fn (Sp.behindL q.next) y) := by rw [ey, oth_oth]
      show lab (Sp.oth (Sp.fn (Sp.behindL (Sp.turnL q.next)) i)) = lab (Sp.oth i)
      rw [ei, hg y hy, oth_oth, oth_oth, hf.inv y hy]
    · obtain ⟨m, hm⟩ := hf.sep (Sp.oth j) (Sp.oth i) (oth_lt hj hev) (oth_lt hi hev) (show lab (Sp.oth j) = lab (Sp.oth i) from e.symm)
      have := orb_turn hbp (g := Sp.fn (Sp.behindL (Sp.turnL q.next))) (fun x hx => hg x (by rw [← hbl]; exact hx)) (i := Sp.oth j) (by rw [hbl]; exact oth_lt hj hev) m
      rw [hm, oth_oth, oth_oth] at this
      exact this
end Go.Proofs.Ytenffkplneimlab


/- The dual of a plane net is plane. -/
namespace Go.Proofs.Ytenffkplneimlab
open Go Go.RowKit

theorem Sp.behind_twice {nx : List Int} (hev : nx.length % 2 = 0) : Sp.behindL (Sp.behindL nx) = nx := by
  have hl : (Sp.behindL (Sp.behindL nx)).length = nx.length := by rw [Sp.behindL_len, Sp.behindL_len]
  refine List.ext_getElem hl fun i h1 h2 => ?_
  have ho := oth_lt h2 hev
  have e : (Sp.behindL (Sp.behindL nx)).getD i 0 = nx.getD i 0 := by
    rw [Sp.behindL_get _ _ (by rw [Sp.behindL_len]; exact h2), Sp.behindL_get _ _ ho, oth_oth]
  rw [Sp.getD_eq _ _ h1, Sp.getD_eq _ _ h2] at e
  exact e
/-- What is asked of a plane net, small enough for its dual to be one. -/
structure Sp.DualQ (q : Sp.Net) : Prop where
  link : Sp.LinkQ q
  le : q.tail.length ≤ 48
  l0 : 0 < q.tail.length
  n0 : 1 ≤ q.n
  n1 : q.n ≤ 60
  tb : ∀ x ∈ q.tail, 0 ≤ x ∧ x < q.n
  cb : ∀ x ∈ q.cap, 0 ≤ x ∧ x ≤ 2147483648
  pl : Sp.Plain q
theorem Sp.DualQ.fp {q : Sp.Net} (h : Sp.DualQ q) : Sp.Perm (Sp.behindL q.next) := h.link.pm.behind (by rw [h.link.nx]; exact h.link.ev)
theorem Sp.DualQ.bl {q : Sp.Net} (h : Sp.DualQ q) : (Sp.behindL q.next).length = q.tail.length := by rw [Sp.behindL_len, h.link.nx]
theorem Sp.DualQ.cls {q : Sp.Net} (h : Sp.DualQ q) : Cls q.tail.length (Sp.fn (Sp.behindL q.next)) (fun i => ((Sp.faces2 q).1.getD i 0).toNat) (Sp.faces2 q).2 := by
  have hst := (Sp.faces2_st h.link.pm h.link.nx h.link.ev).cls
  rw [h.bl] at hst
  exact hst
theorem Sp.DualQ.mp {q : Sp.Net} (h : Sp.DualQ q) : ∀ i, i < q.tail.length → Sp.fn (Sp.behindL q.next) i < q.tail.length := fun i hi => by
  have := h.fp.fnP.mp i (by rw [h.bl]; exact hi)
  rw [h.bl] at this; exact this
theorem Sp.DualQ.mpN {q : Sp.Net} (h : Sp.DualQ q) : ∀ i, i < q.tail.length → Sp.fn q.next i < q.tail.length := fun i hi => by
  have := h.link.pm.fnP.mp i (by rw [h.link.nx]; exact hi)
  rw [h.link.nx] at this; exact this
theorem Sp.DualQ.k1 {q : Sp.Net} (h : Sp.DualQ q) : 1 ≤ (Sp.faces2 q).2 := by have := h.cls.lt 0 h.l0; omega
theorem Sp.DualQ.euler {q : Sp.Net} (h : Sp.DualQ q) : q.n - ((q.tail.length / 2 : Nat) : Int) + (((Sp.faces2 q).2 : Nat) : Int) = 2 := by
  obtain ⟨lab, F, hf, hE⟩ := h.pl.face
  rw [h.cls.count h.mp hf]
  exact hE
/-- Labels, as numbers. -/
theorem Sp.DualQ.fb {q : Sp.Net} (h : Sp.DualQ q) {i : Nat} (hi : i < q.tail.length) : 0 ≤ (Sp.faces2 q).1.getD i 0 ∧ (Sp.faces2 q).1.getD i 0 < ((Sp.faces2 q).2 : Int) := by
  have hst := Sp.faces2_st h.link.pm h.link.nx h.link.ev
  have h1 := hst.done i (by rw [h.bl]; exact hi)
  have h2 := h.cls.lt i hi
  omega
theorem Sp.DualQ.turn {q : Sp.Net} (h : Sp.DualQ q) {d : Nat} (hd : d < q.tail.length) : (Sp.faces2 q).1.getD (Sp.fn q.next d) 0 = (Sp.faces2 q).1.getD (Sp.oth d) 0 := by
  have ho := oth_lt hd h.link.ev
  have e : Sp.fn (Sp.behindL q.next) (Sp.oth d) = Sp.fn q.next d := by
    unfold Sp.fn
    rw [Sp.behindL_get _ _ (by rw [h.link.nx]; exact ho), oth_oth]
  have h1 := h.cls.inv _ ho
  rw [e] at h1
  have h2 := h.fb (h.mpN d hd)
  have h3 := h.fb ho
  omega
theorem Sp.DualQ.about {q : Sp.Net} (h : Sp.DualQ q) {d : Nat} (hd : d < q.tail.length) (m : Nat) : Sp.Reach (Sp.faces2 q).1 ((Sp.faces2 q).1.getD d 0) ((Sp.faces2 q).1.getD (itf (Sp.fn q.next) d m) 0) := by
  have hF := Sp.faces2_len q
  have hb : ∀ m, itf (Sp.fn q.next) d m < q.tail.length := fun m => by
    have := h.link.pm.fnP.it (by rw [h.link.nx]; exact hd) m
    rw [h.link.nx] at this; exact this
  induction m with
  | zero => exact .refl _
  | succ m ih =>
    show Sp.Reach _ _ ((Sp.faces2 q).1.getD (Sp.fn q.next (itf (Sp.fn q.next) d m)) 0)
    rw [h.turn (hb m)]
    exact ih.step (by rw [hF]; exact hb m)
theorem Sp.DualQ.same {q : Sp.Net} (h : Sp.DualQ q) {d e : Nat} (hd : d < q.tail.length) (he : e < q.tail.length) (ht : q.tail.getD d 0 = q.tail.getD e 0) : Sp.Reach (Sp.faces2 q).1 ((Sp.faces2 q).1.getD d 0) ((Sp.faces2 q).1.getD e 0) := by
  obtain ⟨m, rfl⟩ := h.pl.vert.sep d e hd he (by show (q.tail.getD d 0).toNat = (q.tail.getD e 0).toNat; rw [ht])
  exact h.about hd m
theorem Sp.DualQ.all {q : Sp.Net} (h : Sp.DualQ q) {d : Nat} (hd : d < q.tail.length) {v : Int} (hr : Sp.Reach q.tail (q.tail.getD d 0) v) : ∀ e, e < q.tail.length → q.tail.getD e 0 = v → Sp.Reach (Sp.faces2 q).1 ((Sp.faces2 q).1.getD d 0) ((Sp.faces2 q).1.getD e 0) := by
  have hF := Sp.faces2_len q
  refine hr.ind (p := fun v => ∀ e, e < q.tail.length → q.tail.getD e 0 = v → Sp.Reach (Sp.faces2 q).1 ((Sp.faces2 q).1.getD d 0) ((Sp.faces2 q).1.getD e 0)) (fun e he hv => h.same hd he hv.symm) fun c hc _ ih e he hv => ?_
  have ho := oth_lt hc h.link.ev
  have h1 := (ih c hc rfl).step (by rw [hF]; exact hc)
  exact h1.trans (h.same ho he hv.symm)
theorem Sp.DualQ.plain {q : Sp.Net} (h : Sp.DualQ q) : Sp.Plain (Sp.dual q) := by
  have hF := Sp.faces2_len q
  have hk := h.k1
  have hn : (Sp.dual q).n = (((Sp.faces2 q).2 : Nat) : Int) := by show ((max (Sp.faces2 q).2 1 : Nat) : Int) = _; omega
  have ht : (Sp.dual q).tail = (Sp.faces2 q).1 := rfl
  have hx : (Sp.dual q).next = Sp.behindL q.next := rfl
  refine ⟨?_, ⟨fun i => (q.tail.getD i 0).toNat, q.n.toNat, ?_, ?_⟩, fun v h0 h1 => ?_⟩
  · rw [ht, hF, hx, hn, Int.toNat_natCast]
    exact h.cls
  · rw [ht, hF, hx, Sp.behind_twice (by rw [h.link.nx]; exact h.link.ev)]
    exact h.pl.vert
  · rw [hn, ht, hF]
    have := h.euler
    have := h.n0
    omega
  · rw [ht]
    rw [hn] at h1
    obtain ⟨x, hx1, hx2⟩ := h.cls.on 0 (by omega)
    obtain ⟨y, hy1, hy2⟩ := h.cls.on v.toNat (by omega)

    have bx := h.fb hx1
    have bY := h.fb hy1
    have ex : (Sp.faces2 q).1.getD x 0 = 0 := by omega
    have ey : (Sp.faces2 q).1.getD y 0 = v := by omega
    have tx := h.tb _ (Sp.getD_mem (l := q.tail) hx1)
    have ty := h.tb _ (Sp.getD_mem (l := q.tail) hy1)
    have r := ((h.pl.conn _ tx.1 tx.2).symm h.link.ev).trans (h.pl.conn _ ty.1 ty.2)
    have := h.all hx1 r y hy1 rfl
    rw [ex, ey] at this
    exact this
theorem Sp.DualQ.half {q : Sp.Net} (h : Sp.DualQ q) : (Sp.faces2 q).2 ≤ 48 := by have := Sp.faces2_le q; have := h.le; omega
theorem Sp.DualQ.dlink {q : Sp.Net} (h : Sp.DualQ q) : Sp.LinkQ (Sp.dual q) := by
  have hF := Sp.faces2_len q
  refine ⟨?_, ?_, ?_, ?_, h.fp⟩
  · show (Sp.behindL q.next).length = (Sp.faces2 q).1.length; rw [hF, h.bl]
  · show q.cap.length = (Sp.faces2 q).1.length; rw [hF, h.link.cp]
  · show (Sp.faces2 q).1.length ≤ 60; rw [hF]; exact h.link.le
  · show (Sp.faces2 q).1.length % 2 = 0; rw [hF]; exact h.link.ev
theorem Sp.DualQ.dtb {q : Sp.Net} (h : Sp.DualQ q) : ∀ x ∈ (Sp.dual q).tail, 0 ≤ x ∧ x < (Sp.dual q).n := by
  have hF := Sp.faces2_len q
  have hk := h.k1
  have hn : (Sp.dual q).n = (((Sp.faces2 q).2 : Nat) : Int) := by show ((max (Sp.faces2 q).2 1 : Nat) : Int) = _; omega
  intro x hx
  rw [hn]
  have hx' : x ∈ (Sp.faces2 q).1 := hx
  obtain ⟨i, hi, rfl⟩ := List.getElem_of_mem hx'
  have := h.fb (i := i) (by rw [← hF]; exact hi)
  rw [Sp.getD_eq _ _ hi] at this
  exact this
theorem Sp.DualQ.dn {q : Sp.Net} (h : Sp.DualQ q) : (Sp.dual q).n = (((Sp.faces2 q).2 : Nat) : Int) := by
  have hk := h.k1
  show ((max (Sp.faces2 q).2 1 : Nat) : Int) = _
  omega
theorem Sp.DualQ.dualQ {q : Sp.Net} (h : Sp.DualQ q) : Sp.DualQ (Sp.dual q) := by
  have hF := Sp.faces2_len q
  have hk := h.k1
  have hh := h.half
  refine ⟨h.dlink, ?_, ?_, ?_, ?_, h.dtb, h.cb, h.plain⟩
  · show (Sp.faces2 q).1.length ≤ 48; rw [hF]; exact h.le
  · show 0 < (Sp.faces2 q).1.length; rw [hF]; exact h.l0
  · rw [h.dn]; omega
  · rw [h.dn]; omega
theorem Sp.DualQ.walk {q : Sp.Net} (h : Sp.DualQ q) : Sp.walkB q = true :=
  walkB_of ⟨h.n1, by have := h.n0; omega, by have := h.le; omega, h.link.ev, h.link.nx, h.link.cp, h.link.pm.bd, h.tb⟩
/-- The dual's faces are as many as the vertices. -/
theorem Sp.DualQ.count {q : Sp.Net} (h : Sp.DualQ q) : ((max (Sp.faces2 (Sp.dual q)).2 1 : Nat) : Int) = q.n := by
  have e1 := h.euler
  have e2 := h.dualQ.euler
  rw [h.dn] at e2
  have hl : (Sp.dual q).tail.length = q.tail.length := Sp.faces2_len q
  rw [hl] at e2
  have := h.n0
  omega
end Go.Proofs.Ytenffkplneimlab


/- Span's row: each vertex that was found comes to the root by it. -/
namespace Go.Proofs.Ytenffkplneimlab
open Go Go.RowKit

/-- Rows that are the same on vertices among which the ways stay: the ways are the same. -/
theorem Sp.reach_congr {T up up' : List Int} {root : Int} {S : Nat → Prop} (h1 : ∀ v, S v → (v : Int) ≠ root → S (Sp.nx T up v)) (h2 : ∀ v, S v → up'.getD v 0 = up.getD v 0) : ∀ g v, S v → Sp.reachGo T up' root g v = Sp.reachGo T up root g v
  | 0, v, _ => rfl
  | g + 1, v, hv => by
    have e : Sp.nx T up' v = Sp.nx T up v := by unfold Sp.nx; rw [h2 v hv]
    rw [Sp.reach_succ, Sp.reach_succ, e]
    split
    · rfl
    · rename_i hr
      exact Sp.reach_congr h1 h2 g _ (h1 v hv hr)
theorem Sp.rc_first {T : List Int} {root : Int} {N : Nat} : ∀ v : Nat, v < N → (v : Int) ∈ [root] → Sp.Rc T (List.replicate N (-1)) root v := fun v _ h => by
  simp at h
  exact Sp.rc_root _ _ h
theorem Sp.SpSt.rcfind {T : List Int} {root : Int} {N : Nat} {fl up : List Int} (h : Sp.SpSt T root N fl up) (hQ : ∀ v : Nat, v < N → (v : Int) ∈ fl → Sp.Rc T up root v) (hT : ∀ x ∈ T, 0 ≤ x ∧ x < (N : Int)) (hev : T.length % 2 = 0) {d : Nat} (hd : d < T.length) (hu : T.getD d 0 ∈ fl) (hn : ¬ (T.getD (Sp.oth d) 0 = root ∨ up.getD (T.getD (Sp.oth d) 0).toNat 0 ≠ -1)) :
    ∀ v : Nat, v < N → (v : Int) ∈ fl ++ [T.getD (Sp.oth d) 0] → Sp.Rc T (up.set (T.getD (Sp.oth d) 0).toNat ((Sp.oth d : Nat) : Int)) root v := by
  have ho := oth_lt hd hev
  have hb := hT _ (Sp.getD_mem (l := T) ho)
  obtain ⟨y, hy⟩ : ∃ y : Nat, T.getD (Sp.oth d) 0 = (y : Int) := ⟨(T.getD (Sp.oth d) 0).toNat, by omega⟩
  rw [hy] at hn hb ⊢
  rw [Int.toNat_natCast] at hn ⊢
  have hyN : y < N := by omega
  have hyf : ¬ (y : Int) ∈ fl := fun hm => hn ((h.mem y hyN).1 hm)
  have hl := h.len
  have hcl : ∀ v : Nat, (v < N ∧ (v : Int) ∈ fl) → (v : Int) ≠ root → (Sp.nx T up v < N ∧ ((Sp.nx T up v : Nat) : Int) ∈ fl) := fun v hv hr => by
    have hne : up.getD v 0 ≠ -1 := ((h.mem v hv.1).1 hv.2).resolve_left hr
    obtain ⟨c, hc, e, -, hm⟩ := h.dart v hv.1 hne
    have hbc := h.bd _ hm
    have e2 : Sp.nx T up v = (T.getD (Sp.oth c) 0).toNat := by unfold Sp.nx; rw [e, Int.toNat_natCast]
    rw [e2]
    exact ⟨by omega, by rw [show (((T.getD (Sp.oth c) 0).toNat : Nat) : Int) = T.getD (Sp.oth c) 0 by omega]; exact hm⟩
  have hsame : ∀ v : Nat, (v < N ∧ (v : Int) ∈ fl) → (up.set y ((Sp.oth d : Nat) : Int)).getD v 0 = up.getD v 0 := fun v hv => by
    rw [getD_set1 _ _ _ _ (by omega), if_neg (fun e => hyf (by rw [e]; exact hv.2))]
  have hold : ∀ v : Nat, v < N → (v : Int) ∈ fl → Sp.Rc T (up.set y ((Sp.oth d : Nat) : Int)) root v := fun v h1 h2 => by
    obtain ⟨g, hg⟩ := hQ v h1 h2
    exact ⟨g, by rw [Sp.reach_congr (S := fun v => v < N ∧ (v : Int) ∈ fl) hcl hsame g v ⟨h1, h2⟩]; exact hg⟩
  intro v hv hm
  rcases List.mem_append.1 hm with hm | hm
  · exact hold v hv hm
  · have : v = y := by have := List.mem_singleton.1 hm; omega
    subst this
    have hr : (v : Int) ≠ root := fun e => hn (.inl e)
    rw [Sp.rc_next hr]
    have e : Sp.nx T (up.set v ((Sp.oth d : Nat) : Int)) v = (T.getD d 0).toNat := by
      unfold Sp.nx
      rw [getD_set1 _ _ _ _ (by omega), if_pos rfl, Int.toNat_natCast, oth_oth]
    have hub := h.bd _ hu
    rw [e]
    exact hold _ (by omega) (by rw [show (((T.getD d 0).toNat : Nat) : Int) = T.getD d 0 by omega]; exact hu)
theorem Sp.SpSt.rcrow {T : List Int} {root : Int} {N : Nat} (hT : ∀ x ∈ T, 0 ≤ x ∧ x < (N : Int)) (hev : T.length % 2 = 0) {u : Int} : ∀ c d fl up, d + c = T.length → u ∈ fl → Sp.SpSt T root N fl up → (∀ v : Nat, v < N → (v : Int) ∈ fl → Sp.Rc T up root v) → ∀ v : Nat, v < N → (v : Int) ∈ (Sp.rowGo T root u c d fl up).1 → Sp.Rc T (Sp.rowGo T root u c d fl up).2 root v
  | 0, d, fl, up, _, _, _, hQ => hQ
  | c + 1, d, fl, up, hd, hu, h, hQ => by
    rw [Sp.rowGo]
    split
    · rename_i e
      split
      · exact Sp.SpSt.rcrow hT hev c (d + 1) fl up (by omega) hu h hQ
      · rename_i hn
        exact Sp.SpSt.rcrow hT hev c (d + 1) _ _ (by omega) (List.mem_append.2 (.inl hu)) (h.find hT hev (by omega) (by rw [e]; exact hu) hn) (h.rcfind hQ hT hev (by omega) (by rw [e]; exact hu) hn)
    · exact Sp.SpSt.rcrow hT hev c (d + 1) fl up (by omega) hu h hQ
theorem Sp.SpSt.rcspan {T : List Int} {root : Int} {N : Nat} (hT : ∀ x ∈ T, 0 ≤ x ∧ x < (N : Int)) (hev : T.length % 2 = 0) : ∀ g i fl up, Sp.SpSt T root N fl up → (∀ v : Nat, v < N → (v : Int) ∈ fl → Sp.Rc T up root v) → ∀ v : Nat, v < N → (v : Int) ∈ (Sp.spanGo T root g i fl up).1 → Sp.Rc T (Sp.spanGo T root g i fl up).2 root v
  | 0, i, fl, up, _, hQ => hQ
  | g + 1, i, fl, up, h, hQ => by
    rw [Sp.spanGo]
    split
    · rename_i hi
      have hu : fl.getD i 0 ∈ fl := Sp.getD_mem hi
      exact Sp.SpSt.rcspan hT hev g (i + 1) _ _ (Sp.SpSt.row hT hev T.length 0 fl up (by omega) hu h).1 (Sp.SpSt.rcrow hT hev T.length 0 fl up (by omega) hu h hQ)
    · exact hQ
end Go.Proofs.Ytenffkplneimlab


/- Span's row is Right. -/
namespace Go.Proofs.Ytenffkplneimlab
open Go Go.RowKit

theorem Sp.edges_of (T up : List Int) (root : Int) : ∀ (g v : Nat), (∀ x : Nat, v ≤ x → x < v + g → (x : Int) = root ∨ (0 ≤ up.getD x 0 ∧ up.getD x 0 < (T.length : Int) ∧ T.getD (up.getD x 0).toNat 0 = (x : Int))) → Sp.edgesGo T up root g v = true
  | 0, v, _ => rfl
  | g + 1, v, h => by
    rw [Sp.edgesGo, if_pos (h v (Nat.le_refl _) (by omega))]
    exact Sp.edges_of T up root g (v + 1) fun x h1 h2 => h x (by omega) (by omega)
theorem Sp.nx_bd {T up : List Int} {N : Nat} (hT : ∀ x ∈ T, 0 ≤ x ∧ x < (N : Int)) (h0 : 0 < N) (y : Nat) : Sp.nx T up y < N := by
  unfold Sp.nx
  rcases Nat.lt_or_ge (Sp.oth (up.getD y 0).toNat) T.length with h | h
  · have := hT _ (Sp.getD_mem h); omega
  · rw [List.getD_eq_getElem?_getD, List.getElem?_eq_none h]; exact h0
theorem Sp.span_right {q : Sp.Net} {r N : Nat} (hN : q.n = (N : Int)) (hT : ∀ x ∈ q.tail, 0 ≤ x ∧ x < q.n) (hev : q.tail.length % 2 = 0) (hr : r < N) (hc : ∀ v, 0 ≤ v → v < q.n → Sp.Reach q.tail (r : Int) v) : Sp.rightB q (Sp.span q (r : Int)) (r : Int) = true := by
  have hT' : ∀ x ∈ q.tail, 0 ≤ x ∧ x < (N : Int) := fun x hx => by have := hT x hx; omega
  obtain ⟨h1, h2, h3⟩ := Sp.span_all hT hev (root := (r : Int)) (by omega) (by omega) hc
  have hst := (Sp.spanGo_done hT' hev N 0 [(r : Int)] (List.replicate N (-1)) (by omega) (by simp) (Sp.SpSt.first q.tail (by omega) (by omega)) (fun k hk => by omega)).1
  have hrc := Sp.SpSt.rcspan hT' hev N 0 [(r : Int)] (List.replicate N (-1)) (Sp.SpSt.first q.tail (by omega) (by omega)) Sp.rc_first
  have hsp : Sp.span q (r : Int) = (Sp.spanGo q.tail (r : Int) N 0 [(r : Int)] (List.replicate N (-1))).2 := by unfold Sp.span; rw [hN, Int.toNat_natCast]
  rw [← hsp] at hst hrc
  rw [hN, Int.toNat_natCast] at h1
  rw [Int.toNat_natCast] at h2
  generalize Sp.span q (r : Int) = U at *
  unfold Sp.rightB
  rw [hN, Int.toNat_natCast, Int.toNat_natCast, decide_eq_true (show (U.length : Int) = (N : Int) ∧ 0 ≤ (r : Int) ∧ (r : Int) < (N : Int) ∧ U.getD r 0 = -1 from ⟨by omega, by omega, by omega, h2⟩)]
  have he : Sp.edgesGo q.tail U (r : Int) N 0 = true := Sp.edges_of _ _ _ N 0 fun x _ hx => by
    by_cases hxr : (x : Int) = (r : Int)
    · exact .inl hxr
    · obtain ⟨d, hd, e1, e2⟩ := h3 x (by omega) hxr
      exact .inr ⟨by omega, by omega, by rw [e1, Int.toNat_natCast]; exact e2⟩
  have hch : Sp.chainsGo q.tail U (r : Int) N N 0 = true := (Sp.chains_iff (fun y _ => Sp.nx_bd hT' (by omega) y) N 0 (by omega)).2 fun x _ hx => by
    refine hrc x hx ((hst.mem x hx).2 ?_)
    by_cases hxr : (x : Int) = (r : Int)
    · exact .inl hxr
    · obtain ⟨d, hd, e1, e2⟩ := h3 x (by omega) hxr
      exact .inr (by omega)
  rw [he, hch]
  rfl
end Go.Proofs.Ytenffkplneimlab


/- What the laws of trees take of a plane net; what a tree's row is. -/
namespace Go.Proofs.Ytenffkplneimlab
open Go Go.RowKit

structure Sp.TreeQ (q : Sp.Net) : Prop where
  ev : q.tail.length % 2 = 0
  le : q.tail.length ≤ 48
  n0 : 1 ≤ q.n
  n1 : q.n ≤ 60
  nE : q.n ≤ ((q.tail.length / 2 : Nat) : Int) + 1
  tb : ∀ x ∈ q.tail, 0 ≤ x ∧ x < q.n
  conn : ∀ u v, 0 ≤ u → u < q.n → 0 ≤ v → v < q.n → Sp.Reach q.tail u v
/-- A tree's row. -/
structure Sp.RowT (T U : List Int) (r N : Nat) : Prop where
  len : U.length = N
  rN : r < N
  rt : U.getD r 0 = -1
  dart : ∀ v, v < N → v ≠ r → ∃ d : Nat, d < T.length ∧ U.getD v 0 = (d : Int) ∧ T.getD d 0 = (v : Int)
  rc : ∀ v, v < N → Sp.Rc T U (r : Int) v
theorem Sp.TreeQ.span {q : Sp.Net} (h : Sp.TreeQ q) {r N : Nat} (hN : q.n = (N : Int)) (hr : r < N) : Sp.rightB q (Sp.span q (r : Int)) (r : Int) = true :=
  Sp.span_right hN h.tb h.ev hr fun v h0 h1 => h.conn _ v (by omega) (by omega) h0 h1
theorem Sp.RowT.nx {T U : List Int} {r N : Nat} (_h : Sp.RowT T U r N) {v d : Nat} (e : U.getD v 0 = (d : Int)) : Sp.nx T U v = (T.getD (Sp.oth d) 0).toNat := by
  unfold Sp.nx; rw [e, Int.toNat_natCast]
theorem Sp.RowT.below {T U : List Int} {r N : Nat} (h : Sp.RowT T U r N) : ∀ z ∈ U, z < (T.length : Int) := fun z hz => by
  obtain ⟨v, hv, e⟩ := List.getElem_of_mem hz
  have hv' : v < N := by rw [← h.len]; exact hv
  have e2 : U.getD v 0 = z := by rw [Sp.getD_eq _ _ hv, e]
  by_cases hr : v = r
  · subst hr
    have := h.rt
    omega
  · obtain ⟨d, hd, e1, -⟩ := h.dart v hv' hr
    omega
/-- Two vertices do not hang on one edge. -/
theorem Sp.RowT.apart {T U : List Int} {r N : Nat} (h : Sp.RowT T U r N) {v w d e : Nat} (hv : v < N) (hw : w < N) (hvr : v ≠ r) (hwr : w ≠ r) (h1 : U.getD v 0 = (d : Int)) (h2 : U.getD w 0 = (e : Int)) (he : d / 2 = e / 2) : v = w := by
  obtain ⟨d', -, a1, a2⟩ := h.dart v hv hvr
  obtain ⟨e', -, b1, b2⟩ := h.dart w hw hwr
  obtain rfl : d' = d := by omega
  obtain rfl : e' = e := by omega
  by_cases hde : d' = e'
  · subst hde; omega
  · exfalso
    have ho : Sp.oth d' = e' := by unfold Sp.oth; split <;> omega
    have ho2 : Sp.oth e' = d' := by rw [← ho, oth_oth]
    have n1 : Sp.nx T U v = w := by rw [h.nx h1, ho, b2, Int.toNat_natCast]
    have n2 : Sp.nx T U w = v := by rw [h.nx h2, ho2, a2, Int.toNat_natCast]
    have : Sp.Stp T U (r : Int) 2 v v := ⟨by omega, by rw [n1]; exact ⟨by omega, n2⟩⟩
    exact this.round (h.rc v hv)
/-- The edges that are used. -/
theorem Sp.usedB_ex (up : List Int) (d : Nat) : ∀ j, Sp.usedB up d j = true ↔ ∃ i, i < j ∧ (up.getD i 0 = (d : Int) ∨ up.getD i 0 = (d : Int) + 1)
  | 0 => ⟨fun h => (by cases h), fun ⟨i, h, _⟩ => (by omega)⟩
  | j + 1 => by
    rw [Sp.usedB, Bool.or_eq_true, Bool.or_eq_true, Sp.usedB_ex up d j, beq_iff_eq, beq_iff_eq]
    constructor
    · rintro ((⟨i, h1, h2⟩ | h) | h)
      · exact ⟨i, by omega, h2⟩
      · exact ⟨j, by omega, .inl h⟩
      · exact ⟨j, by omega, .inr h⟩
    · rintro ⟨i, h1, h2⟩
      by_cases h : i = j
      · subst h
        rcases h2 with h2 | h2
        · exact .inl (.inr h2)
        · exact .inr h2
      · exact .inl (.inl ⟨i, by omega, h2⟩)
theorem Sp.leftGo_eq (up : List Int) : ∀ g e out, Sp.leftGo up g e out = out ++ ((List.range' e g).filter (fun e => !Sp.usedB up (2 * e) up.length)).map (fun e => ((2 * e : Nat) : Int))
  | 0, e, out => by simp [Sp.leftGo]
  | g + 1, e, out => by
    rw [Sp.leftGo, List.range'_succ, List.filter_cons]
    split
    · rename_i h
      rw [Sp.leftGo_eq up g (e + 1) out, h]
      simp
    · rename_i h
      rw [Sp.leftGo_eq up g (e + 1) _, if_pos (by simpa using h), List.map_cons, List.append_assoc]
      rfl
theorem Sp.leftL_eq (q : Sp.Net) (up : List Int) : Sp.leftL q up = ((List.range (q.tail.length / 2)).filter (fun e => !Sp.usedB up (2 * e) up.length)).map (fun e => ((2 * e : Nat) : Int)) := by
  unfold Sp.leftL
  rw [Sp.leftGo_eq, List.nil_append, List.range_eq_range']
theorem filter_add (p : Nat → Bool) : ∀ l : List Nat, (l.filter p).length + (l.filter (fun x => !p x)).length = l.length
  | [] => rfl
  | x :: l => by
    have := filter_add p l
    rw [List.filter_cons, List.filter_cons]
    cases p x <;> simp <;> omega
/-- What is left is as many as edges, less the vertices but the root. -/
theorem Sp.RowT.left {q : Sp.Net} {U : List Int} {r N : Nat} (h : Sp.RowT q.tail U r N) (hev : q.tail.length % 2 = 0) : (Sp.leftL q U).length + (N - 1) = q.tail.length / 2 := by
  rw [Sp.leftL_eq, List.length_map]
  have h1 := filter_add (fun e => Sp.usedB U (2 * e) U.length) (List.range (q.tail.length / 2))
  rw [List.length_range] at h1
  have hp : (((List.range N).filter (fun v => decide (v ≠ r))).map (fun v => (U.getD v 0).toNat / 2)).Perm ((List.range (q.tail.length / 2)).filter (fun e => Sp.usedB U (2 * e) U.length)) := by
    rw [List.perm_ext_iff_of_nodup]
    · intro e
      rw [List.mem_map, List.mem_filter, List.mem_range, Sp.usedB_ex]
      constructor
      · rintro ⟨v, hv, rfl⟩
        rw [List.mem_filter, List.mem_range, decide_eq_true_eq] at hv
        obtain ⟨d, hd, e1, -⟩ := h.dart v hv.1 hv.2
        refine ⟨by rw [e1, Int.toNat_natCast]; omega, v, by rw [h.len]; exact hv.1, ?_⟩
        rw [e1, Int.toNat_natCast]
        omega
      · rintro ⟨he, v, hv, hc⟩
        rw [h.len] at hv
        refine ⟨v, ?_, by omega⟩
        rw [List.mem_filter, List.mem_range, decide_eq_true_eq]
        refine ⟨hv, fun e => ?_⟩
        subst e
        rw [h.rt] at hc
        omega
    · refine List.pairwise_map.2 (List.Pairwise.imp_of_mem ?_ ((List.nodup_range (n := N)).filter (fun v => decide (v ≠ r))))
      intro v w hv hw hvw e
      refine hvw ?_
      rw [List.mem_filter, List.mem_range, decide_eq_true_eq] at hv hw
      obtain ⟨d, hd, e1, -⟩ := h.dart v hv.1 hv.2
      obtain ⟨d', hd', e1', -⟩ := h.dart w hw.1 hw.2
      exact h.apart hv.1 hw.1 hv.2 hw.2 e1 e1' (by rw [e1, e1', Int.toNat_natCast, Int.toNat_natCast] at e; exact e)
    · exact (List.nodup_range).filter _
  have h2 := hp.length_eq
  rw [List.length_map] at h2
  have h3 := filter_add (fun v => decide (v ≠ r)) (List.range N)
  rw [List.length_range] at h3
  have h4 : ((List.range N).filter (fun v => !decide (v ≠ r))).length = 1 := by
    have hp2 : ((List.range N).filter (fun v => !decide (v ≠ r))).Perm [r] := by
      rw [List.perm_ext_iff_of_nodup ((List.nodup_range).filter _) (by simp)]
      intro v
      rw [List.mem_filter, List.mem_range]
      have hr := h.rN
      constructor
      · rintro ⟨-, e⟩
        simp at e
        simp [e]
      · intro e
        simp at e
        subst e
        exact ⟨hr, by simp⟩
    exact hp2.length_eq
  omega
theorem Sp.way_leG {T U R : List Int} : ∀ (G x : Nat) (out : List Int), Sp.wayGo T U G x out = some R → R.length ≤ out.length + G
  | 0, x, out, h => by
    rw [Sp.wayGo] at h
    split at h
    · cases h
    · injection h with h; subst h; omega
  | G + 1, x, out, h => by
    rw [Sp.wayGo] at h
    split at h
    · have := Sp.way_leG G _ _ h
      rw [List.length_append, List.length_singleton] at this
      omega
    · injection h with h; subst h; omega
theorem Sp.way_le {T U R : List Int} {G x : Nat} (h : Sp.wayGo T U G x [] = some R) : R.length ≤ 0 + G := Sp.way_leG G x [] h
end Go.Proofs.Ytenffkplneimlab


/- Breadth first: a vertex hangs on the first one found that has a dart to it, by its least dart; ways are as short as may be. -/
namespace Go.Proofs.Ytenffkplneimlab
open Go Go.RowKit

/-- What stays along Span: ps, of each vertex found, the place of the one that found it. -/
structure Sp.Bf (T fl U : List Int) (ps : List Nat) (i d : Nat) : Prop where
  len : ps.length = fl.length
  par : ∀ j, 0 < j → j < fl.length → ps.getD j 0 < j ∧ ps.getD j 0 ≤ i ∧ ∃ c : Nat, c < T.length ∧ U.getD (fl.getD j 0).toNat 0 = ((Sp.oth c : Nat) : Int) ∧ T.getD (Sp.oth c) 0 = fl.getD j 0 ∧ T.getD c 0 = fl.getD (ps.getD j 0) 0 ∧ ∀ e, e < c → T.getD e 0 = T.getD c 0 → T.getD (Sp.oth e) 0 ≠ fl.getD j 0
  mono : ∀ j k, 0 < j → j ≤ k → k < fl.length → ps.getD j 0 ≤ ps.getD k 0
  done : ∀ u e, u < i ∨ u = i ∧ e < d → u < fl.length → e < T.length → T.getD e 0 = fl.getD u 0 → ∃ j, j < fl.length ∧ fl.getD j 0 = T.getD (Sp.oth e) 0 ∧ (j = 0 ∨ ps.getD j 0 ≤ u)
theorem getDN_app (l : List Nat) (x : Nat) (j : Nat) : (l ++ [x]).getD j 0 = if j < l.length then l.getD j 0 else if j = l.length then x else 0 := by
  rw [List.getD_eq_getElem?_getD, List.getD_eq_getElem?_getD]
  by_cases h : j < l.length
  · rw [if_pos h, List.getElem?_append_left h]
  · rw [if_neg h, List.getElem?_append_right (by omega)]
    by_cases h2 : j = l.length
    · rw [if_pos h2, h2, Nat.sub_self]; rfl
    · rw [if_neg h2, List.getElem?_eq_none (by simp; omega)]; rfl
theorem getDI_app (l : List Int) (x : Int) (j : Nat) : (l ++ [x]).getD j 0 = if j < l.length then l.getD j 0 else if j = l.length then x else 0 := by
  rw [List.getD_eq_getElem?_getD, List.getD_eq_getElem?_getD]
  by_cases h : j < l.length
  · rw [if_pos h, List.getElem?_append_left h]
  · rw [if_neg h, List.getElem?_append_right (by omega)]
    by_cases h2 : j = l.length
    · rw [if_pos h2, h2, Nat.sub_self]; rfl
    · rw [if_neg h2, List.getElem?_eq_none (by simp; omega)]; rfl
theorem mem_getD {l : List Int} {x : Int} (h : x ∈ l) : ∃ j, j < l.length ∧ l.getD j 0 = x := by
  obtain ⟨j, hj, e⟩ := List.getElem_of_mem h
  exact ⟨j, hj, by rw [Sp.getD_eq _ _ hj, e]⟩
theorem Sp.Bf.skip {T fl U : List Int} {ps : List Nat} {i d : Nat} (h : Sp.Bf T fl U ps i d) (hne : T.getD d 0 ≠ fl.getD i 0) : Sp.Bf T fl U ps i (d + 1) := by
  refine ⟨h.len, h.par, h.mono, fun u e hu h1 h2 h3 => h.done u e ?_ h1 h2 h3⟩
  rcases hu with hu | ⟨rfl, hu⟩
  · exact .inl hu
  · by_cases he : e = d
    · subst he; exact absurd h3 hne
    · exact .inr ⟨rfl, by omega⟩
theorem Sp.Bf.old {T fl U : List Int} {ps : List Nat} {i d : Nat} (h : Sp.Bf T fl U ps i d) (hm : T.getD (Sp.oth d) 0 ∈ fl) : Sp.Bf T fl U ps i (d + 1) := by
  refine ⟨h.len, h.par, h.mono, fun u e hu h1 h2 h3 => ?_⟩
  rcases hu with hu | ⟨rfl, hu⟩
  · exact h.done u e (.inl hu) h1 h2 h3
  · by_cases he : e = d
    · subst he
      obtain ⟨j, hj, e1⟩ := mem_getD hm
      refine ⟨j, hj, e1, ?_⟩
      by_cases hj0 : j = 0
      · exact .inl hj0
      · exact .inr (h.par j (by omega) hj).2.1
    · exact h.done u e (.inr ⟨rfl, by omega⟩) h1 h2 h3
theorem Sp.Bf.new {T fl U : List Int} {ps : List Nat} {i d : Nat} (h : Sp.Bf T fl U ps i d) (hi : i < fl.length) (hd : d < T.length) (hu : T.getD d 0 = fl.getD i 0) (hm : ¬ T.getD (Sp.oth d) 0 ∈ fl) (h0 : 0 ≤ T.getD (Sp.oth d) 0) (hU : (T.getD (Sp.oth d) 0).toNat < U.length) (hb : ∀ x ∈ fl, 0 ≤ x) :
    Sp.Bf T (fl ++ [T.getD (Sp.oth d) 0]) (U.set (T.getD (Sp.oth d) 0).toNat ((Sp.oth d : Nat) : Int)) (ps ++ [i]) i (d + 1) := by
  have hl := h.len
  have old : ∀ j, j < fl.length → (fl ++ [T.getD (Sp.oth d) 0]).getD j 0 = fl.getD j 0 := fun j hj => by rw [getDI_app, if_pos hj]
  have oldp : ∀ j, j < fl.length → (ps ++ [i]).getD j 0 = ps.getD j 0 := fun j hj => by rw [getDN_app, if_pos (by omega)]
  have newf : (fl ++ [T.getD (Sp.oth d) 0]).getD fl.length 0 = T.getD (Sp.oth d) 0 := by rw [getDI_app, if_neg (by omega), if_pos rfl]
  have newp : (ps ++ [i]).getD fl.length 0 = i := by rw [getDN_app, if_neg (by omega), if_pos (by omega)]
  have hlen : (fl ++ [T.getD (Sp.oth d) 0]).length = fl.length + 1 := by simp
  refine ⟨by simp [hl], fun j h1 h2 => ?_, fun j k h1 h2 h3 => ?_, fun u e hu' h1 h2 h3 => ?_⟩
  · rw [hlen] at h2
    by_cases hj : j < fl.length
    · obtain ⟨a1, a2, c, c1, c2, c3, c4, c5⟩ := h.par j h1 hj
      rw [old j hj, oldp j hj, old _ (by omega)]
      refine ⟨a1, a2, c, c1, ?_, c3, c4, c5⟩
      rw [getD_set1 _ _ _ _ hU, if_neg fun e => hm ?_]
      · exact c2
      · have hjm := Sp.getD_mem (l := fl) hj
        have := hb _ hjm
        rw [show T.getD (Sp.oth d) 0 = fl.getD j 0 by omega]
        exact hjm
    · obtain rfl : j = fl.length := by omega
      rw [newf, newp, old i hi]
      refine ⟨hi, Nat.le_refl _, d, hd, by rw [getD_set1 _ _ _ _ hU, if_pos rfl], rfl, hu, fun e he h3 h4 => hm ?_⟩
      obtain ⟨j, hj, e1, -⟩ := h.done i e (.inr ⟨rfl, he⟩) hi (by omega) (by rw [h3, hu])
      rw [← h4, ← e1]
      exact Sp.getD_mem hj
  · rw [hlen] at h3
    by_cases hk : k < fl.length
    · rw [oldp j (by omega), oldp k hk]; exact h.mono j k h1 h2 hk
    · obtain rfl : k = fl.length := by omega
      rw [newp]
      by_cases hj : j < fl.length
      · rw [oldp j hj]; exact (h.par j h1 hj).2.1
      · obtain rfl : j = fl.length := by omega
        rw [newp]; exact Nat.le_refl _
  · rw [hlen] at h1
    have hul : u < fl.length := by omega
    rw [old u hul] at h3
    by_cases he : u = i ∧ e = d
    · obtain ⟨rfl, rfl⟩ := he
      exact ⟨fl.length, by omega, newf, .inr (by rw [newp]; exact Nat.le_refl _)⟩
    · obtain ⟨j, hj, e1, e2⟩ := h.done u e (by omega) hul h2 h3
      exact ⟨j, by omega, by rw [old j hj]; exact e1, by rw [oldp j hj]; exact e2⟩
theorem Sp.Bf.row {T : List Int} {root : Int} {N : Nat} (hT : ∀ x ∈ T, 0 ≤ x ∧ x < (N : Int)) (hev : T.length % 2 = 0) {u : Int} {i : Nat} : ∀ c d fl up ps, d + c = T.length → i < fl.length → u = fl.getD i 0 → Sp.SpSt T root N fl up → Sp.Bf T fl up ps i d → ∃ ps', Sp.Bf T (Sp.rowGo T root u c d fl up).1 (Sp.rowGo T root u c d fl up).2 ps' i T.length
  | 0, d, fl, up, ps, hd, _, _, _, hb => by
    obtain rfl : d = T.length := by omega
    exact ⟨ps, hb⟩
  | c + 1, d, fl, up, ps, hd, hi, hu, h, hb => by
    have hum : u ∈ fl := by rw [hu]; exact Sp.getD_mem hi
    rw [Sp.rowGo]
    split
    · rename_i e
      have ho := oth_lt (show d < T.length by omega) hev
      have hbd := hT _ (Sp.getD_mem (l := T) ho)
      have hmem := h.mem (T.getD (Sp.oth d) 0).toNat (by omega)
      rw [show (((T.getD (Sp.oth d) 0).toNat : Nat) : Int) = T.getD (Sp.oth d) 0 by omega] at hmem
      split
      · rename_i hf
        exact Sp.Bf.row hT hev c (d + 1) fl up ps (by omega) hi hu h (hb.old (hmem.2 hf))
      · rename_i hn
        refine Sp.Bf.row hT hev c (d + 1) _ _ (ps ++ [i]) (by omega) (by rw [List.length_append]; omega) ?_ (h.find hT hev (by omega) (by rw [e]; exact hum) hn) ?_
        · rw [getDI_app, if_pos hi]; exact hu
        · exact hb.new hi (by omega) (by rw [e]; exact hu) (fun hm => hn (hmem.1 hm)) hbd.1 (by rw [h.len]; omega) (fun x hx => (h.bd x hx).1)
    · rename_i e
      exact Sp.Bf.row hT hev c (d + 1) fl up ps (by omega) hi hu h (hb.skip (by rw [← hu]; exact e))
theorem Sp.Bf.span {T : List Int} {root : Int} {N : Nat} (hT : ∀ x ∈ T, 0 ≤ x ∧ x < (N : Int)) (hev : T.length % 2 = 0) : ∀ g i fl up ps, i + g = N → Sp.SpSt T root N fl up → Sp.Bf T fl up ps i 0 → ∃ ps' i', Sp.Bf T (Sp.spanGo T root g i fl up).1 (Sp.spanGo T root g i fl up).2 ps' i' 0 ∧ (Sp.spanGo T root g i fl up).1.length ≤ i'
  | 0, i, fl, up, ps, hi, h, hb => ⟨ps, i, hb, by have := h.le; show fl.length ≤ i; omega⟩
  | g + 1, i, fl, up, ps, hi, h, hb => by
    rw [Sp.spanGo]
    split
    · rename_i hl
      obtain ⟨ps', hb'⟩ := Sp.Bf.row hT hev T.length 0 fl up ps (by omega) hl rfl h hb
      have h' := (Sp.SpSt.row hT hev T.length 0 fl up (by omega) (Sp.getD_mem hl) h).1
      refine Sp.Bf.span hT hev g (i + 1) _ _ ps' (by omega) h' ⟨hb'.len, fun j h1 h2 => ?_, hb'.mono, fun u e hu h1 h2 h3 => hb'.done u e ?_ h1 h2 h3⟩
      · obtain ⟨a1, a2, a3⟩ := hb'.par j h1 h2
        exact ⟨a1, by omega, a3⟩
      · omega
    · exact ⟨ps, i, hb, by show fl.length ≤ i; omega⟩
theorem Sp.Mn.uniq {T U : List Int} {root : Int} {g g' x : Nat} (h : Sp.Mn T U root g x) (h' : Sp.Mn T U root g' x) : g = g' := by
  rcases Nat.lt_trichotomy g g' with h1 | h1 | h1
  · have := h'.2 g h1; rw [h.1] at this; cases this
  · exact h1
  · have := h.2 g' h1; rw [h'.1] at this; cases this
theorem Sp.Mn.zero {T U : List Int} {root : Int} {x : Nat} (h : Sp.Mn T U root 0 x) : (x : Int) = root := of_decide_eq_true h.1
theorem Sp.Mn.root {T U : List Int} {root : Int} {g x : Nat} (h : Sp.Mn T U root g x) (hx : (x : Int) = root) : g = 0 := by
  cases g with
  | zero => rfl
  | succ g => exact absurd hx h.next.1
end Go.Proofs.Ytenffkplneimlab


/- What a tree leaves hangs all faces together; joined one by one, each edge of it joins two (P402). -/
namespace Go.Proofs.Ytenffkplneimlab
open Go Go.RowKit

/-- One label becomes another. -/
def Sp.mg (of : List Int) (a b : Int) : List Int := of.map fun x => if x = b then a else x
theorem Sp.mg_len (of : List Int) (a b : Int) : (Sp.mg of a b).length = of.length := by simp [Sp.mg]
theorem Sp.mg_get {of : List Int} {a b : Int} {j : Nat} (hj : j < of.length) : (Sp.mg of a b).getD j 0 = if of.getD j 0 = b then a else of.getD j 0 := by
  rw [Sp.getD_eq _ _ (by rw [Sp.mg_len]; exact hj), Sp.getD_eq _ _ hj]
  simp [Sp.mg]
/-- Labels that stand for themselves. -/
structure Sp.UnS (of : List Int) (k : Nat) : Prop where
  bd : ∀ j, j < k → 0 ≤ of.getD j 0 ∧ of.getD j 0 < (k : Int)
  rep : ∀ j, j < k → of.getD (of.getD j 0).toNat 0 = of.getD j 0
theorem Sp.UnS.first (k : Nat) : Sp.UnS ((List.range k).map fun j => ((j : Nat) : Int)) k := by
  have e : ∀ j, j < k → ((List.range k).map fun j => ((j : Nat) : Int)).getD j 0 = (j : Int) := fun j hj => by
    rw [Sp.getD_eq _ _ (by simpa using hj)]; simp
  exact ⟨fun j hj => by rw [e j hj]; omega, fun j hj => by rw [e j hj, Int.toNat_natCast, e j hj]⟩
theorem Sp.UnS.step {of : List Int} {k x y : Nat} (h : Sp.UnS of k) (hl : of.length = k) (hx : x < k) (hy : y < k) : Sp.UnS (Sp.mg of (of.getD x 0) (of.getD y 0)) k ∧ Sp.cnt (fun j => decide (of.getD j 0 = (j : Int))) k ≤ Sp.cnt (fun j => decide ((Sp.mg of (of.getD x 0) (of.getD y 0)).getD j 0 = (j : Int))) k + (if of.getD x 0 = of.getD y 0 then 0 else 1) := by
  have hbx := h.bd x hx
  have hby := h.bd y hy
  have hg : ∀ j, j < k → (Sp.mg of (of.getD x 0) (of.getD y 0)).getD j 0 = if of.getD j 0 = of.getD y 0 then of.getD x 0 else of.getD j 0 := fun j hj => Sp.mg_get (by rw [hl]; exact hj)
  constructor
  · refine ⟨fun j hj => ?_, fun j hj => ?_⟩
    · rw [hg j hj]; split
      · exact hbx
      · exact h.bd j hj
    · have hbj := h.bd j hj
      rw [hg j hj]
      split
      · rw [hg _ (by omega), h.rep x hx]
        split <;> rfl
      · rename_i hne
        rw [hg _ (by omega), h.rep j hj, if_neg hne]
  · split
    · rename_i e
      refine Nat.le_of_eq (Sp.cnt_congr k fun j hj => ?_)
      rw [hg j hj, e]
      split
      · rename_i e2; rw [e2]
      · rfl
    · rename_i e
      have hone : Sp.cnt (fun j => decide (j = (of.getD y 0).toNat)) k ≤ 1 := by
        have : ∀ m, Sp.cnt (fun j => decide (j = (of.getD y 0).toNat)) m ≤ if (of.getD y 0).toNat < m then 1 else 0 := by
          intro m
          induction m with
          | zero => simp [Sp.cnt]
          | succ m ih =>
            rw [Sp.cnt_succ]
            simp only [decide_eq_true_eq]
            split at ih <;> split <;> split <;> omega
        have := this k
        split at this <;> omega
      have hadd : ∀ m, m ≤ k → Sp.cnt (fun j => decide (of.getD j 0 = (j : Int))) m ≤ Sp.cnt (fun j => decide ((Sp.mg of (of.getD x 0) (of.getD y 0)).getD j 0 = (j : Int))) m + Sp.cnt (fun j => decide (j = (of.getD y 0).toNat)) m := by
        intro m
        induction m with
        | zero => intro _; simp [Sp.cnt]
        | succ m ih =>
          intro hm
          have := ih (by omega)
          rw [Sp.cnt_succ, Sp.cnt_succ, Sp.cnt_succ, hg m (by omega)]
          simp only [decide_eq_true_eq]
          by_cases e1 : of.getD m 0 = (m : Int)
          · by_cases e2 : m = (of.getD y 0).toNat
            · rw [if_pos e2, if_pos e1]; omega
            · have e3 : ¬ of.getD m 0 = of.getD y 0 := by omega
              rw [if_neg e3, if_pos e1]; omega
          · rw [if_neg e1]; omega
      have := hadd k (Nat.le_refl _)
      omega
end Go.Proofs.Ytenffkplneimlab


/- The law TreeLeft, walked. -/
namespace Go.Proofs.Ytenffkplneimlab
open Go Go.RowKit

theorem own_getD {w : World} {B g n c : Nat} {l : List Int} (h : OwnI w B (.slice (some ⟨g, 0, none⟩) n c) l) (k : Nat) (hk : k < l.length) : w.cell? ⟨g, k, none⟩ = some (.int .i64 (l.getD k 0)) := by
  rw [own_cell h k hk, Sp.getD_eq _ _ hk]
end Go.Proofs.Ytenffkplneimlab


/- What the reference's Parts comes to: the same as the program's. -/
namespace Go.Proofs.Ytenffkplneimlab
open Go Go.RowKit

def isum : List Int → Int
  | [] => 0
  | a :: t => a + isum t
theorem isum_set : ∀ (l : List Int) (i : Nat) (x : Int), i < l.length → isum (l.set i x) = isum l - l.getD i 0 + x
  | [], _, _, h => by simp at h
  | a :: t, 0, x, _ => by
    show x + isum t = a + isum t - a + x
    omega
  | a :: t, i + 1, x, h => by
    show a + isum (t.set i x) = a + isum t - t.getD i 0 + x
    rw [isum_set t i x (by simpa using h)]
    omega
theorem isum_nn : ∀ (l : List Int), (∀ x ∈ l, 0 ≤ x) → 0 ≤ isum l
  | [], _ => Int.le_refl _
  | a :: t, h => by
    have h1 := h a (by simp)
    have h2 := isum_nn t (fun x hx => h x (by simp [hx]))
    show 0 ≤ a + isum t
    omega
theorem isum_le (b : Nat) : ∀ (l : List Int), (∀ x ∈ l, x ≤ (b : Int)) → isum l ≤ ((l.length * b : Nat) : Int)
  | [], _ => by simp [isum]
  | a :: t, h => by
    have h1 := h a (by simp)
    have h2 := isum_le b t (fun x hx => h x (by simp [hx]))
    show a + isum t ≤ (((t.length + 1) * b : Nat) : Int)
    rw [Nat.succ_mul]
    omega
/-- Each vertex's label: one that is reached, no greater. -/
structure Sp.RInv (tl of : List Int) (N : Nat) : Prop where
  len : of.length = N
  bd : ∀ v, v < N → 0 ≤ of.getD v 0 ∧ of.getD v 0 ≤ (v : Int)
  rch : ∀ v : Nat, v < N → Sp.Reach tl v (of.getD v 0)
theorem Sp.RInv.nn {tl of : List Int} {N : Nat} (h : Sp.RInv tl of N) : 0 ≤ isum of := isum_nn of fun x hx => by
  obtain ⟨i, hi, rfl⟩ := List.mem_iff_getElem.1 hx
  rw [← Sp.getD_eq]
  exact (h.bd i (by rw [← h.len]; exact hi)).1
theorem Sp.RInv.le {tl of : List Int} {N : Nat} (h : Sp.RInv tl of N) : isum of ≤ ((N * N : Nat) : Int) := by
  have := isum_le N of fun x hx => by
    obtain ⟨i, hi, rfl⟩ := List.mem_iff_getElem.1 hx
    rw [← Sp.getD_eq]
    have hi' : i < N := by rw [← h.len]; exact hi
    have := (h.bd i hi').2
    omega
  rw [h.len] at this
  exact this
theorem Sp.RInv.set {tl of : List Int} {N : Nat} (h : Sp.RInv tl of N) (ht : ∀ x ∈ tl, 0 ≤ x ∧ x < (N : Int)) (hev : tl.length % 2 = 0) {d : Nat} (hd : d < tl.length) (hlt : of.getD (tl.getD d 0).toNat 0 < of.getD (tl.getD (Sp.oth d) 0).toNat 0) :
    Sp.RInv tl (of.set (tl.getD (Sp.oth d) 0).toNat (of.getD (tl.getD d 0).toNat 0)) N ∧ isum (of.set (tl.getD (Sp.oth d) 0).toNat (of.getD (tl.getD d 0).toNat 0)) < isum of := by
  have ho := oth_lt hd hev
  have ha := ht _ (Sp.getD_mem hd)
  have hb := ht _ (Sp.getD_mem ho)
  have haN : (tl.getD d 0).toNat < N := by omega
  have hbN : (tl.getD (Sp.oth d) 0).toNat < N := by omega
  have hba : Sp.Reach tl (tl.getD (Sp.oth d) 0) (tl.getD d 0) := by
    have h1 : Sp.Reach tl (tl.getD (Sp.oth d) 0) (tl.getD (Sp.oth (Sp.oth d)) 0) := (Sp.Reach.refl _).step ho
    rw [oth_oth] at h1
    exact h1
  refine ⟨⟨by rw [List.length_set]; exact h.len, fun v hv => ?_, fun v hv => ?_⟩, ?_⟩
  · rw [getD_set_eq _ _ _ _ (by rw [h.len]; exact hbN)]
    by_cases e : v = (tl.getD (Sp.oth d) 0).toNat
    · rw [if_pos e]
      have h1 := h.bd _ haN
      have h2 := h.bd _ hbN
      omega
    · rw [if_neg e]
      exact h.bd v hv
  · rw [getD_set_eq _ _ _ _ (by rw [h.len]; exact hbN)]
    by_cases e : v = (tl.getD (Sp.oth d) 0).toNat
    · rw [if_pos e, show (v : Int) = tl.getD (Sp.oth d) 0 by omega]
      have h1 := h.rch _ haN
      rw [show (((tl.getD d 0).toNat : Nat) : Int) = tl.getD d 0 by omega] at h1
      exact hba.trans h1
    · rw [if_neg e]
      exact h.rch v hv
  · rw [isum_set _ _ _ (by rw [h.len]; exact hbN)]
    omega
/-- No dart leads to a greater label. -/
def Sp.Still (tl of : List Int) (n : Nat) : Prop := ∀ d, d < n → of.getD (tl.getD (Sp.oth d) 0).toNat 0 ≤ of.getD (tl.getD d 0).toNat 0
theorem Sp.Still.reach {tl of : List Int} (h : Sp.Still tl of tl.length) (hev : tl.length % 2 = 0) {u v : Int} (hr : Sp.Reach tl u v) : of.getD u.toNat 0 = of.getD v.toNat 0 := by
  refine hr.ind (p := fun v => of.getD u.toNat 0 = of.getD v.toNat 0) rfl (fun d hd _ ih => ?_)
  have h1 := h d hd
  have h2 := h (Sp.oth d) (oth_lt hd hev)
  rw [oth_oth] at h2
  omega
/-- The numbers, laid so far. -/
structure Sp.NumS (of num : List Int) (N v k : Nat) : Prop where
  len : num.length = N
  bd : ∀ i, i < v → 0 ≤ num.getD i 0 ∧ num.getD i 0 < (k : Int)
  same : ∀ i j, i < v → j < v → (num.getD i 0 = num.getD j 0 ↔ of.getD i 0 = of.getD j 0)
  rg : ∀ i, i < v → ∀ c, 0 ≤ c → c < num.getD i 0 → ∃ j, j < i ∧ num.getD j 0 = c
  on : ∀ c : Nat, c < k → ∃ i, i < v ∧ num.getD i 0 = (c : Int)
theorem Sp.NumS.first (of : List Int) (N : Nat) : Sp.NumS of (List.replicate N 0) N 0 0 := ⟨by simp, fun i hi => by omega, fun i j hi => by omega, fun i hi => by omega, fun c hc => by omega⟩
theorem Sp.NumS.new {tl of num : List Int} {N v k : Nat} (h : Sp.NumS of num N v k) (hi : Sp.RInv tl of N) (hv : v < N) (he : of.getD v 0 = (v : Int)) : Sp.NumS of (num.set v (k : Int)) N (v + 1) (k + 1) := by
  have hg : ∀ i, (num.set v (k : Int)).getD i 0 = if i = v then (k : Int) else num.getD i 0 := fun i => getD_set_eq num i v k (by rw [h.len]; exact hv)
  have hne : ∀ i, i < v → of.getD i 0 ≠ of.getD v 0 := fun i h1 => by have := (hi.bd i (by omega)).2; omega
  refine ⟨by rw [List.length_set]; exact h.len, fun i h1 => ?_, fun i j h1 h2 => ?_, fun i h1 c c0 c1 => ?_, fun c hc => ?_⟩
  · rw [hg]
    split
    · omega
    · have := h.bd i (by omega); omega
  · rw [hg, hg]
    by_cases e1 : i = v <;> by_cases e2 : j = v
    · rw [if_pos e1, if_pos e2, e1, e2]; exact ⟨fun _ => rfl, fun _ => rfl⟩
    · rw [if_pos e1, if_neg e2, e1]
      have := h.bd j (by omega)
      have := hne j (by omega)
      exact ⟨fun e => by omega, fun e => absurd e.symm this⟩
    · rw [if_neg e1, if_pos e2, e2]
      have := h.bd i (by omega)
      have := hne i (by omega)
      exact ⟨fun e => by omega, fun e => absurd e this⟩
    · rw [if_neg e1, if_neg e2]; exact h.same i j (by omega) (by omega)
  · rw [hg] at c1
    by_cases e1 : i = v
    · rw [if_pos e1] at c1
      obtain ⟨j, h2, h3⟩ := h.on c.toNat (by omega)
      exact ⟨j, by omega, by rw [hg, if_neg (by omega), h3]; omega⟩
    · rw [if_neg e1] at c1
      obtain ⟨j, h2, h3⟩ := h.rg i (by omega) c c0 c1
      exact ⟨j, h2, by rw [hg, if_neg (by omega)]; exact h3⟩
  · by_cases e : c = k
    · exact ⟨v, by omega, by rw [hg, if_pos rfl, e]⟩
    · obtain ⟨i, h2, h3⟩ := h.on c (by omega)
      exact ⟨i, by omega, by rw [hg, if_neg (by omega)]; exact h3⟩
theorem Sp.NumS.old {tl of num : List Int} {N v k u : Nat} (h : Sp.NumS of num N v k) (hi : Sp.RInv tl of N) (hs : Sp.Still tl of tl.length) (hev : tl.length % 2 = 0) (hv : v < N) (hu : of.getD v 0 = (u : Int)) (hne : u ≠ v) : u < v ∧ Sp.NumS of (num.set v (num.getD u 0)) N (v + 1) k := by
  have huv : u < v := by have := (hi.bd v hv).2; omega
  have he : of.getD u 0 = of.getD v 0 := by
    have h1 := hs.reach hev (hi.rch v hv)
    rw [hu, Int.toNat_natCast, Int.toNat_natCast] at h1
    exact h1.symm
  have hg : ∀ i, (num.set v (num.getD u 0)).getD i 0 = if i = v then num.getD u 0 else num.getD i 0 := fun i => getD_set_eq num i v _ (by rw [h.len]; exact hv)
  refine ⟨huv, by rw [List.length_set]; exact h.len, fun i h1 => ?_, fun i j h1 h2 => ?_, fun i h1 c c0 c1 => ?_, fun c hc => ?_⟩
  · rw [hg]
    split
    · exact h.bd u huv
    · exact h.bd i (by omega)
  · rw [hg, hg]
    by_cases e1 : i = v <;> by_cases e2 : j = v
    · rw [if_pos e1, if_pos e2, e1, e2]; exact ⟨fun _ => rfl, fun _ => rfl⟩
    · rw [if_pos e1, if_neg e2, e1, ← he]; exact h.same u j huv (by omega)
    · rw [if_neg e1, if_pos e2, e2, ← he]; exact h.same i u (by omega) huv
    · rw [if_neg e1, if_neg e2]; exact h.same i j (by omega) (by omega)
  · rw [hg] at c1
    by_cases e1 : i = v
    · rw [if_pos e1] at c1
      obtain ⟨j, h2, h3⟩ := h.rg u huv c c0 c1
      exact ⟨j, by omega, by rw [hg, if_neg (by omega)]; exact h3⟩
    · rw [if_neg e1] at c1
      obtain ⟨j, h2, h3⟩ := h.rg i (by omega) c c0 c1
      exact ⟨j, h2, by rw [hg, if_neg (by omega)]; exact h3⟩
  · obtain ⟨i, h2, h3⟩ := h.on c hc
    exact ⟨i, by omega, by rw [hg, if_neg (by omega)]; exact h3⟩
theorem Sp.NumS.last {tl of num : List Int} {N k : Nat} (h : Sp.NumS of num N N k) (hi : Sp.RInv tl of N) (hs : Sp.Still tl of tl.length) (hev : tl.length % 2 = 0) : Sp.NSt N (fun i j => Sp.Reach tl i j) N num k := by
  refine ⟨h.len, fun i hi' => .inr (h.bd i hi'), fun i hi' => (h.bd i hi').1, fun i j h1 h2 hr => ?_, fun i j h1 h2 _ e => ?_, h.rg, h.on⟩
  · refine (h.same i j h1 h2).2 ?_
    have := hs.reach hev hr
    rw [Int.toNat_natCast, Int.toNat_natCast] at this
    exact this
  · have e2 := (h.same i j h1 h2).1 e
    have a1 := hi.rch i h1
    have a2 := hi.rch j h2
    rw [← e2] at a2
    exact a1.trans (a2.symm hev)
/-- The labels at first: each vertex its own. -/
theorem Sp.RInv.first {tl of : List Int} {N : Nat} (hl : of.length = N) (h : ∀ v, v < N → of.getD v 0 = (v : Int)) : Sp.RInv tl of N :=
  ⟨hl, fun v hv => by rw [h v hv]; omega, fun v hv => by rw [h v hv]; exact .refl _⟩
end Go.Proofs.Ytenffkplneimlab


