/- What the proof needs, part 12. -/
import Derived.Test.YtoegjnolccabjaaL11
/- A plane net is told so; a plane net turned is plane. -/
namespace Go.Proofs.Ytoegjnolccabjaa
open Go Go.RowKit

def Sp.turnC (tl : List Int) : List (List Int) → List Int → Bool
  | [], _ => true
  | r :: c, bg => if tl.getD (r.getD 0 0).toNat 0 ∈ bg then false
      else if r.all (fun d => tl.getD d.toNat 0 == tl.getD (r.getD 0 0).toNat 0) then Sp.turnC tl c (bg ++ [tl.getD (r.getD 0 0).toNat 0]) else false
theorem Sp.turnGo_cyc (tl : List Int) : ∀ (c : List (List Int)) (a bg : List Int), (∀ r ∈ c, r ≠ []) → Sp.turnGo tl (a ++ c.flatten) (Sp.offs a.length c) bg = Sp.turnC tl c bg
  | [], _, _, _ => rfl
  | r :: c, a, bg, h => by
    have e : a ++ (r :: c).flatten = a ++ (r ++ c.flatten) := by simp
    have hr := h r (by simp)
    have hg : (a ++ (r ++ c.flatten)).getD a.length 0 = r.getD 0 0 := by
      rw [List.getD_eq_getElem?_getD, List.getElem?_append_right (Nat.le_refl _), Nat.sub_self]
      cases r with
      | nil => exact absurd rfl hr
      | cons x r => rfl
    show (if tl.getD ((a ++ (r :: c).flatten).getD a.length 0).toNat 0 ∈ bg then false
      else if (Sp.piece (a ++ (r :: c).flatten) (a.length, a.length + r.length)).all (fun d => tl.getD d.toNat 0 == tl.getD ((a ++ (r :: c).flatten).getD a.length 0).toNat 0) then Sp.turnGo tl (a ++ (r :: c).flatten) (Sp.offs (a.length + r.length) c) (bg ++ [tl.getD ((a ++ (r :: c).flatten).getD a.length 0).toNat 0]) else false) = _
    rw [e, Sp.piece_at, hg]
    have ih := Sp.turnGo_cyc tl c (a ++ r) (bg ++ [tl.getD (r.getD 0 0).toNat 0]) (fun r' hr' => h r' (by simp [hr']))
    rw [List.length_append, List.append_assoc] at ih
    rw [ih]
    rfl
theorem rounds_head {st : List Int} (hp : Sp.Perm st) {d : Nat} (hd : d < st.length) : (Sp.rounds st d (Sp.per st d)).getD 0 0 = (d : Int) ∧ Sp.rounds st d (Sp.per st d) ≠ [] := by
  have h1 := (hp.per hd).1
  constructor
  · rw [Sp.getD_eq _ _ (by rw [Sp.rounds_len]; omega)]
    simp [Sp.rounds, Sp.nth]
  · intro e
    have := congrArg List.length e
    rw [Sp.rounds_len] at this
    simp at this
    omega
theorem Sp.turnC_of {st tl : List Int} (hp : Sp.Perm st) (hT : ∀ i, i < st.length → tl.getD (Sp.fn st i) 0 = tl.getD i 0) (hS : ∀ i j, i < st.length → j < st.length → tl.getD i 0 = tl.getD j 0 → OrbF (Sp.fn st) i j) :
    ∀ f d row bg, d + f = st.length → Sp.Shut st row → (∀ b ∈ bg, ∃ i : Nat, i < st.length ∧ (i : Int) ∈ row ∧ tl.getD i 0 = b) → Sp.turnC tl (Sp.cyc st f d row) bg = true
  | 0, _, _, _, _, _, _ => rfl
  | f + 1, d, row, bg, hd, hs, hb => by
    have hdl : d < st.length := by omega
    rw [Sp.cyc]
    by_cases hm : (d : Int) ∈ row
    · rw [if_pos hm]
      exact Sp.turnC_of hp hT hS f (d + 1) row bg (by omega) hs hb
    · rw [if_neg hm, Sp.turnC, (rounds_head hp hdl).1, Int.toNat_natCast]
      have hnb : ¬ tl.getD d 0 ∈ bg := fun h => by
        obtain ⟨i, h1, h2, h3⟩ := hb _ h
        exact hm (hs.orb hp h1 h2 (hS i d h1 hdl h3))
      have hall : (Sp.rounds st d (Sp.per st d)).all (fun x => tl.getD x.toNat 0 == tl.getD d 0) = true := by
        rw [List.all_eq_true]
        intro x hx
        obtain ⟨j, rfl, m, rfl⟩ := (hp.mem_rounds hdl x).1 hx
        rw [Int.toNat_natCast, beq_iff_eq]
        clear hx
        induction m with
        | zero => rfl
        | succ m ih => exact (hT _ (hp.fnP.it hdl m)).trans ih
      rw [if_neg hnb, if_pos hall]
      refine Sp.turnC_of hp hT hS f (d + 1) _ _ (by omega) (hs.add hp hdl) (fun b hb' => ?_)
      rcases List.mem_append.1 hb' with h1 | h1
      · obtain ⟨i, h2, h3, h4⟩ := hb b h1
        exact ⟨i, h2, List.mem_append_left _ h3, h4⟩
      · rw [List.mem_singleton] at h1
        exact ⟨d, hdl, List.mem_append_right _ ((hp.mem_rounds hdl _).2 ⟨d, rfl, OrbF.refl _ _⟩), h1.symm⟩
theorem Sp.turning_of {q : Sp.Net} (hp : Sp.Perm q.next) (hT : ∀ i, i < q.next.length → q.tail.getD (Sp.fn q.next i) 0 = q.tail.getD i 0) (hS : ∀ i j, i < q.next.length → j < q.next.length → q.tail.getD i 0 = q.tail.getD j 0 → OrbF (Sp.fn q.next) i j) : Sp.turningB q = true := by
  unfold Sp.turningB
  rw [Sp.rndsD_cyc hp, Sp.rnds_cyc hp]
  have h := Sp.turnGo_cyc q.tail (Sp.cycs q.next) [] [] (fun r hr => by
    obtain ⟨e, he, rfl⟩ := Sp.cyc_pos hp _ 0 [] (by omega) r hr
    exact (rounds_head hp he).2)
  rw [List.nil_append] at h
  have h2 := Sp.turnC_of hp hT hS q.next.length 0 [] [] (by omega) (fun i _ h => by simp at h) (fun b hb => by simp at hb)
  show (Sp.turnGo q.tail (Sp.cycs q.next).flatten (Sp.offs ([] : List Int).length (Sp.cycs q.next)) [] && true) = true
  rw [h, Bool.and_true]
  exact h2
theorem toNat_inj' {a b : Int} (ha : 0 ≤ a) (hb : 0 ≤ b) (h : a.toNat = b.toNat) : a = b := by omega
/-- The vertices' rounds, as the program asks for them. -/
theorem Sp.turning_cls {q : Sp.Net} (hp : Sp.Perm q.next) (hl : q.next.length = q.tail.length) (ht : ∀ x ∈ q.tail, 0 ≤ x ∧ x < q.n) (hv : Cls q.tail.length (Sp.fn q.next) (fun i => (q.tail.getD i 0).toNat) q.n.toNat) : Sp.turningB q = true := by
  have hb : ∀ i, i < q.tail.length → 0 ≤ q.tail.getD i 0 := fun i hi => (ht _ (Sp.getD_mem hi)).1
  have hmp : ∀ i, i < q.tail.length → Sp.fn q.next i < q.tail.length := fun i hi => by have := hp.fnP.mp i (by rw [hl]; exact hi); rw [hl] at this; exact this
  refine Sp.turning_of hp (fun i hi => ?_) (fun i j hi hj e => ?_)
  · rw [hl] at hi
    exact toNat_inj' (hb _ (hmp i hi)) (hb i hi) (hv.inv i hi)
  · rw [hl] at hi hj
    exact hv.sep i j hi hj (by show (q.tail.getD i 0).toNat = _; rw [e])
/-- A plane net that has darts is told so. -/
theorem Sp.check_plain {q : Sp.Net} (hw : Sp.walkB q = true) (hn : 1 ≤ q.n) (hp : Sp.Perm q.next) (hc : ∀ x ∈ q.cap, 0 ≤ x ∧ x ≤ 2147483648) (hl0 : 0 < q.tail.length) (h : Sp.Plain q) : Sp.checkI q = 0 := by
  have hq := walkQ hw
  have hw' := hw
  simp only [Sp.walkB, Bool.and_eq_true] at hw'
  obtain ⟨w1, w2, w3⟩ := hw'
  have hheld : Sp.heldB q = true := by
    unfold Sp.heldB Sp.capB
    rw [List.all_eq_true]
    intro x hx
    have := hc x hx
    simp [this]
  have htu := Sp.turning_cls hp hq.nx hq.tb h.vert
  have hpc := Sp.pieces_one hn hq.tb hq.ev h.conn
  obtain ⟨lab, F, hf, hE⟩ := h.face
  have hst := (Sp.faces2_st hp hq.nx hq.ev).cls
  rw [Sp.behindL_len, hq.nx] at hst
  have hmp : ∀ i, i < q.tail.length → Sp.fn (Sp.behindL q.next) i < q.tail.length := fun i hi => by
    have := (hp.behind (by rw [hq.nx]; exact hq.ev)).fnP.mp i (by rw [Sp.behindL_len, hq.nx]; exact hi)
    rw [Sp.behindL_len, hq.nx] at this; exact this
  have hK := hst.count hmp hf
  have hF0 : 0 < F := by have := hf.lt 0 hl0; omega
  have hfn : Sp.facesN q = F := by rw [(Sp.faces_eq hp hq.nx hq.ev).2, hK]; omega
  unfold Sp.checkI
  rw [if_neg (by rw [w1]; decide), if_neg (by rw [w2]; decide), if_neg (by omega), if_neg (by rw [w3]; decide), if_neg (by rw [htu]; decide), if_neg (by rw [hheld]; decide), if_neg (by rw [hpc]; decide), if_neg (by rw [hfn, hE]; decide)]
theorem Sp.check_one : Sp.checkI ⟨1, [], [], []⟩ = 0 := by decide +kernel
theorem Sp.check_plane (ns : List Int) : Sp.checkI (Sp.plane ns) = 0 := by
  have hq := Sp.planeN_ok ns (min ns.length 24)
  rcases Sp.plane_plain ns with e | ⟨h1, h2⟩
  · rw [e]; exact Sp.check_one
  · have hle : (Sp.plane ns).tail.length ≤ 2 * min ns.length 24 := hq.le
    have hn1 : (Sp.plane ns).n ≤ ((min ns.length 24 : Nat) : Int) + 1 := hq.n1
    have hn0 : 1 ≤ (Sp.plane ns).n := hq.n0
    exact Sp.check_plain (walkB_of ⟨by omega, by omega, by omega, hq.ev, hq.nx, hq.cp, fun x hx => hq.pm.bd x hx, hq.tb⟩) hn0 hq.pm hq.cb h1 h2
/-- The net seen from behind. -/
def Sp.seen (q : Sp.Net) : Sp.Net := ⟨q.n, q.tail, Sp.turnL q.next, q.cap⟩
theorem fn_tb {nx : List Int} (hp : Sp.Perm nx) (hev : nx.length % 2 = 0) {x : Nat} (hx : x < nx.length) : Sp.fn (Sp.behindL (Sp.turnL nx)) (Sp.oth (Sp.fn (Sp.behindL nx) x)) = Sp.oth x ∧ Sp.oth (Sp.fn (Sp.behindL nx) x) < nx.length := by
  have ho := oth_lt hx hev
  have h1 : Sp.fn (Sp.behindL nx) x = Sp.fn nx (Sp.oth x) := fn_behind nx x hx
  have h2 := hp.fnP.mp _ ho
  have h3 : Sp.oth (Sp.fn (Sp.behindL nx) x) < nx.length := by rw [h1]; exact oth_lt h2 hev
  refine ⟨?_, h3⟩
  rw [fn_behind _ _ (by rw [Sp.turnL_len]; exact h3), oth_oth, h1, Sp.fn_turn hp ho]
theorem orb_turn {st : List Int} (hp : Sp.Perm st) {g : Nat → Nat} (hg : ∀ x, x < st.length → g (Sp.oth (Sp.fn st x)) = Sp.oth x) {i : Nat} (hi : i < st.length) : ∀ m, OrbF g (Sp.oth (itf (Sp.fn st) i m)) (Sp.oth i)
  | 0 => OrbF.refl _ _
  | m + 1 => OrbF.trans ⟨1, hg _ (hp.fnP.it hi m)⟩ (orb_turn hp hg hi m)
theorem Sp.Plain.seen {q : Sp.Net} (hp : Sp.Perm q.next) (hl : q.next.length = q.tail.length) (hev : q.tail.length % 2 = 0) (h : Sp.Plain q) : Sp.Plain (Sp.seen q) := by
  have hmp : ∀ i, i < q.tail.length → Sp.fn q.next i < q.tail.length := fun i hi => by have := hp.fnP.mp i (by rw [hl]; exact hi); rw [hl] at this; exact this
  have hmpt : ∀ i, i < q.tail.length → Sp.fn (Sp.turnL q.next) i < q.tail.length := fun i hi => by have := hp.turn.fnP.mp i (by rw [Sp.turnL_len, hl]; exact hi); rw [Sp.turnL_len, hl] at this; exact this
  have hback : ∀ i, i < q.tail.length → ∀ m, OrbF (Sp.fn (Sp.turnL q.next)) (itf (Sp.fn q.next) i m) i := by
    intro i hi m
    induction m with
    | zero => exact OrbF.refl _ _
    | succ m ih =>
      have hb : itf (Sp.fn q.next) i m < q.next.length := hp.fnP.it (by rw [hl]; exact hi) m
      exact OrbF.trans ⟨1, Sp.fn_turn hp hb⟩ ih
  refine ⟨?_, ?_, h.conn⟩
  · show Cls q.tail.length (Sp.fn (Sp.turnL q.next)) (fun i => (q.tail.getD i 0).toNat) q.n.toNat
    refine ⟨h.vert.lt, h.vert.on, fun i hi => ?_, fun i j hi hj e => ?_⟩
    · have h1 := h.vert.inv _ (hmpt i hi)
      rw [Sp.fn_turn' hp (by rw [hl]; exact hi)] at h1
      exact h1.symm
    · obtain ⟨m, hm⟩ := h.vert.sep j i hj hi e.symm
      have := hback j hj m
      rw [hm] at this
      exact this
  · obtain ⟨lab, F, hf, hE⟩ := h.face
    have hbp := hp.behind (by rw [hl]; exact hev)
    have hbl : (Sp.behindL q.next).length = q.tail.length := by rw [Sp.behindL_len, hl]
    refine ⟨fun x => lab (Sp.oth x), F, ?_, hE⟩
    show Cls q.tail.length (Sp.fn (Sp.behindL (Sp.turnL q.next))) (fun x => lab (Sp.oth x)) F
    have hg : ∀ x, x < q.tail.length → Sp.fn (Sp.behindL (Sp.turnL q.next)) (Sp.oth (Sp.fn (Sp.behindL q.next) x)) = Sp.oth x := fun x hx => (fn_tb hp (by rw [hl]; exact hev) (by rw [hl]; exact hx)).1
    refine ⟨fun i hi => hf.lt _ (oth_lt hi hev), fun c hc => ?_, fun i hi => ?_, fun i j hi hj e => ?_⟩
    · obtain ⟨i, h1, h2⟩ := hf.on c hc
      exact ⟨Sp.oth i, oth_lt h1 hev, by show lab (Sp.oth (Sp.oth i)) = c; rw [oth_oth]; exact h2⟩
    · -- i is the other of what comes behind some dart
      obtain ⟨y, hy, ey⟩ := hbp.onto (j := Sp.oth i) (by rw [hbl]; exact oth_lt hi hev)
      rw [hbl] at hy
      have ei : i = Sp.oth (Sp.fn (Sp.behindL q.next) y) := by rw [ey, oth_oth]
      show lab (Sp.oth (Sp.fn (Sp.behindL (Sp.turnL q.next)) i)) = lab (Sp.oth i)
      rw [ei, hg y hy, oth_oth, oth_oth, hf.inv y hy]
    · obtain ⟨m, hm⟩ := hf.sep (Sp.oth j) (Sp.oth i) (oth_lt hj hev) (oth_lt hi hev) (show lab (Sp.oth j) = lab (Sp.oth i) from e.symm)
      have := orb_turn hbp (g := Sp.fn (Sp.behindL (Sp.turnL q.next))) (fun x hx => hg x (by rw [← hbl]; exact hx)) (i := Sp.oth j) (by rw [hbl]; exact oth_lt hj hev) m
      rw [hm, oth_oth, oth_oth] at this
      exact this
end Go.Proofs.Ytoegjnolccabjaa


/- What the third law's statements share. -/
namespace Go.Proofs.Ytoegjnolccabjaa
open Go Go.RowKit

theorem Sp.linkQ_plane (ns : List Int) : Sp.LinkQ (Sp.plane ns) := by
  have h := Sp.plane_ok ns
  have hl : (Sp.plane ns).tail.length ≤ 48 := h.le
  exact ⟨h.nx, h.cp, by omega, h.ev, h.pm⟩
end Go.Proofs.Ytoegjnolccabjaa


/- The dual of a plane net is plane. -/
namespace Go.Proofs.Ytoegjnolccabjaa
open Go Go.RowKit

theorem Sp.behind_twice {nx : List Int} (hev : nx.length % 2 = 0) : Sp.behindL (Sp.behindL nx) = nx := by
  have hl : (Sp.behindL (Sp.behindL nx)).length = nx.length := by rw [Sp.behindL_len, Sp.behindL_len]
  refine List.ext_getElem hl fun i h1 h2 => ?_
  have ho := oth_lt h2 hev
  have e : (Sp.behindL (Sp.behindL nx)).getD i 0 = nx.getD i 0 := by
    rw [Sp.behindL_get _ _ (by rw [Sp.behindL_len]; exact h2), Sp.behindL_get _ _ ho, oth_oth]
  rw [Sp.getD_eq _ _ h1, Sp.getD_eq _ _ h2] at e
  exact e
/-- What is asked of a plane net, small enough for its dual to be one. -/
structure Sp.DualQ (q : Sp.Net) : Prop where
  link : Sp.LinkQ q
  le : q.tail.length ≤ 48
  l0 : 0 < q.tail.length
  n0 : 1 ≤ q.n
  n1 : q.n ≤ 60
  tb : ∀ x ∈ q.tail, 0 ≤ x ∧ x < q.n
  cb : ∀ x ∈ q.cap, 0 ≤ x ∧ x ≤ 2147483648
  pl : Sp.Plain q
theorem Sp.DualQ.fp {q : Sp.Net} (h : Sp.DualQ q) : Sp.Perm (Sp.behindL q.next) := h.link.pm.behind (by rw [h.link.nx]; exact h.link.ev)
theorem Sp.DualQ.bl {q : Sp.Net} (h : Sp.DualQ q) : (Sp.behindL q.next).length = q.tail.length := by rw [Sp.behindL_len, h.link.nx]
theorem Sp.DualQ.cls {q : Sp.Net} (h : Sp.DualQ q) : Cls q.tail.length (Sp.fn (Sp.behindL q.next)) (fun i => ((Sp.faces2 q).1.getD i 0).toNat) (Sp.faces2 q).2 := by
  have hst := (Sp.faces2_st h.link.pm h.link.nx h.link.ev).cls
  rw [h.bl] at hst
  exact hst
theorem Sp.DualQ.mp {q : Sp.Net} (h : Sp.DualQ q) : ∀ i, i < q.tail.length → Sp.fn (Sp.behindL q.next) i < q.tail.length := fun i hi => by
  have := h.fp.fnP.mp i (by rw [h.bl]; exact hi)
  rw [h.bl] at this; exact this
theorem Sp.DualQ.mpN {q : Sp.Net} (h : Sp.DualQ q) : ∀ i, i < q.tail.length → Sp.fn q.next i < q.tail.length := fun i hi => by
  have := h.link.pm.fnP.mp i (by rw [h.link.nx]; exact hi)
  rw [h.link.nx] at this; exact this
theorem Sp.DualQ.k1 {q : Sp.Net} (h : Sp.DualQ q) : 1 ≤ (Sp.faces2 q).2 := by have := h.cls.lt 0 h.l0; omega
theorem Sp.DualQ.euler {q : Sp.Net} (h : Sp.DualQ q) : q.n - ((q.tail.length / 2 : Nat) : Int) + (((Sp.faces2 q).2 : Nat) : Int) = 2 := by
  obtain ⟨lab, F, hf, hE⟩ := h.pl.face
  rw [h.cls.count h.mp hf]
  exact hE
/-- Labels, as numbers. -/
theorem Sp.DualQ.fb {q : Sp.Net} (h : Sp.DualQ q) {i : Nat} (hi : i < q.tail.length) : 0 ≤ (Sp.faces2 q).1.getD i 0 ∧ (Sp.faces2 q).1.getD i 0 < ((Sp.faces2 q).2 : Int) := by
  have hst := Sp.faces2_st h.link.pm h.link.nx h.link.ev
  have h1 := hst.done i (by rw [h.bl]; exact hi)
  have h2 := h.cls.lt i hi
  omega
theorem Sp.DualQ.turn {q : Sp.Net} (h : Sp.DualQ q) {d : Nat} (hd : d < q.tail.length) : (Sp.faces2 q).1.getD (Sp.fn q.next d) 0 = (Sp.faces2 q).1.getD (Sp.oth d) 0 := by
  have ho := oth_lt hd h.link.ev
  have e : Sp.fn (Sp.behindL q.next) (Sp.oth d) = Sp.fn q.next d := by
    unfold Sp.fn
    rw [Sp.behindL_get _ _ (by rw [h.link.nx]; exact ho), oth_oth]
  have h1 := h.cls.inv _ ho
  rw [e] at h1
  have h2 := h.fb (h.mpN d hd)
  have h3 := h.fb ho
  omega
theorem Sp.DualQ.about {q : Sp.Net} (h : Sp.DualQ q) {d : Nat} (hd : d < q.tail.length) (m : Nat) : Sp.Reach (Sp.faces2 q).1 ((Sp.faces2 q).1.getD d 0) ((Sp.faces2 q).1.getD (itf (Sp.fn q.next) d m) 0) := by
  have hF := Sp.faces2_len q
  have hb : ∀ m, itf (Sp.fn q.next) d m < q.tail.length := fun m => by
    have := h.link.pm.fnP.it (by rw [h.link.nx]; exact hd) m
    rw [h.link.nx] at this; exact this
  induction m with
  | zero => exact .refl _
  | succ m ih =>
    show Sp.Reach _ _ ((Sp.faces2 q).1.getD (Sp.fn q.next (itf (Sp.fn q.next) d m)) 0)
    rw [h.turn (hb m)]
    exact ih.step (by rw [hF]; exact hb m)
theorem Sp.DualQ.same {q : Sp.Net} (h : Sp.DualQ q) {d e : Nat} (hd : d < q.tail.length) (he : e < q.tail.length) (ht : q.tail.getD d 0 = q.tail.getD e 0) : Sp.Reach (Sp.faces2 q).1 ((Sp.faces2 q).1.getD d 0) ((Sp.faces2 q).1.getD e 0) := by
  obtain ⟨m, rfl⟩ := h.pl.vert.sep d e hd he (by show (q.tail.getD d 0).toNat = (q.tail.getD e 0).toNat; rw [ht])
  exact h.about hd m
theorem Sp.DualQ.all {q : Sp.Net} (h : Sp.DualQ q) {d : Nat} (hd : d < q.tail.length) {v : Int} (hr : Sp.Reach q.tail (q.tail.getD d 0) v) : ∀ e, e < q.tail.length → q.tail.getD e 0 = v → Sp.Reach (Sp.faces2 q).1 ((Sp.faces2 q).1.getD d 0) ((Sp.faces2 q).1.getD e 0) := by
  have hF := Sp.faces2_len q
  refine hr.ind (p := fun v => ∀ e, e < q.tail.length → q.tail.getD e 0 = v → Sp.Reach (Sp.faces2 q).1 ((Sp.faces2 q).1.getD d 0) ((Sp.faces2 q).1.getD e 0)) (fun e he hv => h.same hd he hv.symm) fun c hc _ ih e he hv => ?_
  have ho := oth_lt hc h.link.ev
  have h1 := (ih c hc rfl).step (by rw [hF]; exact hc)
  exact h1.trans (h.same ho he hv.symm)
theorem Sp.DualQ.plain {q : Sp.Net} (h : Sp.DualQ q) : Sp.Plain (Sp.dual q) := by
  have hF := Sp.faces2_len q
  have hk := h.k1
  have hn : (Sp.dual q).n = (((Sp.faces2 q).2 : Nat) : Int) := by show ((max (Sp.faces2 q).2 1 : Nat) : Int) = _; omega
  have ht : (Sp.dual q).tail = (Sp.faces2 q).1 := rfl
  have hx : (Sp.dual q).next = Sp.behindL q.next := rfl
  refine ⟨?_, ⟨fun i => (q.tail.getD i 0).toNat, q.n.toNat, ?_, ?_⟩, fun v h0 h1 => ?_⟩
  · rw [ht, hF, hx, hn, Int.toNat_natCast]
    exact h.cls
  · rw [ht, hF, hx, Sp.behind_twice (by rw [h.link.nx]; exact h.link.ev)]
    exact h.pl.vert
  · rw [hn, ht, hF]
    have := h.euler
    have := h.n0
    omega
  · rw [ht]
    rw [hn] at h1
    obtain ⟨x, hx1, hx2⟩ := h.cls.on 0 (by omega)
    obtain ⟨y, hy1, hy2⟩ := h.cls.on v.toNat (by omega)

    have bx := h.fb hx1
    have bY := h.fb hy1
    have ex : (Sp.faces2 q).1.getD x 0 = 0 := by omega
    have ey : (Sp.faces2 q).1.getD y 0 = v := by omega
    have tx := h.tb _ (Sp.getD_mem (l := q.tail) hx1)
    have ty := h.tb _ (Sp.getD_mem (l := q.tail) hy1)
    have r := ((h.pl.conn _ tx.1 tx.2).symm h.link.ev).trans (h.pl.conn _ ty.1 ty.2)
    have := h.all hx1 r y hy1 rfl
    rw [ex, ey] at this
    exact this
theorem Sp.DualQ.half {q : Sp.Net} (h : Sp.DualQ q) : (Sp.faces2 q).2 ≤ 48 := by have := Sp.faces2_le q; have := h.le; omega
theorem Sp.DualQ.dlink {q : Sp.Net} (h : Sp.DualQ q) : Sp.LinkQ (Sp.dual q) := by
  have hF := Sp.faces2_len q
  refine ⟨?_, ?_, ?_, ?_, h.fp⟩
  · show (Sp.behindL q.next).length = (Sp.faces2 q).1.length; rw [hF, h.bl]
  · show q.cap.length = (Sp.faces2 q).1.length; rw [hF, h.link.cp]
  · show (Sp.faces2 q).1.length ≤ 60; rw [hF]; exact h.link.le
  · show (Sp.faces2 q).1.length % 2 = 0; rw [hF]; exact h.link.ev
theorem Sp.DualQ.dtb {q : Sp.Net} (h : Sp.DualQ q) : ∀ x ∈ (Sp.dual q).tail, 0 ≤ x ∧ x < (Sp.dual q).n := by
  have hF := Sp.faces2_len q
  have hk := h.k1
  have hn : (Sp.dual q).n = (((Sp.faces2 q).2 : Nat) : Int) := by show ((max (Sp.faces2 q).2 1 : Nat) : Int) = _; omega
  intro x hx
  rw [hn]
  have hx' : x ∈ (Sp.faces2 q).1 := hx
  obtain ⟨i, hi, rfl⟩ := List.getElem_of_mem hx'
  have := h.fb (i := i) (by rw [← hF]; exact hi)
  rw [Sp.getD_eq _ _ hi] at this
  exact this
theorem Sp.DualQ.dn {q : Sp.Net} (h : Sp.DualQ q) : (Sp.dual q).n = (((Sp.faces2 q).2 : Nat) : Int) := by
  have hk := h.k1
  show ((max (Sp.faces2 q).2 1 : Nat) : Int) = _
  omega
theorem Sp.DualQ.dualQ {q : Sp.Net} (h : Sp.DualQ q) : Sp.DualQ (Sp.dual q) := by
  have hF := Sp.faces2_len q
  have hk := h.k1
  have hh := h.half
  refine ⟨h.dlink, ?_, ?_, ?_, ?_, h.dtb, h.cb, h.plain⟩
  · show (Sp.faces2 q).1.length ≤ 48; rw [hF]; exact h.le
  · show 0 < (Sp.faces2 q).1.length; rw [hF]; exact h.l0
  · rw [h.dn]; omega
  · rw [h.dn]; omega
theorem Sp.DualQ.walk {q : Sp.Net} (h : Sp.DualQ q) : Sp.walkB q = true :=
  walkB_of ⟨h.n1, by have := h.n0; omega, by have := h.le; omega, h.link.ev, h.link.nx, h.link.cp, h.link.pm.bd, h.tb⟩
/-- The dual's faces are as many as the vertices. -/
theorem Sp.DualQ.count {q : Sp.Net} (h : Sp.DualQ q) : ((max (Sp.faces2 (Sp.dual q)).2 1 : Nat) : Int) = q.n := by
  have e1 := h.euler
  have e2 := h.dualQ.euler
  rw [h.dn] at e2
  have hl : (Sp.dual q).tail.length = q.tail.length := Sp.faces2_len q
  rw [hl] at e2
  have := h.n0
  omega
theorem Sp.dualQ_plane (ns : List Int) : Sp.plane ns = ⟨1, [], [], []⟩ ∨ Sp.DualQ (Sp.plane ns) := by
  have hq := Sp.plane_ok ns
  rcases Sp.plane_plain ns with e | ⟨h1, h2⟩
  · exact .inl e
  · exact .inr ⟨Sp.linkQ_plane ns, hq.le, h1, hq.n0, by have := hq.n1; omega, hq.tb, hq.cb, h2⟩
end Go.Proofs.Ytoegjnolccabjaa


/- What a split face's halves are. -/
namespace Go.Proofs.Ytoegjnolccabjaa
open Go Go.RowKit

theorem getD_set0 (l : List Int) (i k : Nat) (v : Int) (hi : i < l.length) : (l.set i v).getD k 0 = if i = k then v else l.getD k 0 := by
  rw [List.getD_eq_getElem?_getD, List.getElem?_set, List.getD_eq_getElem?_getD]
  by_cases h : i = k
  · subst h
    rw [if_pos rfl, if_pos hi, if_pos rfl]
    rfl
  · rw [if_neg h, if_neg h]
theorem Sp.splitAt_in {x : Nat → Nat} {K f : Int} {jb : Nat} {F : List Int} {p : Nat} (hx : ∀ m, x m < F.length) (hi : ∀ m n, m < p → n < p → x m = x n → m = n) : ∀ j, j ≤ p → ∀ m, m < j → (Sp.splitAt x K f jb F j).getD (x m) 0 = if jb ≤ m then K else f
  | 0, _, m, h => by omega
  | j + 1, hj, m, h => by
    rw [Sp.splitAt, getD_set0 _ _ _ _ (by rw [Sp.splitAt_len]; exact hx j)]
    by_cases e : x j = x m
    · obtain rfl := hi j m (by omega) (by omega) e
      rw [if_pos rfl]
    · rw [if_neg e]
      refine Sp.splitAt_in hx hi j (by omega) m ?_
      rcases Nat.lt_or_ge m j with h1 | h1
      · exact h1
      · exact absurd (by rw [show m = j by omega]) e
theorem Sp.splitAt_out {x : Nat → Nat} {K f : Int} {jb : Nat} {F : List Int} (hx : ∀ m, x m < F.length) {i : Nat} : ∀ j, (∀ m, m < j → x m ≠ i) → (Sp.splitAt x K f jb F j).getD i 0 = F.getD i 0
  | 0, _ => rfl
  | j + 1, h => by
    rw [Sp.splitAt, getD_set0 _ _ _ _ (by rw [Sp.splitAt_len]; exact hx j), if_neg (h j (by omega))]
    exact Sp.splitAt_out hx j fun m hm => h m (by omega)
theorem cnt_two (p : Nat → Bool) {u v : Nat} (huv : u ≠ v) : ∀ n, (∀ i, i < n → (p i = true ↔ i = u ∨ i = v)) → Sp.cnt p n = (if u < n then 1 else 0) + (if v < n then 1 else 0)
  | 0, _ => by rw [if_neg (by omega), if_neg (by omega)]; rfl
  | n + 1, h => by
    have ih := cnt_two p huv n fun i hi => h i (by omega)
    rw [Sp.cnt_succ, ih]
    have hn := h n (by omega)
    by_cases hp : p n = true
    · rw [if_pos hp]
      have hc := hn.1 hp
      split <;> split <;> split <;> split <;> omega
    · rw [if_neg hp]
      have h1 : n ≠ u := fun e => hp (hn.2 (.inl e))
      have h2 : n ≠ v := fun e => hp (hn.2 (.inr e))
      split <;> split <;> split <;> split <;> omega
/-- The halves of a face that is split between s and t. -/
structure Sp.HalfQ (q : Sp.Net) (s t : Int) (f K : Nat) (L : List Int) : Prop where
  len : L.length = q.tail.length
  out : ∀ i, i < q.tail.length → (Sp.faces2 q).1.getD i 0 ≠ (f : Int) → L.getD i 0 = (Sp.faces2 q).1.getD i 0
  inn : ∀ i, i < q.tail.length → (Sp.faces2 q).1.getD i 0 = (f : Int) → L.getD i 0 = (f : Int) ∨ L.getD i 0 = (K : Int)
  fK : f < K
  lt : ∀ i, i < q.tail.length → (Sp.faces2 q).1.getD i 0 < (K : Int)
  has1 : ∃ i, i < q.tail.length ∧ L.getD i 0 = (f : Int)
  has2 : ∃ i, i < q.tail.length ∧ L.getD i 0 = (K : Int)
  step : ∀ d, d < q.tail.length → L.getD d 0 = L.getD (Sp.fn (Sp.behindL q.next) d) 0 ∨ (L.getD (Sp.fn (Sp.behindL q.next) d) 0 = (K : Int) ∧ q.tail.getD (Sp.fn (Sp.behindL q.next) d) 0 = t) ∨ (L.getD (Sp.fn (Sp.behindL q.next) d) 0 = (f : Int) ∧ q.tail.getD (Sp.fn (Sp.behindL q.next) d) 0 = s)
  turns : Sp.cnt (fun d => L.getD d 0 != L.getD (Sp.fn (Sp.behindL q.next) d) 0) q.tail.length = 2
theorem Sp.DualQ.halves {q : Sp.Net} (h : Sp.DualQ q) {s t : Int} {f d0 a jb : Nat} (hs : Sp.SplitQ q s t f d0 a jb) : Sp.HalfQ q s t f (max (Sp.faces2 q).2 1) (Sp.splitL q f d0 a jb) := by
  have hF := Sp.faces2_len q
  have hb := h.fp
  have hlb := h.bl
  have hdb : d0 < (Sp.behindL q.next).length := by rw [hlb]; exact hs.d0l
  have hk := h.k1
  have hK : max (Sp.faces2 q).2 1 = (Sp.faces2 q).2 := by omega
  have hxa : itf (Sp.fn (Sp.behindL q.next)) d0 a < (Sp.behindL q.next).length := hb.fnP.it hdb a
  have hper := per_along hb hdb a
  have hxl : ∀ m, itf (Sp.fn (Sp.behindL q.next)) d0 (a + m) < q.tail.length := fun m => by have := hb.fnP.it hdb (a + m); rw [hlb] at this; exact this
  have hxF : ∀ m, itf (Sp.fn (Sp.behindL q.next)) d0 (a + m) < (Sp.faces2 q).1.length := fun m => by rw [hF]; exact hxl m
  have hfa : ∀ m, (Sp.faces2 q).1.getD (itf (Sp.fn (Sp.behindL q.next)) d0 (a + m)) 0 = (f : Int) := fun m => by rw [Sp.faces_along h.link hs.d0l, hs.d0f]
  have hinj : ∀ m n, m < Sp.per (Sp.behindL q.next) d0 → n < Sp.per (Sp.behindL q.next) d0 → itf (Sp.fn (Sp.behindL q.next)) d0 (a + m) = itf (Sp.fn (Sp.behindL q.next)) d0 (a + n) → m = n := fun m n hm hn e => by
    rw [itf_add, itf_add] at e
    rcases Nat.lt_trichotomy m n with h1 | h1 | h1
    · exact absurd e (itf_apart hb hxa h1 (by rw [hper]; exact hn))
    · exact h1
    · exact absurd e.symm (itf_apart hb hxa h1 (by rw [hper]; exact hm))
  have hcov : ∀ i, i < q.tail.length → (Sp.faces2 q).1.getD i 0 = (f : Int) → ∃ m, m < Sp.per (Sp.behindL q.next) d0 ∧ itf (Sp.fn (Sp.behindL q.next)) d0 (a + m) = i := fun i hi e => by
    obtain ⟨m, h1, h2⟩ := Sp.faces_orb h.link (d := itf (Sp.fn (Sp.behindL q.next)) d0 a) (by rw [← hlb]; exact hxa) hi (by rw [e, ← hfa 0, Nat.add_zero])
    rw [hper] at h1
    exact ⟨m, h1, by rw [itf_add]; exact h2⟩
  have hin : ∀ m, m < Sp.per (Sp.behindL q.next) d0 → (Sp.splitL q f d0 a jb).getD (itf (Sp.fn (Sp.behindL q.next)) d0 (a + m)) 0 = if jb ≤ m then ((max (Sp.faces2 q).2 1 : Nat) : Int) else (f : Int) := fun m hm =>
    Sp.splitAt_in (x := fun j => itf (Sp.fn (Sp.behindL q.next)) d0 (a + j)) hxF hinj _ (Nat.le_refl _) m hm
  have hout : ∀ i, i < q.tail.length → (Sp.faces2 q).1.getD i 0 ≠ (f : Int) → (Sp.splitL q f d0 a jb).getD i 0 = (Sp.faces2 q).1.getD i 0 := fun i hi e =>
    Sp.splitAt_out (x := fun j => itf (Sp.fn (Sp.behindL q.next)) d0 (a + j)) hxF _ fun m _ e2 => e (by rw [← e2]; exact hfa m)
  have hper0 : itf (Sp.fn (Sp.behindL q.next)) d0 (a + Sp.per (Sp.behindL q.next) d0) = itf (Sp.fn (Sp.behindL q.next)) d0 (a + 0) := by
    have := itf_mod hb hdb (a + Sp.per (Sp.behindL q.next) d0)
    rw [← this, Nat.add_mod_right, itf_mod hb hdb, Nat.add_zero]
  have hfn : ∀ m, Sp.fn (Sp.behindL q.next) (itf (Sp.fn (Sp.behindL q.next)) d0 (a + m)) = itf (Sp.fn (Sp.behindL q.next)) d0 (a + (m + 1)) := fun m => rfl
  have hlF : ∀ i, i < q.tail.length → (Sp.faces2 q).1.getD i 0 < ((max (Sp.faces2 q).2 1 : Nat) : Int) := fun i hi => by rw [hK]; exact (h.fb hi).2
  have hfK : f < max (Sp.faces2 q).2 1 := by have := hlF d0 hs.d0l; rw [hs.d0f] at this; omega
  have b0 := hs.b0
  have bl := hs.bl
  have hdiff : ∀ d, d < q.tail.length → ((Sp.splitL q f d0 a jb).getD d 0 = (Sp.splitL q f d0 a jb).getD (Sp.fn (Sp.behindL q.next) d) 0 ∧ d ≠ itf (Sp.fn (Sp.behindL q.next)) d0 (a + (jb - 1)) ∧ d ≠ itf (Sp.fn (Sp.behindL q.next)) d0 (a + (Sp.per (Sp.behindL q.next) d0 - 1))) ∨ (d = itf (Sp.fn (Sp.behindL q.next)) d0 (a + (jb - 1)) ∧ (Sp.splitL q f d0 a jb).getD d 0 = (f : Int) ∧ (Sp.splitL q f d0 a jb).getD (Sp.fn (Sp.behindL q.next) d) 0 = ((max (Sp.faces2 q).2 1 : Nat) : Int) ∧ q.tail.getD (Sp.fn (Sp.behindL q.next) d) 0 = t) ∨ (d = itf (Sp.fn (Sp.behindL q.next)) d0 (a + (Sp.per (Sp.behindL q.next) d0 - 1)) ∧ (Sp.splitL q f d0 a jb).getD d 0 = ((max (Sp.faces2 q).2 1 : Nat) : Int) ∧ (Sp.splitL q f d0 a jb).getD (Sp.fn (Sp.behindL q.next) d) 0 = (f : Int) ∧ q.tail.getD (Sp.fn (Sp.behindL q.next) d) 0 = s) := by
    intro d hd
    by_cases e : (Sp.faces2 q).1.getD d 0 = (f : Int)
    · obtain ⟨m, hm, rfl⟩ := hcov d hd e
      rw [hfn]
      by_cases h1 : m + 1 = Sp.per (Sp.behindL q.next) d0
      · refine .inr (.inr ⟨by rw [show m = Sp.per (Sp.behindL q.next) d0 - 1 by omega], ?_, ?_, ?_⟩)
        · rw [hin m hm, if_pos (by omega)]
        · rw [h1, hper0, hin 0 (by omega), if_neg (by omega)]
        · rw [h1, hper0, Nat.add_zero]; exact hs.at_
      · by_cases h2 : m + 1 = jb
        · refine .inr (.inl ⟨by rw [show m = jb - 1 by omega], ?_, ?_, ?_⟩)
          · rw [hin m hm, if_neg (by omega)]
          · rw [h2, hin jb bl, if_pos (by omega)]
          · rw [h2]; exact hs.bt
        · refine .inl ⟨?_, fun e2 => ?_, fun e2 => ?_⟩
          · rw [hin m hm, hin (m + 1) (by omega)]
            by_cases h3 : jb ≤ m
            · rw [if_pos h3, if_pos (by omega)]
            · rw [if_neg h3, if_neg (by omega)]
          · have := hinj m (jb - 1) hm (by omega) e2; omega
          · have := hinj m _ hm (by omega) e2; omega
    · have he : (Sp.faces2 q).1.getD (Sp.fn (Sp.behindL q.next) d) 0 = (Sp.faces2 q).1.getD d 0 := Sp.faces_along h.link hd 1
      refine .inl ⟨?_, fun e2 => e (by rw [e2]; exact hfa _), fun e2 => e (by rw [e2]; exact hfa _)⟩
      rw [hout d hd e, hout _ (h.mp d hd) (by rw [he]; exact e), he]
  refine ⟨?_, hout, fun i hi e => ?_, hfK, hlF, ⟨_, hxl 0, by rw [hin 0 (by omega), if_neg (by omega)]⟩, ⟨_, hxl jb, by rw [hin jb bl, if_pos (by omega)]⟩, fun d hd => ?_, ?_⟩
  · unfold Sp.splitL
    rw [Sp.splitAt_len, hF]
  · obtain ⟨m, hm, rfl⟩ := hcov i hi e
    rw [hin m hm]
    by_cases h3 : jb ≤ m
    · rw [if_pos h3]; exact .inr rfl
    · rw [if_neg h3]; exact .inl rfl
  · rcases hdiff d hd with e | e | e
    · exact .inl e.1
    · exact .inr (.inl e.2.2)
    · exact .inr (.inr e.2.2)
  · have hne : itf (Sp.fn (Sp.behindL q.next)) d0 (a + (jb - 1)) ≠ itf (Sp.fn (Sp.behindL q.next)) d0 (a + (Sp.per (Sp.behindL q.next) d0 - 1)) := fun e => by
      have := hinj (jb - 1) _ (by omega) (by omega) e
      omega
    rw [cnt_two _ hne q.tail.length fun i hi => ?_, if_pos (hxl _), if_pos (hxl _)]
    rcases hdiff i hi with e | e | e
    · rw [bne_iff_ne]
      refine ⟨fun h1 => absurd e.1 h1, fun h1 => ?_⟩
      rcases h1 with h1 | h1
      · exact absurd h1 e.2.1
      · exact absurd h1 e.2.2
    · rw [bne_iff_ne, e.2.1, e.2.2.1]
      exact ⟨fun _ => .inl e.1, fun _ h2 => by omega⟩
    · rw [bne_iff_ne, e.2.1, e.2.2.1]
      exact ⟨fun _ => .inr e.1, fun _ h2 => by omega⟩
end Go.Proofs.Ytoegjnolccabjaa


/- The rise about a vertex sums to 0 but for both ends. -/
namespace Go.Proofs.Ytoegjnolccabjaa

def Sp.sumN (g : Nat → Int) : Nat → Int
  | 0 => 0
  | n + 1 => Sp.sumN g n + g n
theorem Sp.sumN_congr {g h : Nat → Int} : ∀ n, (∀ i, i < n → g i = h i) → Sp.sumN g n = Sp.sumN h n
  | 0, _ => rfl
  | n + 1, e => by rw [Sp.sumN, Sp.sumN, Sp.sumN_congr n (fun i hi => e i (by omega)), e n (by omega)]
theorem Sp.sumN_add (g h : Nat → Int) : ∀ n, Sp.sumN (fun i => g i + h i) n = Sp.sumN g n + Sp.sumN h n
  | 0 => rfl
  | n + 1 => by rw [Sp.sumN, Sp.sumN, Sp.sumN, Sp.sumN_add g h n]; omega
theorem Sp.sumN_sub (g h : Nat → Int) : ∀ n, Sp.sumN (fun i => g i - h i) n = Sp.sumN g n - Sp.sumN h n
  | 0 => rfl
  | n + 1 => by rw [Sp.sumN, Sp.sumN, Sp.sumN, Sp.sumN_sub g h n]; omega
theorem Sp.sumN_zero : ∀ n, Sp.sumN (fun _ => 0) n = 0
  | 0 => rfl
  | n + 1 => by rw [Sp.sumN, Sp.sumN_zero n]; rfl
theorem Sp.sumN_one (k : Nat) (x : Int) : ∀ n, Sp.sumN (fun i => if i = k then x else 0) n = if k < n then x else 0
  | 0 => by rw [if_neg (Nat.not_lt_zero _)]; rfl
  | n + 1 => by
    rw [Sp.sumN, Sp.sumN_one k x n]
    by_cases h : k < n
    · rw [if_pos h, if_neg (by omega), if_pos (by omega)]; omega
    · rw [if_neg h]
      by_cases h2 : n = k
      · rw [if_pos h2, if_pos (by omega)]; omega
      · rw [if_neg h2, if_neg (by omega)]; rfl
theorem Sp.sumN_comm (g : Nat → Nat → Int) (m : Nat) : ∀ n, Sp.sumN (fun i => Sp.sumN (fun j => g i j) m) n = Sp.sumN (fun j => Sp.sumN (fun i => g i j) n) m
  | 0 => (Sp.sumN_zero m).symm
  | n + 1 => by
    rw [Sp.sumN, Sp.sumN_comm g m n, ← Sp.sumN_add]
    rfl
theorem Sp.sumN_perm {n : Nat} {f : Nat → Nat} (hm : ∀ i, i < n → f i < n) (hi : ∀ i j, i < n → j < n → f i = f j → i = j) (ho : ∀ j, j < n → ∃ i, i < n ∧ f i = j) (g : Nat → Int) : Sp.sumN (fun i => g (f i)) n = Sp.sumN g n := by
  have e1 : Sp.sumN (fun i => g (f i)) n = Sp.sumN (fun i => Sp.sumN (fun j => if j = f i then g (f i) else 0) n) n :=
    Sp.sumN_congr n fun i h => by rw [Sp.sumN_one, if_pos (hm i h)]
  rw [e1, Sp.sumN_comm]
  refine Sp.sumN_congr n fun j hj => ?_
  obtain ⟨k, hk, e⟩ := ho j hj
  have e2 : Sp.sumN (fun i => if j = f i then g (f i) else 0) n = Sp.sumN (fun i => if i = k then g j else 0) n :=
    Sp.sumN_congr n fun i h => by
      by_cases h2 : i = k
      · subst h2; rw [if_pos e.symm, if_pos rfl, e]
      · rw [if_neg (fun h3 => h2 (hi i k h hk (by rw [e, h3]))), if_neg h2]
  rw [e2, Sp.sumN_one, if_pos hk]
theorem Sp.DualQ.diff {q : Sp.Net} (h : Sp.DualQ q) {s t : Int} {f d0 a jb : Nat} (hs : Sp.SplitQ q s t f d0 a jb) : ∃ d1 d2, d1 < q.tail.length ∧ d2 < q.tail.length ∧ d1 ≠ d2 ∧ ∀ d, d < q.tail.length → ((Sp.splitL q f d0 a jb).getD d 0 = (Sp.splitL q f d0 a jb).getD (Sp.fn (Sp.behindL q.next) d) 0 ∧ d ≠ d1 ∧ d ≠ d2) ∨ (d = d1 ∧ (Sp.splitL q f d0 a jb).getD d 0 = (f : Int) ∧ (Sp.splitL q f d0 a jb).getD (Sp.fn (Sp.behindL q.next) d) 0 = ((max (Sp.faces2 q).2 1 : Nat) : Int) ∧ q.tail.getD (Sp.fn (Sp.behindL q.next) d) 0 = t) ∨ (d = d2 ∧ (Sp.splitL q f d0 a jb).getD d 0 = ((max (Sp.faces2 q).2 1 : Nat) : Int) ∧ (Sp.splitL q f d0 a jb).getD (Sp.fn (Sp.behindL q.next) d) 0 = (f : Int) ∧ q.tail.getD (Sp.fn (Sp.behindL q.next) d) 0 = s) := by
  have hF := Sp.faces2_len q
  have hb := h.fp
  have hlb := h.bl
  have hdb : d0 < (Sp.behindL q.next).length := by rw [hlb]; exact hs.d0l
  have hk := h.k1
  have hK : max (Sp.faces2 q).2 1 = (Sp.faces2 q).2 := by omega
  have hxa : itf (Sp.fn (Sp.behindL q.next)) d0 a < (Sp.behindL q.next).length := hb.fnP.it hdb a
  have hper := per_along hb hdb a
  have hxl : ∀ m, itf (Sp.fn (Sp.behindL q.next)) d0 (a + m) < q.tail.length := fun m => by have := hb.fnP.it hdb (a + m); rw [hlb] at this; exact this
  have hxF : ∀ m, itf (Sp.fn (Sp.behindL q.next)) d0 (a + m) < (Sp.faces2 q).1.length := fun m => by rw [hF]; exact hxl m
  have hfa : ∀ m, (Sp.faces2 q).1.getD (itf (Sp.fn (Sp.behindL q.next)) d0 (a + m)) 0 = (f : Int) := fun m => by rw [Sp.faces_along h.link hs.d0l, hs.d0f]
  have hinj : ∀ m n, m < Sp.per (Sp.behindL q.next) d0 → n < Sp.per (Sp.behindL q.next) d0 → itf (Sp.fn (Sp.behindL q.next)) d0 (a + m) = itf (Sp.fn (Sp.behindL q.next)) d0 (a + n) → m = n := fun m n hm hn e => by
    rw [itf_add, itf_add] at e
    rcases Nat.lt_trichotomy m n with h1 | h1 | h1
    · exact absurd e (itf_apart hb hxa h1 (by rw [hper]; exact hn))
    · exact h1
    · exact absurd e.symm (itf_apart hb hxa h1 (by rw [hper]; exact hm))
  have hcov : ∀ i, i < q.tail.length → (Sp.faces2 q).1.getD i 0 = (f : Int) → ∃ m, m < Sp.per (Sp.behindL q.next) d0 ∧ itf (Sp.fn (Sp.behindL q.next)) d0 (a + m) = i := fun i hi e => by
    obtain ⟨m, h1, h2⟩ := Sp.faces_orb h.link (d := itf (Sp.fn (Sp.behindL q.next)) d0 a) (by rw [← hlb]; exact hxa) hi (by rw [e, ← hfa 0, Nat.add_zero])
    rw [hper] at h1
    exact ⟨m, h1, by rw [itf_add]; exact h2⟩
  have hin : ∀ m, m < Sp.per (Sp.behindL q.next) d0 → (Sp.splitL q f d0 a jb).getD (itf (Sp.fn (Sp.behindL q.next)) d0 (a + m)) 0 = if jb ≤ m then ((max (Sp.faces2 q).2 1 : Nat) : Int) else (f : Int) := fun m hm =>
    Sp.splitAt_in (x := fun j => itf (Sp.fn (Sp.behindL q.next)) d0 (a + j)) hxF hinj _ (Nat.le_refl _) m hm
  have hout : ∀ i, i < q.tail.length → (Sp.faces2 q).1.getD i 0 ≠ (f : Int) → (Sp.splitL q f d0 a jb).getD i 0 = (Sp.faces2 q).1.getD i 0 := fun i hi e =>
    Sp.splitAt_out (x := fun j => itf (Sp.fn (Sp.behindL q.next)) d0 (a + j)) hxF _ fun m _ e2 => e (by rw [← e2]; exact hfa m)
  have hper0 : itf (Sp.fn (Sp.behindL q.next)) d0 (a + Sp.per (Sp.behindL q.next) d0) = itf (Sp.fn (Sp.behindL q.next)) d0 (a + 0) := by
    have := itf_mod hb hdb (a + Sp.per (Sp.behindL q.next) d0)
    rw [← this, Nat.add_mod_right, itf_mod hb hdb, Nat.add_zero]
  have hfn : ∀ m, Sp.fn (Sp.behindL q.next) (itf (Sp.fn (Sp.behindL q.next)) d0 (a + m)) = itf (Sp.fn (Sp.behindL q.next)) d0 (a + (m + 1)) := fun m => rfl
  have hlF : ∀ i, i < q.tail.length → (Sp.faces2 q).1.getD i 0 < ((max (Sp.faces2 q).2 1 : Nat) : Int) := fun i hi => by rw [hK]; exact (h.fb hi).2
  have hfK : f < max (Sp.faces2 q).2 1 := by have := hlF d0 hs.d0l; rw [hs.d0f] at this; omega
  have b0 := hs.b0
  have bl := hs.bl
  have hdiff : ∀ d, d < q.tail.length → ((Sp.splitL q f d0 a jb).getD d 0 = (Sp.splitL q f d0 a jb).getD (Sp.fn (Sp.behindL q.next) d) 0 ∧ d ≠ itf (Sp.fn (Sp.behindL q.next)) d0 (a + (jb - 1)) ∧ d ≠ itf (Sp.fn (Sp.behindL q.next)) d0 (a + (Sp.per (Sp.behindL q.next) d0 - 1))) ∨ (d = itf (Sp.fn (Sp.behindL q.next)) d0 (a + (jb - 1)) ∧ (Sp.splitL q f d0 a jb).getD d 0 = (f : Int) ∧ (Sp.splitL q f d0 a jb).getD (Sp.fn (Sp.behindL q.next) d) 0 = ((max (Sp.faces2 q).2 1 : Nat) : Int) ∧ q.tail.getD (Sp.fn (Sp.behindL q.next) d) 0 = t) ∨ (d = itf (Sp.fn (Sp.behindL q.next)) d0 (a + (Sp.per (Sp.behindL q.next) d0 - 1)) ∧ (Sp.splitL q f d0 a jb).getD d 0 = ((max (Sp.faces2 q).2 1 : Nat) : Int) ∧ (Sp.splitL q f d0 a jb).getD (Sp.fn (Sp.behindL q.next) d) 0 = (f : Int) ∧ q.tail.getD (Sp.fn (Sp.behindL q.next) d) 0 = s) := by
    intro d hd
    by_cases e : (Sp.faces2 q).1.getD d 0 = (f : Int)
    · obtain ⟨m, hm, rfl⟩ := hcov d hd e
      rw [hfn]
      by_cases h1 : m + 1 = Sp.per (Sp.behindL q.next) d0
      · refine .inr (.inr ⟨by rw [show m = Sp.per (Sp.behindL q.next) d0 - 1 by omega], ?_, ?_, ?_⟩)
        · rw [hin m hm, if_pos (by omega)]
        · rw [h1, hper0, hin 0 (by omega), if_neg (by omega)]
        · rw [h1, hper0, Nat.add_zero]; exact hs.at_
      · by_cases h2 : m + 1 = jb
        · refine .inr (.inl ⟨by rw [show m = jb - 1 by omega], ?_, ?_, ?_⟩)
          · rw [hin m hm, if_neg (by omega)]
          · rw [h2, hin jb bl, if_pos (by omega)]
          · rw [h2]; exact hs.bt
        · refine .inl ⟨?_, fun e2 => ?_, fun e2 => ?_⟩
          · rw [hin m hm, hin (m + 1) (by omega)]
            by_cases h3 : jb ≤ m
            · rw [if_pos h3, if_pos (by omega)]
            · rw [if_neg h3, if_neg (by omega)]
          · have := hinj m (jb - 1) hm (by omega) e2; omega
          · have := hinj m _ hm (by omega) e2; omega
    · have he : (Sp.faces2 q).1.getD (Sp.fn (Sp.behindL q.next) d) 0 = (Sp.faces2 q).1.getD d 0 := Sp.faces_along h.link hd 1
      refine .inl ⟨?_, fun e2 => e (by rw [e2]; exact hfa _), fun e2 => e (by rw [e2]; exact hfa _)⟩
      rw [hout d hd e, hout _ (h.mp d hd) (by rw [he]; exact e), he]
  exact ⟨_, _, hxl _, hxl _, fun e => by
    have := hinj (jb - 1) _ (by omega) (by omega) e
    omega, hdiff⟩
theorem Sp.DualQ.tailN {q : Sp.Net} (h : Sp.DualQ q) {d : Nat} (hd : d < q.tail.length) : q.tail.getD (Sp.fn q.next d) 0 = q.tail.getD d 0 := by
  have h1 := h.pl.vert.inv d hd
  have hb : ∀ i, i < q.tail.length → 0 ≤ q.tail.getD i 0 := fun i hi => by
    rw [List.getD_eq_getElem?_getD, List.getElem?_eq_getElem hi]
    exact (h.tb _ (List.getElem_mem hi)).1
  have h2 := hb _ (h.mpN d hd)
  have h3 := hb d hd
  omega
end Go.Proofs.Ytoegjnolccabjaa


/- The rise is a flow: about a vertex it sums to 0 but for both ends. -/
namespace Go.Proofs.Ytoegjnolccabjaa

theorem Sp.perm_onto {st : List Int} (hp : Sp.Perm st) {d : Nat} (hd : d < st.length) : ∃ i, i < st.length ∧ Sp.fn st i = d := by
  have h := hp.per hd
  refine ⟨itf (Sp.fn st) d (Sp.per st d - 1), hp.fnP.it hd _, ?_⟩
  show itf (Sp.fn st) d (Sp.per st d - 1 + 1) = d
  rw [show Sp.per st d - 1 + 1 = Sp.per st d by omega]
  have h2 := itf_mod hp hd (Sp.per st d)
  rw [Nat.mod_self] at h2
  exact h2.symm
theorem Sp.DualQ.vsum {q : Sp.Net} (h : Sp.DualQ q) {s t : Int} {f d0 a jb : Nat} (hs : Sp.SplitQ q s t f d0 a jb) (P : List Int) (u : Int) :
    Sp.sumN (fun d => if q.tail.getD d 0 = u then Sp.rise (Sp.splitL q f d0 a jb) P d else 0) q.tail.length = (if t = u then P.getD f 0 - P.getD (max (Sp.faces2 q).2 1) 0 else 0) + (if s = u then P.getD (max (Sp.faces2 q).2 1) 0 - P.getD f 0 else 0) := by
  obtain ⟨d1, d2, hd1, hd2, D12, hdf⟩ := h.diff hs
  have hhv := h.halves hs
  have hfK := hhv.fK
  generalize Sp.splitL q f d0 a jb = L at *
  generalize max (Sp.faces2 q).2 1 = K at *
  have hnl : q.next.length = q.tail.length := h.link.nx
  have ev := h.link.ev
  have hoo : ∀ d, d < q.tail.length → Sp.oth d < q.tail.length := fun d hd => oth_lt hd ev
  have hnx : ∀ d, d < q.tail.length → Sp.fn (Sp.behindL q.next) (Sp.oth d) = Sp.fn q.next d := fun d hd => by
    rw [fn_behind _ _ (by rw [hnl]; exact hoo d hd), oth_oth]
  -- what next leads to instead of the darts themselves
  have hB : Sp.sumN (fun d => if q.tail.getD d 0 = u then P.getD (L.getD d 0).toNat 0 else 0) q.tail.length = Sp.sumN (fun d => if q.tail.getD d 0 = u then P.getD (L.getD (Sp.fn q.next d) 0).toNat 0 else 0) q.tail.length := by
    have hp := Sp.sumN_perm (n := q.tail.length) (f := Sp.fn q.next) h.mpN (fun i j hi hj e => h.link.pm.fnP.inj i j (by rw [hnl]; exact hi) (by rw [hnl]; exact hj) e) (fun j hj => by
      obtain ⟨i, hi, e⟩ := Sp.perm_onto h.link.pm (d := j) (by rw [hnl]; exact hj)
      exact ⟨i, by rw [← hnl]; exact hi, e⟩) (fun d => if q.tail.getD d 0 = u then P.getD (L.getD d 0).toNat 0 else 0)
    rw [← hp]
    exact Sp.sumN_congr _ fun d hd => by simp only [h.tailN hd]
  have hA : Sp.sumN (fun d => if q.tail.getD d 0 = u then Sp.rise L P d else 0) q.tail.length = Sp.sumN (fun d => if q.tail.getD d 0 = u then P.getD (L.getD (Sp.oth d) 0).toNat 0 - P.getD (L.getD (Sp.fn q.next d) 0).toNat 0 else 0) q.tail.length := by
    have e1 : Sp.sumN (fun d => if q.tail.getD d 0 = u then Sp.rise L P d else 0) q.tail.length = Sp.sumN (fun d => (if q.tail.getD d 0 = u then P.getD (L.getD (Sp.oth d) 0).toNat 0 else 0) - (if q.tail.getD d 0 = u then P.getD (L.getD d 0).toNat 0 else 0)) q.tail.length := Sp.sumN_congr _ fun d _ => by
      unfold Sp.rise
      split <;> omega
    rw [e1, Sp.sumN_sub, hB, ← Sp.sumN_sub]
    exact Sp.sumN_congr _ fun d _ => by split <;> omega
  rw [hA]
  -- over the others
  have hp := Sp.sumN_perm (n := q.tail.length) (f := Sp.oth) hoo (fun i j _ _ e => by rw [← oth_oth i, e, oth_oth]) (fun j hj => ⟨Sp.oth j, hoo j hj, oth_oth j⟩) (fun d => if q.tail.getD d 0 = u then P.getD (L.getD (Sp.oth d) 0).toNat 0 - P.getD (L.getD (Sp.fn q.next d) 0).toNat 0 else 0)
  rw [← hp]
  have e2 : Sp.sumN (fun i => if q.tail.getD (Sp.oth i) 0 = u then P.getD (L.getD (Sp.oth (Sp.oth i)) 0).toNat 0 - P.getD (L.getD (Sp.fn q.next (Sp.oth i)) 0).toNat 0 else 0) q.tail.length = Sp.sumN (fun i => (if i = d1 then (if t = u then P.getD f 0 - P.getD K 0 else 0) else 0) + (if i = d2 then (if s = u then P.getD K 0 - P.getD f 0 else 0) else 0)) q.tail.length := Sp.sumN_congr _ fun e he => by
    have ho := hoo e he
    have e3 : Sp.fn q.next (Sp.oth e) = Sp.fn (Sp.behindL q.next) e := by rw [← hnx _ ho, oth_oth]
    have e4 : q.tail.getD (Sp.oth e) 0 = q.tail.getD (Sp.fn (Sp.behindL q.next) e) 0 := by rw [← e3, h.tailN ho]
    simp only [e3, e4, oth_oth]
    rcases hdf e he with ⟨g1, g2, g3⟩ | ⟨g1, g2, g3, g4⟩ | ⟨g1, g2, g3, g4⟩
    · rw [g1, if_neg g2, if_neg g3]
      split <;> omega
    · have g5 : e ≠ d2 := fun g => D12 (g1.symm.trans g)
      rw [if_pos g1, if_neg g5, g2, g3, g4, Int.toNat_natCast, Int.toNat_natCast]
      omega
    · have g5 : e ≠ d1 := fun g => D12 (g.symm.trans g1)
      rw [if_neg g5, if_pos g1, g2, g3, g4, Int.toNat_natCast, Int.toNat_natCast]
      omega
  rw [e2, Sp.sumN_add, Sp.sumN_one, Sp.sumN_one, if_pos hd1, if_pos hd2]
end Go.Proofs.Ytoegjnolccabjaa


/- In a plane net what sums to nothing about each vertex is a rise: of heights of its faces. -/
namespace Go.Proofs.Ytoegjnolccabjaa

/-- What sums to nothing about each vertex is a rise of heights that are one about each face. -/
def Sp.Cir (q : Sp.Net) : Prop := ∀ g : Nat → Int, (∀ d, d < q.tail.length → g (Sp.oth d) = - g d) → (∀ v : Int, Sp.sumN (fun d => if q.tail.getD d 0 = v then g d else 0) q.tail.length = 0) →
  ∃ H : Nat → Int, (∀ x, x < q.tail.length → H (Sp.fn (Sp.behindL q.next) x) = H x) ∧ ∀ d, d < q.tail.length → g d = H (Sp.oth d) - H d
/-- Heights that are one about each face: the rise sums to nothing about each vertex. -/
theorem Sp.PlaneQ.vzero {q : Sp.Net} {i : Nat} (hq : Sp.PlaneQ q i) {H : Nat → Int} (h : ∀ x, x < q.tail.length → H (Sp.fn (Sp.behindL q.next) x) = H x) (v : Int) :
    Sp.sumN (fun d => if q.tail.getD d 0 = v then H (Sp.oth d) - H d else 0) q.tail.length = 0 := by
  have e : Sp.sumN (fun d => if q.tail.getD d 0 = v then H (Sp.oth d) - H d else 0) q.tail.length = Sp.sumN (fun d => (if q.tail.getD (Sp.fn q.next d) 0 = v then H (Sp.fn q.next d) else 0) - (if q.tail.getD d 0 = v then H d else 0)) q.tail.length :=
    Sp.sumN_congr _ fun d hd => by
      have ho := oth_lt hd hq.ev
      have h1 := h _ ho
      rw [fn_behind _ _ (by rw [hq.nx]; exact ho), oth_oth] at h1
      have h2 : q.tail.getD (Sp.fn q.next d) 0 = q.tail.getD d 0 := hq.tn d (by rw [hq.nx]; exact hd)
      rw [h2, h1]
      by_cases e : q.tail.getD d 0 = v
      · rw [if_pos e, if_pos e, if_pos e]
      · rw [if_neg e, if_neg e, if_neg e]; rfl
  rw [e, Sp.sumN_sub, Sp.sumN_perm (f := Sp.fn q.next) (g := fun j => if q.tail.getD j 0 = v then H j else 0) hq.mpN (fun i j hi hj e => ?_) (fun j hj => ?_)]
  · omega
  · exact hq.pm.fnP.inj i j (by rw [hq.nx]; exact hi) (by rw [hq.nx]; exact hj) e
  · obtain ⟨i, h1, h2⟩ := Sp.perm_onto hq.pm (d := j) (by rw [hq.nx]; exact hj)
    exact ⟨i, by rw [hq.nx] at h1; exact h1, h2⟩
theorem Sp.Cir.loop (c d : Int) : Sp.Cir ⟨1, [0, 0], [1, 0], [c, d]⟩ := by
  intro g ha hv
  have h0 : g 1 = - g 0 := ha 0 (by show 0 < 2; omega)
  refine ⟨fun x => if x = 0 then 0 else g 0, fun x hx => ?_, fun d hd => ?_⟩
  · have hx' : x < 2 := hx
    rcases (show x = 0 ∨ x = 1 by omega) with rfl | rfl
    · rfl
    · rfl
  · have hd' : d < 2 := hd
    rcases (show d = 0 ∨ d = 1 by omega) with rfl | rfl
    · show g 0 = g 0 - 0; omega
    · show g 1 = 0 - g 0; omega
theorem Sp.Cir.edge (c d : Int) : Sp.Cir ⟨2, [0, 1], [0, 1], [c, d]⟩ := by
  intro g ha hv
  have h0 : g 1 = - g 0 := ha 0 (by show 0 < 2; omega)
  have h1 : 0 + g 0 + 0 = 0 := hv 0
  refine ⟨fun _ => 0, fun x hx => rfl, fun d hd => ?_⟩
  have hd' : d < 2 := hd
  rcases (show d = 0 ∨ d = 1 by omega) with rfl | rfl
  · show g 0 = 0 - 0; omega
  · show g 1 = 0 - 0; omega
theorem Sp.Cir.growN {q : Sp.Net} {i : Nat} (hq : Sp.PlaneQ q i) (h : Sp.Cir q) (e : Nat) (he : e < q.tail.length) (c d : Int) : Sp.Cir (Sp.growN q e c d) := by
  intro g ha hv
  have hL : (Sp.growN q e c d).tail.length = q.tail.length + 2 := by simp [Sp.growN]
  have ht : ∀ x, x < q.tail.length + 2 → (Sp.growN q e c d).tail.getD x 0 = if x < q.tail.length then q.tail.getD x 0 else if x = q.tail.length then q.tail.getD e 0 else q.n := fun x hx => app2_get _ _ _ _ hx
  have t0 : (Sp.growN q e c d).tail.getD q.tail.length 0 = q.tail.getD e 0 := by rw [ht _ (by omega), if_neg (by omega), if_pos rfl]
  have t1 : (Sp.growN q e c d).tail.getD (q.tail.length + 1) 0 = q.n := by rw [ht _ (by omega), if_neg (by omega), if_neg (by omega)]
  have hen : e < q.next.length := by rw [hq.nx]; exact he
  have hevn : q.next.length % 2 = 0 := by rw [hq.nx]; exact hq.ev
  have hoe := oth_lt he hq.ev
  have o := oth_new hq.ev
  have htb := hq.tb _ (Sp.getD_mem he)
  rw [hL] at ha hv ⊢
  have hn : g (q.tail.length + 1) = 0 := by
    have h1 := hv q.n
    rw [Sp.sumN, Sp.sumN] at h1
    rw [Sp.sumN_congr q.tail.length (g := fun d_1 => if (Sp.growN q e c d).tail.getD d_1 0 = q.n then g d_1 else 0) (h := fun _ => 0) (fun x hx => by
      show (if (Sp.growN q e c d).tail.getD x 0 = q.n then g x else 0) = 0
      have hb := hq.tb _ (Sp.getD_mem hx)
      rw [ht x (by omega), if_pos hx, if_neg (by omega)]), Sp.sumN_zero, t0, t1, if_pos rfl] at h1
    rw [if_neg (by omega)] at h1
    omega
  have hL0 : g q.tail.length = 0 := by
    have h1 := ha q.tail.length (by omega)
    rw [o.1] at h1
    omega
  obtain ⟨H, h1, h2⟩ := h g (fun d hd => ha d (by omega)) (fun v => by
    have h3 := hv v
    rw [Sp.sumN, Sp.sumN, hL0, hn, ite_self, ite_self] at h3
    rw [← Sp.sumN_congr q.tail.length (g := fun d_1 => if (Sp.growN q e c d).tail.getD d_1 0 = v then g d_1 else 0) (fun x hx => by
      show (if (Sp.growN q e c d).tail.getD x 0 = v then g x else 0) = _
      rw [ht x (by omega), if_pos hx])]
    omega)
  have hbm := hq.pmB.mp
  refine ⟨fun x => if x < q.tail.length then H x else H (Sp.oth e), fun x hx => ?_, fun d' hd => ?_⟩
  · have hB := behind_new hen hevn x (by rw [hq.nx]; exact hx)
    rw [hq.nx] at hB
    have hB' : Sp.fn (Sp.behindL (Sp.growN q e c d).next) x = insF (q.tail.length + 1) q.tail.length (insF q.tail.length (Sp.oth e) (Sp.fn (Sp.behindL q.next))) x := hB
    rw [hB']
    unfold insF
    by_cases e1 : x = q.tail.length
    · rw [if_pos e1]
      show (if q.tail.length + 1 < q.tail.length then _ else _) = if x < q.tail.length then _ else _
      rw [if_neg (by omega), if_neg (by omega)]
    · rw [if_neg e1]
      by_cases e2 : x = q.tail.length + 1
      · rw [if_pos e2, if_neg (by omega), if_pos rfl]
        show (if Sp.fn (Sp.behindL q.next) (Sp.oth e) < q.tail.length then _ else _) = if x < q.tail.length then _ else _
        rw [if_pos (hbm _ hoe), if_neg (by omega), h1 _ hoe]
      · rw [if_neg e2]
        have hxl : x < q.tail.length := by omega
        by_cases e3 : x = Sp.oth e
        · rw [if_pos e3]
          show (if q.tail.length < q.tail.length then _ else _) = if x < q.tail.length then _ else _
          rw [if_neg (by omega), if_pos hxl, e3]
        · rw [if_neg e3, if_neg e1]
          show (if Sp.fn (Sp.behindL q.next) x < q.tail.length then _ else _) = if x < q.tail.length then _ else _
          rw [if_pos (hbm _ hxl), if_pos hxl, h1 _ hxl]
  · by_cases e1 : d' < q.tail.length
    · show g d' = (if Sp.oth d' < q.tail.length then _ else _) - if d' < q.tail.length then _ else _
      rw [if_pos (oth_lt e1 hq.ev), if_pos e1]
      exact h2 d' e1
    · show g d' = (if Sp.oth d' < q.tail.length then _ else _) - if d' < q.tail.length then _ else _
      rcases (show d' = q.tail.length ∨ d' = q.tail.length + 1 by omega) with rfl | rfl
      · rw [o.1, if_neg (by omega), if_neg (by omega), hL0]; omega
      · rw [o.2, if_neg (by omega), if_neg (by omega), hn]; omega
theorem Sp.Cir.growF {q : Sp.Net} {i : Nat} (hq : Sp.PlaneQ q i) (hp : Sp.Plain q) (h : Sp.Cir q) (e g : Nat) (he : e < q.tail.length) (hg : g < q.tail.length) (c d : Int) (hcc : 0 ≤ c ∧ c ≤ 2147483648) (hdd : 0 ≤ d ∧ d ≤ 2147483648)
    (hs : (Sp.faces2 q).1.getD (q.next.getD g 0).toNat 0 = (Sp.faces2 q).1.getD (q.next.getD e 0).toNat 0) : Sp.Cir (Sp.growF q e g c d) := by
  intro k ha hv
  have hq' := hq.growF e g he hg c d hcc hdd
  have hL : (Sp.growF q e g c d).tail.length = q.tail.length + 2 := by simp [Sp.growF]
  have ht : ∀ x, x < q.tail.length + 2 → (Sp.growF q e g c d).tail.getD x 0 = if x < q.tail.length then q.tail.getD x 0 else if x = q.tail.length then q.tail.getD e 0 else q.tail.getD g 0 := fun x hx => app2_get _ _ _ _ hx
  have t0 : (Sp.growF q e g c d).tail.getD q.tail.length 0 = q.tail.getD e 0 := by rw [ht _ (by omega), if_neg (by omega), if_pos rfl]
  have t1 : (Sp.growF q e g c d).tail.getD (q.tail.length + 1) 0 = q.tail.getD g 0 := by rw [ht _ (by omega), if_neg (by omega), if_neg (by omega)]
  have hen : e < q.next.length := by rw [hq.nx]; exact he
  have hgn : g < q.next.length := by rw [hq.nx]; exact hg
  have hevn : q.next.length % 2 = 0 := by rw [hq.nx]; exact hq.ev
  have hoe := oth_lt he hq.ev
  have hog := oth_lt hg hq.ev
  have o := oth_new hq.ev
  have hbm := hq.pmB.mp
  have hk1 := ha q.tail.length (by rw [hL]; omega)
  rw [o.1] at hk1
  by_cases hge : g = e
  · have hnx : (Sp.growF q e g c d).next = Sp.layIn (Sp.layIn (q.next ++ [(q.next.length : Int), ((q.next.length + 1 : Nat) : Int)]) e q.next.length) q.next.length (q.next.length + 1) := by
      unfold Sp.growF
      rw [hq.nx]
      show Sp.layIn _ (if g = e then _ else g) _ = _
      rw [if_pos hge]
    rw [hL] at ha hv ⊢
    obtain ⟨H, h1, h2⟩ := h k (fun d hd => ha d (by omega)) (fun v => by
      have h3 := hv v
      rw [Sp.sumN, Sp.sumN, t0, t1, hge, hk1] at h3
      rw [← Sp.sumN_congr q.tail.length (g := fun d_1 => if (Sp.growF q e g c d).tail.getD d_1 0 = v then k d_1 else 0) (fun x hx => by
        show (if (Sp.growF q e g c d).tail.getD x 0 = v then k x else 0) = _
        rw [ht x (by omega), if_pos hx])]
      subst hge
      split at h3 <;> omega)
    refine ⟨fun x => if x < q.tail.length then H x else if x = q.tail.length then H (Sp.oth e) else H (Sp.oth e) + k q.tail.length, fun x hx => ?_, fun d' hd => ?_⟩
    · have hB := behind_loop hen hevn x (by rw [hq.nx]; exact hx)
      rw [hnx, hB, hq.nx]
      unfold fixF insF
      show (if (if x = q.tail.length + 1 then _ else _) < q.tail.length then _ else _) = if x < q.tail.length then _ else _
      by_cases e2 : x = q.tail.length + 1
      · rw [if_pos e2, if_neg (by omega), if_neg (by omega), if_neg (by omega), if_neg (by omega)]
      · rw [if_neg e2]
        by_cases e3 : x = Sp.oth e
        · rw [if_pos e3, if_neg (by omega), if_pos rfl, if_pos (by omega), e3]
        · rw [if_neg e3]
          by_cases e1 : x = q.tail.length
          · rw [if_pos e1, if_pos (hbm _ hoe), if_neg (by omega), if_pos e1, h1 _ hoe]
          · have hxl : x < q.tail.length := by omega
            rw [if_neg e1, if_pos (hbm _ hxl), if_pos hxl, h1 _ hxl]
    · show k d' = (if Sp.oth d' < q.tail.length then _ else _) - if d' < q.tail.length then _ else _
      by_cases e1 : d' < q.tail.length
      · rw [if_pos (oth_lt e1 hq.ev), if_pos e1]
        exact h2 d' e1
      · rcases (show d' = q.tail.length ∨ d' = q.tail.length + 1 by omega) with rfl | rfl
        · rw [o.1, if_neg (by omega), if_neg (by omega), if_neg (by omega), if_pos rfl]; omega
        · rw [o.2, if_neg (by omega), if_pos rfl, if_neg (by omega), if_neg (by omega), hk1]; omega
  · have hnx : (Sp.growF q e g c d).next = Sp.layIn (Sp.layIn (q.next ++ [(q.next.length : Int), ((q.next.length + 1 : Nat) : Int)]) e q.next.length) g (q.next.length + 1) := by
      unfold Sp.growF
      rw [hq.nx]
      show Sp.layIn _ (if g = e then _ else g) _ = _
      rw [if_neg hge]
    have hoge : Sp.oth g ≠ Sp.oth e := fun h => hge (oth_inj h)
    have hBf : ∀ x, x < q.tail.length + 2 → Sp.fn (Sp.behindL (Sp.growF q e g c d).next) x = swpF q.tail.length (q.tail.length + 1) (insF (q.tail.length + 1) (Sp.oth g) (insF q.tail.length (Sp.oth e) (Sp.fn (Sp.behindL q.next)))) x := fun x hx => by
      have := behind_across hen hgn hge hevn x (by rw [hq.nx]; exact hx)
      rw [hq.nx] at this
      rw [hnx, hq.nx]
      exact this
    obtain ⟨lab, F, hf, he2⟩ := hp.face
    have hmpB := insF_mp hbm hoe
    have hsame : lab (Sp.oth e) = lab (Sp.oth g) := by
      have hc := (Sp.faces2_st hq.pm hq.nx hq.ev).cls
      rw [Sp.behindL_len, hq.nx] at hc
      have fe : Sp.fn (Sp.behindL q.next) (Sp.oth e) = (q.next.getD e 0).toNat := by rw [fn_behind _ _ (by rw [hq.nx]; exact hoe), oth_oth]; rfl
      have fg : Sp.fn (Sp.behindL q.next) (Sp.oth g) = (q.next.getD g 0).toNat := by rw [fn_behind _ _ (by rw [hq.nx]; exact hog), oth_oth]; rfl
      have a1 := hbm _ hoe
      have a2 := hbm _ hog
      have ho := hc.sep _ _ a1 a2 (by rw [fe, fg, hs])
      have := hf.orb hbm a1 ho
      rw [hf.inv _ hoe, hf.inv _ hog] at this
      exact this
    have hc2 := (hf.ins hbm hoe).ins hmpB (u := Sp.oth g) (by omega)
    have hp2 := insF_perm (insF_perm hq.pmB hoe) (u := Sp.oth g) (by omega)
    have horb := hc2.sep q.tail.length (q.tail.length + 1) (by omega) (by omega) (by
      show (if q.tail.length = q.tail.length + 1 then _ else if q.tail.length = q.tail.length then lab (Sp.oth e) else _) = if q.tail.length + 1 = q.tail.length + 1 then (if Sp.oth g = q.tail.length then lab (Sp.oth e) else lab (Sp.oth g)) else _
      rw [if_neg (by omega), if_pos rfl, if_pos rfl, if_neg (by omega), hsame])
    obtain ⟨lab3, hc3⟩ := hc2.split hp2 (by omega) (by omega) (by omega) horb
    have hp3 := swpF_perm hp2 (u := q.tail.length) (v := q.tail.length + 1) (by omega) (by omega)
    have hne : lab3 q.tail.length ≠ lab3 (q.tail.length + 1) := fun hh => by
      obtain ⟨lab4, hc4⟩ := hc3.split hp3 (by omega) (by omega) (by omega) (hc3.sep _ _ (by omega) (by omega) hh)
      have h5 := hc4.congr (f' := insF (q.tail.length + 1) (Sp.oth g) (insF q.tail.length (Sp.oth e) (Sp.fn (Sp.behindL q.next)))) (swpF_perm hp3 (by omega) (by omega)).mp (fun x _ => by
        generalize insF (q.tail.length + 1) (Sp.oth g) (insF q.tail.length (Sp.oth e) (Sp.fn (Sp.behindL q.next))) = f2
        unfold swpF
        by_cases x1 : x = q.tail.length
        · rw [if_pos x1, if_neg (by omega), if_pos rfl, x1]
        · rw [if_neg x1]
          by_cases x2 : x = q.tail.length + 1
          · rw [if_pos x2, if_pos rfl, x2]
          · rw [if_neg x2, if_neg x1, if_neg x2]) (fun x _ => rfl)
      have := hc2.count hp2.mp h5
      omega
    have hB3 : ∀ x, x < q.tail.length + 2 → lab3 (Sp.fn (Sp.behindL (Sp.growF q e g c d).next) x) = lab3 x := fun x hx => by rw [hBf x hx]; exact hc3.inv x hx
    obtain ⟨R, hR⟩ : ∃ R : Nat → Int, (fun x => if lab3 x = lab3 (q.tail.length + 1) then k q.tail.length else 0) = R := ⟨_, rfl⟩
    have hvz := hq'.vzero (H := R) (fun x hx => by
      rw [← hR]
      show (if lab3 _ = _ then _ else _) = if lab3 x = _ then _ else _
      rw [hB3 x (by omega)])
    rw [hL] at ha hv hvz ⊢
    have hRL : R q.tail.length = 0 := by rw [← hR]; exact if_neg hne
    have hRL1 : R (q.tail.length + 1) = k q.tail.length := by rw [← hR]; exact if_pos rfl
    have hRb : ∀ x, x < q.tail.length + 2 → R (Sp.fn (Sp.behindL (Sp.growF q e g c d).next) x) = R x := fun x hx => by
      rw [← hR]
      show (if lab3 _ = _ then _ else _) = if lab3 x = _ then _ else _
      rw [hB3 x hx]
    obtain ⟨H, h1, h2⟩ := h (fun x => k x - (R (Sp.oth x) - R x)) (fun d hd => by
        show k (Sp.oth d) - (R (Sp.oth (Sp.oth d)) - R (Sp.oth d)) = -(k d - (R (Sp.oth d) - R d))
        have := ha d (by omega)
        rw [oth_oth]
        omega) (fun v => by
      have h3 := hv v
      have h4 := hvz v
      have h5 := Sp.sumN_sub (fun d_1 => if (Sp.growF q e g c d).tail.getD d_1 0 = v then k d_1 else 0) (fun d_1 => if (Sp.growF q e g c d).tail.getD d_1 0 = v then R (Sp.oth d_1) - R d_1 else 0) (q.tail.length + 2)
      rw [h3, h4] at h5
      rw [Sp.sumN, Sp.sumN, o.1, o.2, hRL, hRL1, hk1] at h5
      have e1 : ∀ (p : Prop) [Decidable p], (if p then k q.tail.length else 0) - (if p then k q.tail.length - 0 else 0) = 0 := fun p _ => by split <;> omega
      have e2 : ∀ (p : Prop) [Decidable p], (if p then -k q.tail.length else 0) - (if p then 0 - k q.tail.length else 0) = 0 := fun p _ => by split <;> omega
      rw [e1, e2] at h5
      rw [← Sp.sumN_congr q.tail.length (g := fun d_1 => (if (Sp.growF q e g c d).tail.getD d_1 0 = v then k d_1 else 0) - (if (Sp.growF q e g c d).tail.getD d_1 0 = v then R (Sp.oth d_1) - R d_1 else 0)) (fun x hx => by
        show (if (Sp.growF q e g c d).tail.getD x 0 = v then k x else 0) - (if (Sp.growF q e g c d).tail.getD x 0 = v then R (Sp.oth x) - R x else 0) = _
        rw [ht x (by omega), if_pos hx]
        split <;> omega)]
      omega)
    have hH : ∀ x, x < q.tail.length → ∀ m, itf (Sp.fn (Sp.behindL q.next)) x m < q.tail.length ∧ H (itf (Sp.fn (Sp.behindL q.next)) x m) = H x := fun x hx m => by
      induction m with
      | zero => exact ⟨hx, rfl⟩
      | succ m ih =>
        refine ⟨hbm _ ih.1, ?_⟩
        show H (Sp.fn (Sp.behindL q.next) _) = _
        rw [h1 _ ih.1, ih.2]
    have hHge : H (Sp.oth e) = H (Sp.oth g) := by
      obtain ⟨m, hm⟩ := hf.sep _ _ hoe hog hsame
      rw [← hm, (hH _ hoe m).2]
    refine ⟨fun x => (if x < q.tail.length then H x else H (Sp.oth e)) + R x, fun x hx => ?_, fun d' hd => ?_⟩
    · show (if Sp.fn _ x < q.tail.length then _ else _) + R (Sp.fn _ x) = (if x < q.tail.length then _ else _) + R x
      rw [hRb x hx, hBf x hx]
      congr 1
      have f2L1 : insF (q.tail.length + 1) (Sp.oth g) (insF q.tail.length (Sp.oth e) (Sp.fn (Sp.behindL q.next))) (q.tail.length + 1) = Sp.fn (Sp.behindL q.next) (Sp.oth g) := by
        unfold insF
        rw [if_neg (show ¬ q.tail.length + 1 = Sp.oth g by omega), if_pos rfl, if_neg hoge, if_neg (show ¬ Sp.oth g = q.tail.length by omega)]
      have f2L : insF (q.tail.length + 1) (Sp.oth g) (insF q.tail.length (Sp.oth e) (Sp.fn (Sp.behindL q.next))) q.tail.length = Sp.fn (Sp.behindL q.next) (Sp.oth e) := by
        unfold insF
        rw [if_neg (show ¬ q.tail.length = Sp.oth g by omega), if_neg (show ¬ q.tail.length = q.tail.length + 1 by omega), if_neg (show ¬ q.tail.length = Sp.oth e by omega), if_pos rfl]
      unfold swpF
      by_cases x1 : x = q.tail.length
      · rw [if_pos x1, f2L1, if_pos (hbm _ hog), if_neg (show ¬ x < q.tail.length by omega), h1 _ hog, hHge]
      · rw [if_neg x1]
        by_cases x2 : x = q.tail.length + 1
        · rw [if_pos x2, f2L, if_pos (hbm _ hoe), if_neg (show ¬ x < q.tail.length by omega), h1 _ hoe]
        · have hxl : x < q.tail.length := by omega
          rw [if_neg x2]
          unfold insF
          by_cases x3 : x = Sp.oth g
          · rw [if_pos x3, if_neg (show ¬ q.tail.length + 1 < q.tail.length by omega), if_pos hxl, x3, hHge]
          · rw [if_neg x3]
            by_cases x4 : x = Sp.oth e
            · rw [if_neg x2, if_pos x4, if_neg (show ¬ q.tail.length < q.tail.length by omega), if_pos hxl, x4]
            · rw [if_neg x2, if_neg x4, if_neg x1, if_pos (hbm _ hxl), if_pos hxl, h1 _ hxl]
    · show k d' = ((if Sp.oth d' < q.tail.length then _ else _) + R (Sp.oth d')) - ((if d' < q.tail.length then _ else _) + R d')
      by_cases e1 : d' < q.tail.length
      · rw [if_pos (oth_lt e1 hq.ev), if_pos e1]
        have h3 : k d' - (R (Sp.oth d') - R d') = H (Sp.oth d') - H d' := h2 d' e1
        omega
      · rcases (show d' = q.tail.length ∨ d' = q.tail.length + 1 by omega) with rfl | rfl
        · rw [o.1, if_neg (by omega), if_neg (by omega), hRL, hRL1]; omega
        · rw [o.2, if_neg (by omega), if_neg (by omega), hRL, hRL1, hk1]; omega
theorem Sp.planeN_cir (ns : List Int) : ∀ i, Sp.planeN ns i = ⟨1, [], [], []⟩ ∨ (0 < (Sp.planeN ns i).tail.length ∧ Sp.Cir (Sp.planeN ns i))
  | 0 => .inl rfl
  | i + 1 => by
    right
    have hq := Sp.planeN_ok ns i
    have ih := Sp.planeN_cir ns i
    have hpl := Sp.planeN_plain ns i
    show 0 < (Sp.planeK (Sp.planeN ns i) (ns.getD i 0 % 1125899906842624)).tail.length ∧ Sp.Cir (Sp.planeK (Sp.planeN ns i) (ns.getD i 0 % 1125899906842624))
    generalize Sp.planeN ns i = q at *
    generalize ns.getD i 0 % 1125899906842624 = k
    unfold Sp.planeK
    by_cases h0 : q.tail.length = 0
    · rw [if_pos h0]
      split
      · exact ⟨by simp, Sp.Cir.loop _ _⟩
      · exact ⟨by simp, Sp.Cir.edge _ _⟩
    · rw [if_neg h0]
      have hl : 0 < q.tail.length := by omega
      have hc : Sp.Cir q := by
        rcases ih with e | e
        · rw [e] at h0; exact absurd rfl h0
        · exact e.2
      have hp : Sp.Plain q := by
        rcases hpl with e | e
        · rw [e] at h0; exact absurd rfl h0
        · exact e.2
      split
      · exact ⟨by simp [Sp.growN], hc.growN hq _ (Sp.planeE_lt q k hl) _ _⟩
      · exact ⟨by simp [Sp.growF], hc.growF hq hp _ _ (Sp.planeE_lt q k hl) (Sp.planeG_lt q k hl) _ _ (Sp.capOf_bd _) (Sp.capOf_bd _) (Sp.planeG_same q k hl)⟩
theorem Sp.plane_cir (ns : List Int) : Sp.Cir (Sp.plane ns) := by
  rcases Sp.planeN_cir ns (min ns.length 24) with h | h
  · have e : Sp.plane ns = ⟨1, [], [], []⟩ := h
    rw [e]
    exact fun g _ _ => ⟨fun _ => 0, fun x hx => absurd hx (Nat.not_lt_zero _), fun d hd => absurd hd (Nat.not_lt_zero _)⟩
  · exact h.2
end Go.Proofs.Ytoegjnolccabjaa


/- Passes one behind the other: where a row of shortest ways is, n - 1 of them come to it; where one changes nothing there is such a row. -/
namespace Go.Proofs.Ytoegjnolccabjaa
open Go Go.RowKit

def Sp.ps (far : Int) (L : List Sp.Arc) (d : Nat → Int) : Nat → Nat → Int
  | 0 => d
  | k + 1 => Sp.rxs far L (Sp.ps far L d k)
theorem Sp.Att.rxs {far : Int} {L0 : List Sp.Arc} {s n : Nat} (hf : 0 < far) : ∀ (L : List Sp.Arc) (d : Nat → Int), (∀ a ∈ L, a ∈ L0 ∧ a.f < n) → Sp.Att far L0 s n d → Sp.Att far L0 s n (Sp.rxs far L d)
  | [], _, _, h => h
  | a :: L, _, hL, h => Sp.Att.rxs hf L _ (fun b hb => hL b (List.mem_cons_of_mem _ hb)) (h.rx hf (hL a (List.mem_cons_self ..)).1 (hL a (List.mem_cons_self ..)).2)
theorem Sp.Att.ps {far : Int} {L : List Sp.Arc} {s n : Nat} {d : Nat → Int} (hf : 0 < far) (hL : ∀ a ∈ L, a.f < n) (h : Sp.Att far L s n d) : ∀ k, Sp.Att far L s n (Sp.ps far L d k)
  | 0 => h
  | k + 1 => Sp.Att.rxs hf L _ (fun a ha => ⟨ha, hL a ha⟩) (Sp.Att.ps hf hL h k)
/-- The first row: s alone is reached. -/
def Sp.d0 (far : Int) (s : Nat) : Nat → Int := fun v => if v = s then 0 else far
end Go.Proofs.Ytoegjnolccabjaa


