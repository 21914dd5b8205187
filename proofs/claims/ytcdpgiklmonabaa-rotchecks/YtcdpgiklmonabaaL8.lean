/- What the proof needs, part 8. -/
import Derived.Test.YtcdpgiklmonabaaL7
/- The program's rounds, faces, a dart's round: as the reference's. -/
namespace Go.Proofs.Ytcdpgiklmonabaa
open Go Go.RowKit

/-- The rounds, each from its least dart on. -/
def Sp.cyc (st : List Int) : Nat → Nat → List Int → List (List Int)
  | 0, _, _ => []
  | f + 1, d, row => if (d : Int) ∈ row then Sp.cyc st f (d + 1) row else Sp.rounds st d (Sp.per st d) :: Sp.cyc st f (d + 1) (row ++ Sp.rounds st d (Sp.per st d))
/-- Where each of some rows begins and ends, one behind the other. -/
def Sp.offs : Nat → List (List Int) → List (Nat × Nat)
  | _, [] => []
  | o, r :: c => (o, o + r.length) :: Sp.offs (o + r.length) c
def Sp.paintAll : Nat → List Int → List (List Int) → List Int
  | _, of, [] => of
  | k, of, r :: c => Sp.paintAll (k + 1) (Sp.paint k of r) c
theorem Sp.offs_len : ∀ (c : List (List Int)) (o : Nat), (Sp.offs o c).length = c.length
  | [], _ => rfl
  | r :: c, o => by simp [Sp.offs, Sp.offs_len c]
/-- Closed under next ones. -/
def Sp.Shut (st row : List Int) : Prop := ∀ i, i < st.length → (i : Int) ∈ row → ((Sp.fn st i : Nat) : Int) ∈ row
theorem Sp.Shut.orb {st row : List Int} (hp : Sp.Perm st) (h : Sp.Shut st row) {i j : Nat} (hi : i < st.length) (hm : (i : Int) ∈ row) (ho : OrbF (Sp.fn st) i j) : (j : Int) ∈ row := by
  obtain ⟨m, rfl⟩ := ho
  induction m with
  | zero => exact hm
  | succ m ih => exact h _ (hp.fnP.it hi m) ih
theorem Sp.Shut.add {st row : List Int} (hp : Sp.Perm st) (h : Sp.Shut st row) {d : Nat} (hd : d < st.length) : Sp.Shut st (row ++ Sp.rounds st d (Sp.per st d)) := by
  intro i hi hm
  rcases List.mem_append.1 hm with h1 | h1
  · exact List.mem_append_left _ (h i hi h1)
  · refine List.mem_append_right _ ?_
    obtain ⟨j, e, o⟩ := (hp.mem_rounds hd _).1 h1
    have : i = j := by omega
    subst this
    exact (hp.mem_rounds hd _).2 ⟨_, rfl, o.trans (OrbF.one _ _)⟩
theorem Sp.walkR_round {st : List Int} (hp : Sp.Perm st) {d : Nat} (hd : d < st.length) (row : List Int) (hs : Sp.Shut st row) (hn : ¬ (d : Int) ∈ row) :
    ∀ j f, j ≤ Sp.per st d → Sp.per st d < j + f → Sp.walkR st d f (Sp.nth st d j) (row ++ Sp.rounds st d j) = some (row ++ Sp.rounds st d (Sp.per st d)) := by
  obtain ⟨p1, p2, p3, p4⟩ := hp.per hd
  intro j f
  induction f generalizing j with
  | zero => intro h1 h2; omega
  | succ f ih =>
    intro h1 h2
    rw [Sp.walkR]
    rcases Nat.lt_or_ge j (Sp.per st d) with hj | hj
    · have hnm : ¬ Sp.nth st d j ∈ row ++ Sp.rounds st d j := by
        intro hm
        rcases List.mem_append.1 hm with h3 | h3
        · rw [hp.nth_it hd] at h3
          exact hn (hs.orb hp (hp.fnP.it hd j) h3 (hp.sym hd ⟨j, rfl⟩))
        · obtain ⟨i, hi, e⟩ := List.mem_map.1 h3
          rw [List.mem_range] at hi
          have e2 : Sp.nth st d (i + (j - i)) = Sp.nth st d i := by rw [show i + (j - i) = j by omega]; exact e.symm
          exact p4 (j - i) (by omega) (by omega) (hp.back hd i (j - i) e2)
      rw [if_neg hnm]
      have e1 : st.getD (Sp.nth st d j).toNat 0 = Sp.nth st d (j + 1) := rfl
      have e2 : row ++ Sp.rounds st d j ++ [Sp.nth st d j] = row ++ Sp.rounds st d (j + 1) := by rw [Sp.rounds_succ, List.append_assoc]
      rw [e1, e2]
      exact ih (j + 1) (by omega) (by omega)
    · obtain rfl : j = Sp.per st d := by omega
      have hm : Sp.nth st d (Sp.per st d) ∈ row ++ Sp.rounds st d (Sp.per st d) := by
        rw [p3]
        exact List.mem_append_right _ ((hp.mem_rounds hd _).2 ⟨d, rfl, OrbF.refl _ _⟩)
      rw [if_pos hm, if_pos p3]
theorem Sp.rgo_cyc {st : List Int} (hp : Sp.Perm st) : ∀ f d row ps, d + f = st.length → Sp.Shut st row → RFit st.length row →
    Sp.rgo st f d row ps = some (row ++ (Sp.cyc st f d row).flatten, ps ++ Sp.offs row.length (Sp.cyc st f d row))
  | 0, d, row, ps, _, _, _ => by simp [Sp.rgo, Sp.cyc, Sp.offs]
  | f + 1, d, row, ps, hd, hs, hf => by
    rw [Sp.rgo, Sp.cyc]
    by_cases hm : (d : Int) ∈ row
    · rw [if_pos hm, if_pos hm]
      exact Sp.rgo_cyc hp f (d + 1) row ps (by omega) hs hf
    · rw [if_neg hm, if_neg hm]
      have hdl : d < st.length := by omega
      obtain ⟨p1, p2, p3, p4⟩ := hp.per hdl
      have hw : Sp.walkR st d (st.length + 1 - row.length) d row = some (row ++ Sp.rounds st d (Sp.per st d)) := by
        have hfit : (row ++ Sp.rounds st d (Sp.per st d)).length ≤ st.length := by
          refine nodup_le _ _ ?_ ?_
          · rw [List.nodup_append]
            refine ⟨hf.nd, ?_, ?_⟩
            · unfold List.Nodup
              rw [List.pairwise_iff_getElem]
              intro i j hi hj hij e
              rw [Sp.rounds_len] at hi hj
              simp only [Sp.rounds, List.getElem_map, List.getElem_range] at e
              have e2 : Sp.nth st d (i + (j - i)) = Sp.nth st d i := by rw [show i + (j - i) = j by omega]; exact e.symm
              exact p4 (j - i) (by omega) (by omega) (hp.back hdl i (j - i) e2)
            · intro a ha b hb e
              subst e
              obtain ⟨j, rfl, o⟩ := (hp.mem_rounds hdl _).1 hb
              obtain ⟨m, hj⟩ := o
              exact hm (hs.orb hp (by rw [← hj]; exact hp.fnP.it hdl m) ha (hp.sym hdl ⟨m, hj⟩))
          · intro x hx
            rcases List.mem_append.1 hx with h1 | h1
            · exact hf.bd x h1
            · obtain ⟨j, rfl, m, hj⟩ := (hp.mem_rounds hdl _).1 h1
              have := hp.fnP.it hdl m
              omega
        rw [List.length_append, Sp.rounds_len] at hfit
        have h := Sp.walkR_round hp hdl row hs hm 0 (st.length + 1 - row.length) (by omega) (by omega)
        have e0 : Sp.rounds st d 0 = [] := rfl
        rw [e0, List.append_nil] at h
        exact h
      obtain ⟨r1, -, -⟩ := walkR_ok rfl hp.bd d _ _ _ _ hw (by omega) (by omega) hf
      rw [hw]
      show Sp.rgo st f (d + 1) (row ++ Sp.rounds st d (Sp.per st d)) (ps ++ [(row.length, (row ++ Sp.rounds st d (Sp.per st d)).length)]) = _
      rw [Sp.rgo_cyc hp f (d + 1) _ _ (by omega) (hs.add hp hdl) r1]
      simp [Sp.offs, List.append_assoc]
/-- All rounds of a row. -/
def Sp.cycs (st : List Int) : List (List Int) := Sp.cyc st st.length 0 []
theorem Sp.rnds_cyc {st : List Int} (hp : Sp.Perm st) : Sp.rnds st = some ((Sp.cycs st).flatten, Sp.offs 0 (Sp.cycs st)) := by
  have h := Sp.rgo_cyc hp st.length 0 [] [] (by omega) (fun i _ h => by simp at h) ⟨by simp, by simp⟩
  simpa [Sp.rnds, Sp.cycs] using h
theorem Sp.rndsD_cyc {st : List Int} (hp : Sp.Perm st) : Sp.rndsD st = ((Sp.cycs st).flatten, Sp.offs 0 (Sp.cycs st)) := by
  unfold Sp.rndsD
  rw [Sp.rnds_cyc hp]
  rfl
theorem Sp.piece_at (a r b : List Int) : Sp.piece (a ++ (r ++ b)) (a.length, a.length + r.length) = r := by
  simp [Sp.piece]
theorem Sp.facesGo_paint : ∀ (c : List (List Int)) (a : List Int) (k : Nat) (of : List Int), Sp.facesGo (a ++ c.flatten) (Sp.offs a.length c) k of = Sp.paintAll k of c
  | [], _, _, _ => rfl
  | r :: c, a, k, of => by
    have e : a ++ (r :: c).flatten = a ++ (r ++ c.flatten) := by simp
    show Sp.facesGo (a ++ (r :: c).flatten) (Sp.offs (a.length + r.length) c) (k + 1) (Sp.paint k of (Sp.piece (a ++ (r :: c).flatten) (a.length, a.length + r.length))) = _
    rw [e, Sp.piece_at]
    have h := Sp.facesGo_paint c (a ++ r) (k + 1) (Sp.paint k of r)
    rw [List.length_append, List.append_assoc] at h
    exact h
theorem Sp.paintAll_len : ∀ (c : List (List Int)) (k : Nat) (of : List Int), (Sp.paintAll k of c).length = of.length
  | [], _, _ => rfl
  | r :: c, k, of => by
    show (Sp.paintAll (k + 1) (Sp.paint k of r) c).length = _
    rw [Sp.paintAll_len c, Sp.paint_len]
theorem Sp.paintAll_same : ∀ (c : List (List Int)) (k : Nat) (of1 of2 : List Int) (i : Nat), (∀ r ∈ c, ∀ x ∈ r, 0 ≤ x) → i < of1.length → i < of2.length →
    (Sp.paintAll k of1 c).getD i 0 = (Sp.paintAll k of2 c).getD i 0 ∨ ((Sp.paintAll k of1 c).getD i 0 = of1.getD i 0 ∧ (Sp.paintAll k of2 c).getD i 0 = of2.getD i 0)
  | [], _, _, _, _, _, _, _ => .inr ⟨rfl, rfl⟩
  | r :: c, k, of1, of2, i, h, h1, h2 => by
    have h0 := h r (by simp)
    have g1 := Sp.paint_get k r of1 i h0 h1
    have g2 := Sp.paint_get k r of2 i h0 h2
    rcases Sp.paintAll_same c (k + 1) (Sp.paint k of1 r) (Sp.paint k of2 r) i (fun r' hr => h r' (by simp [hr])) (by rw [Sp.paint_len]; exact h1) (by rw [Sp.paint_len]; exact h2) with e | ⟨e1, e2⟩
    · exact .inl e
    · rw [g1] at e1
      rw [g2] at e2
      by_cases hm : (i : Int) ∈ r
      · rw [if_pos hm] at e1 e2
        exact .inl (e1.trans e2.symm)
      · rw [if_neg hm] at e1 e2
        exact .inr ⟨e1, e2⟩
theorem Sp.faces2Go_cyc {st : List Int} (hp : Sp.Perm st) : ∀ f d of k row, d + f = st.length → of.length = st.length → (∀ i, i < st.length → ((i : Int) ∈ row ↔ 0 ≤ of.getD i 0)) →
    Sp.faces2Go st f d of k = (Sp.paintAll k of (Sp.cyc st f d row), k + (Sp.cyc st f d row).length)
  | 0, _, _, _, _, _, _, _ => rfl
  | f + 1, d, of, k, row, hd, hl, hr => by
    rw [Sp.faces2Go, Sp.cyc]
    have hdl : d < st.length := by omega
    by_cases h0 : 0 ≤ of.getD d 0
    · rw [if_pos h0, if_pos ((hr d hdl).2 h0)]
      exact Sp.faces2Go_cyc hp f (d + 1) of k row (by omega) hl hr
    · rw [if_neg h0, if_neg (fun h => h0 ((hr d hdl).1 h))]
      have h1 := Sp.faces2Go_cyc hp f (d + 1) (Sp.paint k of (Sp.rounds st d (Sp.per st d))) (k + 1) (row ++ Sp.rounds st d (Sp.per st d)) (by omega) (by rw [Sp.paint_len]; exact hl) (fun i hi => by
        rw [Sp.paint_get k _ of i (fun x hx => by obtain ⟨j, rfl, -⟩ := (hp.mem_rounds hdl x).1 hx; omega) (by omega), List.mem_append, hr i hi]
        by_cases hm : (i : Int) ∈ Sp.rounds st d (Sp.per st d)
        · rw [if_pos hm]
          exact ⟨fun _ => by omega, fun _ => .inr hm⟩
        · rw [if_neg hm]
          exact ⟨fun h => h.resolve_right hm, fun h => .inl h⟩)
      rw [h1]
      simp [Sp.paintAll]
      omega
theorem Sp.cyc_pos {st : List Int} (hp : Sp.Perm st) : ∀ f d row, d + f = st.length → ∀ r ∈ Sp.cyc st f d row, ∃ e : Nat, e < st.length ∧ r = Sp.rounds st e (Sp.per st e)
  | 0, _, _, _, r, h => by simp [Sp.cyc] at h
  | f + 1, d, row, hd, r, h => by
    rw [Sp.cyc] at h
    split at h
    · exact Sp.cyc_pos hp f (d + 1) row (by omega) r h
    · rcases List.mem_cons.1 h with e | e
      · exact ⟨d, by omega, e⟩
      · exact Sp.cyc_pos hp f (d + 1) _ (by omega) r e
/-- The program's Faces and the reference's tell the same. -/
theorem Sp.faces_eq {q : Sp.Net} (hp : Sp.Perm q.next) (hl : q.next.length = q.tail.length) (hev : q.tail.length % 2 = 0) : Sp.facesL q = (Sp.faces2 q).1 ∧ Sp.facesN q = max (Sp.faces2 q).2 1 := by
  have hb := hp.behind (by rw [hl]; exact hev)
  have hlb : (Sp.behindL q.next).length = q.tail.length := by rw [Sp.behindL_len, hl]
  have hst := (Sp.faces2_st hp hl hev)
  have h2 := Sp.faces2Go_cyc hb (Sp.behindL q.next).length 0 (List.replicate (Sp.behindL q.next).length (-1)) 0 [] (by omega) (by simp) (fun i hi => by rw [getD_rep _ _ _ hi]; simp)
  have e2 : Sp.faces2 q = (Sp.paintAll 0 (List.replicate q.tail.length (-1)) (Sp.cycs (Sp.behindL q.next)), 0 + (Sp.cycs (Sp.behindL q.next)).length) := by
    rw [hlb] at h2
    unfold Sp.faces2 Sp.cycs
    rw [h2, hlb]
  have e1 : Sp.facesL q = Sp.paintAll 0 (List.replicate q.tail.length 0) (Sp.cycs (Sp.behindL q.next)) := by
    unfold Sp.facesL
    rw [Sp.rndsD_cyc hb]
    have h := Sp.facesGo_paint (Sp.cycs (Sp.behindL q.next)) [] 0 (List.replicate q.tail.length 0)
    rw [List.nil_append] at h
    exact h
  refine ⟨?_, ?_⟩
  · apply List.ext_getElem
    · rw [e1, Sp.paintAll_len, Sp.faces2_len, List.length_replicate]
    · intro i h3 h4
      have hi : i < q.tail.length := by rw [Sp.faces2_len] at h4; exact h4
      rw [← Sp.getD_eq _ _ h3, ← Sp.getD_eq _ _ h4]
      have hd := hst.done i (by rw [hlb]; exact hi)
      rw [e2] at hd ⊢
      rw [e1]
      rcases Sp.paintAll_same (Sp.cycs (Sp.behindL q.next)) 0 (List.replicate q.tail.length 0) (List.replicate q.tail.length (-1)) i (fun r hr x hx => by
        obtain ⟨e, he, rfl⟩ := Sp.cyc_pos hb _ 0 [] (by omega) r hr
        obtain ⟨j, rfl, -⟩ := (hb.mem_rounds he x).1 hx
        omega) (by simpa using hi) (by simpa using hi) with h5 | ⟨-, h5⟩
      · exact h5
      · rw [getD_rep _ _ _ hi] at h5
        have hd' : 0 ≤ (Sp.paintAll 0 (List.replicate q.tail.length (-1)) (Sp.cycs (Sp.behindL q.next))).getD i 0 := hd
        omega
  · unfold Sp.facesN
    rw [Sp.rndsD_cyc hb, e2]
    show max (Sp.offs 0 (Sp.cycs (Sp.behindL q.next))).length 1 = max (0 + (Sp.cycs (Sp.behindL q.next)).length) 1
    rw [Sp.offs_len, Nat.zero_add]
/-- Each dart is in one of the rounds. -/
theorem Sp.cyc_all {st : List Int} (hp : Sp.Perm st) : ∀ f d row, d + f = st.length → (∀ i, i < d → (i : Int) ∈ row) → ∀ i : Nat, i < st.length → (i : Int) ∈ row ∨ ∃ r ∈ Sp.cyc st f d row, (i : Int) ∈ r
  | 0, d, row, hd, hr, i, hi => .inl (hr i (by omega))
  | f + 1, d, row, hd, hr, i, hi => by
    rw [Sp.cyc]
    by_cases hm : (d : Int) ∈ row
    · rw [if_pos hm]
      exact Sp.cyc_all hp f (d + 1) row (by omega) (fun j hj => by
        rcases Nat.lt_or_ge j d with h1 | h1
        · exact hr j h1
        · rw [show j = d by omega]; exact hm) i hi
    · rw [if_neg hm]
      have hdd : (d : Int) ∈ Sp.rounds st d (Sp.per st d) := (hp.mem_rounds (by omega) _).2 ⟨d, rfl, OrbF.refl _ _⟩
      rcases Sp.cyc_all hp f (d + 1) (row ++ Sp.rounds st d (Sp.per st d)) (by omega) (fun j hj => by
        rcases Nat.lt_or_ge j d with h1 | h1
        · exact List.mem_append_left _ (hr j h1)
        · rw [show j = d by omega]; exact List.mem_append_right _ hdd) i hi with h1 | ⟨r, h1, h2⟩
      · rcases List.mem_append.1 h1 with h2 | h2
        · exact .inl h2
        · exact .inr ⟨_, List.mem_cons_self, h2⟩
      · exact .inr ⟨r, List.mem_cons_of_mem _ h1, h2⟩
end Go.Proofs.Ytcdpgiklmonabaa


/- Nets that were grown in a plane are plane: their vertices' rounds, their faces, all in one piece. -/
namespace Go.Proofs.Ytcdpgiklmonabaa
open Go Go.RowKit

theorem layIn_get (l : List Int) (bh d x : Nat) (hb : bh < l.length) (hd : d < l.length) : (Sp.layIn l bh d).getD x 0 = if x = bh then (d : Int) else if x = d then l.getD bh 0 else l.getD x 0 := by
  unfold Sp.layIn
  rw [getD_set_eq _ _ _ _ (by rw [List.length_set]; exact hb), getD_set_eq _ _ _ _ hd]
theorem fn_lay (l : List Int) (bh d x : Nat) (hb : bh < l.length) (hd : d < l.length) : Sp.fn (Sp.layIn l bh d) x = if x = bh then d else if x = d then Sp.fn l bh else Sp.fn l x := by
  unfold Sp.fn
  rw [layIn_get l bh d x hb hd]
  by_cases h1 : x = bh
  · rw [if_pos h1, if_pos h1]; omega
  · rw [if_neg h1, if_neg h1]
    by_cases h2 : x = d
    · rw [if_pos h2, if_pos h2]
    · rw [if_neg h2, if_neg h2]
theorem fn_app (l : List Int) (x : Nat) (hx : x < l.length + 2) : Sp.fn (l ++ [(l.length : Int), ((l.length + 1 : Nat) : Int)]) x = if x < l.length then Sp.fn l x else x := by
  unfold Sp.fn
  rw [List.getD_eq_getElem?_getD]
  by_cases h1 : x < l.length
  · rw [if_pos h1, List.getElem?_append_left h1, ← List.getD_eq_getElem?_getD]
  · rw [if_neg h1, List.getElem?_append_right (by omega)]
    have : x = l.length ∨ x = l.length + 1 := by omega
    rcases this with rfl | rfl
    · simp
    · simp
theorem fn_behind (l : List Int) (x : Nat) (hx : x < l.length) : Sp.fn (Sp.behindL l) x = Sp.fn l (Sp.oth x) := by
  unfold Sp.fn
  rw [Sp.behindL_get l x hx]
theorem oth_new {L : Nat} (h : L % 2 = 0) : Sp.oth L = L + 1 ∧ Sp.oth (L + 1) = L := by
  unfold Sp.oth
  constructor
  · rw [if_pos h]
  · rw [if_neg (by omega)]; omega
theorem oth_ne_iff {x e : Nat} : Sp.oth x = e ↔ x = Sp.oth e := ⟨fun h => by rw [← h, oth_oth], fun h => by rw [h, oth_oth]⟩
/-- The next ones behind a new edge to a new vertex; across a face; a loop. -/
theorem next_new {nx : List Int} {e : Nat} (he : e < nx.length) (x : Nat) (hx : x < nx.length + 2) :
    Sp.fn (Sp.layIn (nx ++ [(nx.length : Int), ((nx.length + 1 : Nat) : Int)]) e nx.length) x = fixF (nx.length + 1) (insF nx.length e (Sp.fn nx)) x := by
  rw [fn_lay _ _ _ _ (by simp; omega) (by simp)]
  unfold fixF insF
  by_cases h1 : x = e
  · rw [if_pos h1, if_neg (by omega), if_pos h1]
  · rw [if_neg h1]
    by_cases h2 : x = nx.length
    · rw [if_pos h2, if_neg (by omega), if_neg h1, if_pos h2, fn_app _ _ (by omega), if_pos he]
    · rw [if_neg h2, fn_app _ _ hx]
      by_cases h3 : x = nx.length + 1
      · rw [if_pos h3, if_neg (by omega)]; exact h3
      · rw [if_neg h3, if_neg h1, if_neg h2, if_pos (by omega)]
theorem next_across {nx : List Int} {e g : Nat} (he : e < nx.length) (hg : g < nx.length) (_hne : g ≠ e) (x : Nat) (hx : x < nx.length + 2) :
    Sp.fn (Sp.layIn (Sp.layIn (nx ++ [(nx.length : Int), ((nx.length + 1 : Nat) : Int)]) e nx.length) g (nx.length + 1)) x = insF (nx.length + 1) g (insF nx.length e (Sp.fn nx)) x := by
  have hl : (nx ++ [(nx.length : Int), ((nx.length + 1 : Nat) : Int)]).length = nx.length + 2 := by simp
  rw [fn_lay _ _ _ _ (by rw [Sp.layIn_len, hl]; omega) (by rw [Sp.layIn_len, hl]; omega)]
  unfold insF
  by_cases h1 : x = g
  · rw [if_pos h1, if_pos h1]
  · rw [if_neg h1, if_neg h1]
    by_cases h2 : x = nx.length + 1
    · rw [if_pos h2, if_pos h2, next_new he g (by omega)]
      unfold fixF insF
      rw [if_neg (by omega)]
    · rw [if_neg h2, if_neg h2, next_new he x hx]
      unfold fixF insF
      rw [if_neg h2]
theorem next_loop {nx : List Int} {e : Nat} (he : e < nx.length) (x : Nat) (hx : x < nx.length + 2) :
    Sp.fn (Sp.layIn (Sp.layIn (nx ++ [(nx.length : Int), ((nx.length + 1 : Nat) : Int)]) e nx.length) nx.length (nx.length + 1)) x = insF (nx.length + 1) nx.length (insF nx.length e (Sp.fn nx)) x := by
  have hl : (nx ++ [(nx.length : Int), ((nx.length + 1 : Nat) : Int)]).length = nx.length + 2 := by simp
  rw [fn_lay _ _ _ _ (by rw [Sp.layIn_len, hl]; omega) (by rw [Sp.layIn_len, hl]; omega)]
  unfold insF
  by_cases h1 : x = nx.length
  · rw [if_pos h1, if_pos h1]
  · rw [if_neg h1, if_neg h1]
    by_cases h2 : x = nx.length + 1
    · rw [if_pos h2, if_pos h2, next_new he nx.length (by omega)]
      unfold fixF insF
      rw [if_neg (by omega)]
    · rw [if_neg h2, if_neg h2, next_new he x hx]
      unfold fixF insF
      rw [if_neg h2]
/-- The ones behind about the faces. -/
theorem behind_new {nx : List Int} {e : Nat} (he : e < nx.length) (hev : nx.length % 2 = 0) (x : Nat) (hx : x < nx.length + 2) :
    Sp.fn (Sp.behindL (Sp.layIn (nx ++ [(nx.length : Int), ((nx.length + 1 : Nat) : Int)]) e nx.length)) x = insF (nx.length + 1) nx.length (insF nx.length (Sp.oth e) (Sp.fn (Sp.behindL nx))) x := by
  have hoe := oth_lt he hev
  obtain ⟨o1, o2⟩ := oth_new hev
  have hox : Sp.oth x < nx.length + 2 := oth_lt hx (by omega)
  rw [fn_behind _ _ (by rw [Sp.layIn_len]; simpa using hx), next_new he _ hox]
  unfold fixF insF
  by_cases h1 : x = nx.length
  · rw [if_pos h1, h1, o1, if_pos rfl]
  · rw [if_neg h1]
    by_cases h2 : x = nx.length + 1
    · rw [if_pos h2, h2, o2, if_neg (by omega), if_neg (by omega), if_pos rfl, if_neg (by omega), if_pos rfl, fn_behind _ _ hoe, oth_oth]
    · have hxl : x < nx.length := by omega
      have hox' := oth_lt hxl hev
      rw [if_neg h2, if_neg (by omega)]
      by_cases h3 : x = Sp.oth e
      · rw [if_pos h3, if_pos (by rw [h3, oth_oth])]
      · rw [if_neg h3, if_neg (fun h => h3 (oth_ne_iff.1 h)), if_neg (by omega), if_neg (by omega), fn_behind _ _ hxl]
theorem behind_across {nx : List Int} {e g : Nat} (he : e < nx.length) (hg : g < nx.length) (hne : g ≠ e) (hev : nx.length % 2 = 0) (x : Nat) (hx : x < nx.length + 2) :
    Sp.fn (Sp.behindL (Sp.layIn (Sp.layIn (nx ++ [(nx.length : Int), ((nx.length + 1 : Nat) : Int)]) e nx.length) g (nx.length + 1))) x = swpF nx.length (nx.length + 1) (insF (nx.length + 1) (Sp.oth g) (insF nx.length (Sp.oth e) (Sp.fn (Sp.behindL nx)))) x := by
  have hoe := oth_lt he hev
  have hog := oth_lt hg hev
  have hoge : Sp.oth g ≠ Sp.oth e := fun h => hne (oth_inj h)
  obtain ⟨o1, o2⟩ := oth_new hev
  have hox : Sp.oth x < nx.length + 2 := oth_lt hx (by omega)
  rw [fn_behind _ _ (by rw [Sp.layIn_len, Sp.layIn_len]; simpa using hx), next_across he hg hne _ hox]
  unfold swpF insF
  by_cases h1 : x = nx.length
  · rw [if_pos h1, h1, o1, if_neg (by omega), if_pos rfl, if_neg hne, if_neg (by omega), if_neg (by omega), if_pos rfl, if_neg hoge, if_neg (by omega), fn_behind _ _ hog, oth_oth]
  · rw [if_neg h1]
    by_cases h2 : x = nx.length + 1
    · rw [if_pos h2, h2, o2, if_neg (by omega), if_neg (by omega), if_neg (by omega), if_pos rfl, if_neg (by omega), if_neg (by omega), if_neg (by omega), if_pos rfl, fn_behind _ _ hoe, oth_oth]
    · have hxl : x < nx.length := by omega
      have hox' := oth_lt hxl hev
      rw [if_neg h2]
      by_cases h4 : x = Sp.oth g
      · rw [if_pos h4, if_pos (by rw [h4, oth_oth])]
      · rw [if_neg h4, if_neg (fun h => h4 (oth_ne_iff.1 h)), if_neg (by omega), if_neg h2]
        by_cases h3 : x = Sp.oth e
        · rw [if_pos h3, if_pos (by rw [h3, oth_oth])]
        · rw [if_neg h3, if_neg (fun h => h3 (oth_ne_iff.1 h)), if_neg (by omega), if_neg h1, fn_behind _ _ hxl]
theorem behind_loop {nx : List Int} {e : Nat} (he : e < nx.length) (hev : nx.length % 2 = 0) (x : Nat) (hx : x < nx.length + 2) :
    Sp.fn (Sp.behindL (Sp.layIn (Sp.layIn (nx ++ [(nx.length : Int), ((nx.length + 1 : Nat) : Int)]) e nx.length) nx.length (nx.length + 1))) x = fixF (nx.length + 1) (insF nx.length (Sp.oth e) (Sp.fn (Sp.behindL nx))) x := by
  have hoe := oth_lt he hev
  obtain ⟨o1, o2⟩ := oth_new hev
  have hox : Sp.oth x < nx.length + 2 := oth_lt hx (by omega)
  rw [fn_behind _ _ (by rw [Sp.layIn_len, Sp.layIn_len]; simpa using hx), next_loop he _ hox]
  unfold fixF insF
  by_cases h1 : x = nx.length
  · rw [h1, o1, if_neg (by omega), if_pos rfl, if_neg (by omega), if_pos rfl, if_neg (by omega), if_neg (by omega), if_pos rfl, fn_behind _ _ hoe, oth_oth]
  · by_cases h2 : x = nx.length + 1
    · rw [if_pos h2, h2, o2, if_pos rfl]
    · have hxl : x < nx.length := by omega
      have hox' := oth_lt hxl hev
      rw [if_neg h2, if_neg (by omega), if_neg (by omega)]
      by_cases h3 : x = Sp.oth e
      · rw [if_pos h3, if_pos (by rw [h3, oth_oth])]
      · rw [if_neg h3, if_neg (fun h => h3 (oth_ne_iff.1 h)), if_neg (by omega), if_neg h1, fn_behind _ _ hxl]
/-- Which vertices darts lead to, in so many steps. -/
def Sp.reachN (tl : List Int) (u : Int) : Nat → Int → Prop
  | 0, v => u = v
  | n + 1, v => ∃ d, d < tl.length ∧ Sp.reachN tl u n (tl.getD d 0) ∧ tl.getD (Sp.oth d) 0 = v
def Sp.Reach (tl : List Int) (u v : Int) : Prop := ∃ n, Sp.reachN tl u n v
theorem Sp.Reach.refl {tl : List Int} (v : Int) : Sp.Reach tl v v := ⟨0, rfl⟩
theorem Sp.Reach.step {tl : List Int} {u : Int} {d : Nat} (h : Sp.Reach tl u (tl.getD d 0)) (hd : d < tl.length) : Sp.Reach tl u (tl.getD (Sp.oth d) 0) := by
  obtain ⟨n, hn⟩ := h
  exact ⟨n + 1, d, hd, hn, rfl⟩
theorem Sp.Reach.ind {tl : List Int} {u : Int} {p : Int → Prop} (h0 : p u) (h1 : ∀ d, d < tl.length → Sp.Reach tl u (tl.getD d 0) → p (tl.getD d 0) → p (tl.getD (Sp.oth d) 0)) {v : Int} (h : Sp.Reach tl u v) : p v := by
  obtain ⟨n, hn⟩ := h
  induction n generalizing v with
  | zero => exact (show u = v from hn) ▸ h0
  | succ n ih =>
    obtain ⟨d, hd, h2, h3⟩ := hn
    rw [← h3]
    exact h1 d hd ⟨n, h2⟩ (ih h2)
theorem app2_get (tl : List Int) (a b : Int) (x : Nat) (hx : x < tl.length + 2) : (tl ++ [a, b]).getD x 0 = if x < tl.length then tl.getD x 0 else if x = tl.length then a else b := by
  rw [List.getD_eq_getElem?_getD]
  by_cases h1 : x < tl.length
  · rw [if_pos h1, List.getElem?_append_left h1, ← List.getD_eq_getElem?_getD]
  · rw [if_neg h1, List.getElem?_append_right (by omega)]
    have : x = tl.length ∨ x = tl.length + 1 := by omega
    rcases this with rfl | rfl
    · simp
    · rw [if_neg (by omega), show tl.length + 1 - tl.length = 1 by omega]; rfl
theorem Sp.Reach.app {tl : List Int} (hev : tl.length % 2 = 0) (a b : Int) {u v : Int} (h : Sp.Reach tl u v) : Sp.Reach (tl ++ [a, b]) u v := by
  refine h.ind (p := fun v => Sp.Reach (tl ++ [a, b]) u v) (.refl _) (fun d hd _ ih => ?_)
  have ho := oth_lt hd hev
  have e1 : (tl ++ [a, b]).getD d 0 = tl.getD d 0 := by rw [app2_get _ _ _ _ (by omega), if_pos hd]
  have e2 : (tl ++ [a, b]).getD (Sp.oth d) 0 = tl.getD (Sp.oth d) 0 := by rw [app2_get _ _ _ _ (by omega), if_pos ho]
  rw [← e2]
  refine .step ?_ (by simp; omega)
  rw [e1]
  exact ih
/-- A plane net that has darts. -/
structure Sp.Plain (q : Sp.Net) : Prop where
  vert : Cls q.tail.length (Sp.fn q.next) (fun i => (q.tail.getD i 0).toNat) q.n.toNat
  face : ∃ lab F, Cls q.tail.length (Sp.fn (Sp.behindL q.next)) lab F ∧ q.n - ((q.tail.length / 2 : Nat) : Int) + ((F : Nat) : Int) = 2
  conn : ∀ v, 0 ≤ v → v < q.n → Sp.Reach q.tail 0 v
theorem Sp.PlaneQ.mpN {q : Sp.Net} {i : Nat} (h : Sp.PlaneQ q i) : ∀ x, x < q.tail.length → Sp.fn q.next x < q.tail.length := fun x hx => by
  have := h.pm.fnP.mp x (by rw [h.nx]; exact hx)
  rw [h.nx] at this; exact this
theorem Sp.PlaneQ.pmB {q : Sp.Net} {i : Nat} (h : Sp.PlaneQ q i) : PermF q.tail.length (Sp.fn (Sp.behindL q.next)) := by
  have := (h.pm.behind (by rw [h.nx]; exact h.ev)).fnP
  rw [Sp.behindL_len, h.nx] at this; exact this
theorem insF_mp {L u : Nat} {f : Nat → Nat} (h : ∀ i, i < L → f i < L) (hu : u < L) : ∀ i, i < L + 1 → insF L u f i < L + 1 := fun i hi => by
  unfold insF
  have := h u hu
  split
  · omega
  · split
    · omega
    · have := h i (by omega); omega
theorem fixF_mp {L : Nat} {f : Nat → Nat} (h : ∀ i, i < L → f i < L) : ∀ i, i < L + 1 → fixF L f i < L + 1 := fun i hi => by
  unfold fixF
  split
  · omega
  · have := h i (by omega); omega
theorem Sp.Plain.growN {q : Sp.Net} {i : Nat} (hq : Sp.PlaneQ q i) (h : Sp.Plain q) (e : Nat) (he : e < q.tail.length) (c d : Int) : Sp.Plain (Sp.growN q e c d) := by
  have hn0 := hq.n0
  have hL : (Sp.growN q e c d).tail.length = q.tail.length + 2 := by simp [Sp.growN]
  have hen : e < q.next.length := by rw [hq.nx]; exact he
  have hevn : q.next.length % 2 = 0 := by rw [hq.nx]; exact hq.ev
  have hoe := oth_lt he hq.ev
  have hmp1 := insF_mp hq.mpN he
  have hmpB := insF_mp hq.pmB.mp hoe
  refine ⟨?_, ?_, ?_⟩
  · rw [hL]
    have h1 := (h.vert.ins hq.mpN he).fix hmp1
    have hk : (Sp.growN q e c d).n.toNat = q.n.toNat + 1 := by show (q.n + 1).toNat = _; omega
    rw [hk]
    refine h1.congr (fixF_mp hmp1) (fun x hx => ?_) (fun x hx => ?_)
    · have := next_new hen x (by rw [hq.nx]; exact hx)
      rw [hq.nx] at this
      exact this
    · show ((q.tail ++ [q.tail.getD e 0, q.n]).getD x 0).toNat = if x = q.tail.length + 1 then q.n.toNat else if x = q.tail.length then (q.tail.getD e 0).toNat else (q.tail.getD x 0).toNat
      rw [app2_get _ _ _ _ hx]
      by_cases h2 : x < q.tail.length
      · rw [if_pos h2, if_neg (by omega), if_neg (by omega)]
      · rw [if_neg h2]
        by_cases h3 : x = q.tail.length
        · rw [if_pos h3, if_neg (by omega), if_pos h3]
        · rw [if_neg h3, if_pos (by omega)]
  · obtain ⟨lab, F, hf, he2⟩ := h.face
    refine ⟨fun x => if x = q.tail.length + 1 then (if q.tail.length = q.tail.length then lab (Sp.oth e) else lab q.tail.length) else if x = q.tail.length then lab (Sp.oth e) else lab x, F, ?_, ?_⟩
    · rw [hL]
      refine ((hf.ins hq.pmB.mp hoe).ins hmpB (u := q.tail.length) (by omega)).congr (insF_mp hmpB (by omega)) (fun x hx => ?_) (fun x hx => rfl)
      have := behind_new hen hevn x (by rw [hq.nx]; exact hx)
      rw [hq.nx] at this
      exact this
    · rw [hL]
      show q.n + 1 - (((q.tail.length + 2) / 2 : Nat) : Int) + (F : Int) = 2
      omega
  · intro v h0 h1
    have h1' : v < q.n + 1 := h1
    show Sp.Reach (q.tail ++ [q.tail.getD e 0, q.n]) 0 v
    rcases Int.lt_or_le v q.n with h2 | h2
    · exact (h.conn v h0 h2).app hq.ev _ _
    · have hv : v = q.n := by omega
      have o := oth_new hq.ev
      have e1 : (q.tail ++ [q.tail.getD e 0, q.n]).getD (Sp.oth q.tail.length) 0 = v := by rw [o.1, app2_get _ _ _ _ (by omega), if_neg (by omega), if_neg (by omega), hv]
      rw [← e1]
      refine .step ?_ (by simp)
      rw [app2_get _ _ _ _ (by omega), if_neg (by omega), if_pos rfl]
      have htb := hq.tb _ (Sp.getD_mem he)
      exact (h.conn _ htb.1 htb.2).app hq.ev _ _
theorem Sp.Plain.growF {q : Sp.Net} {i : Nat} (hq : Sp.PlaneQ q i) (h : Sp.Plain q) (e g : Nat) (he : e < q.tail.length) (hg : g < q.tail.length) (c d : Int)
    (hs : (Sp.faces2 q).1.getD (q.next.getD g 0).toNat 0 = (Sp.faces2 q).1.getD (q.next.getD e 0).toNat 0) : Sp.Plain (Sp.growF q e g c d) := by
  have hL : (Sp.growF q e g c d).tail.length = q.tail.length + 2 := by simp [Sp.growF]
  have hen : e < q.next.length := by rw [hq.nx]; exact he
  have hgn : g < q.next.length := by rw [hq.nx]; exact hg
  have hevn : q.next.length % 2 = 0 := by rw [hq.nx]; exact hq.ev
  have hoe := oth_lt he hq.ev
  have hog := oth_lt hg hq.ev
  have hmp1 := insF_mp hq.mpN he
  have hmpB := insF_mp hq.pmB.mp hoe
  have hlab : ∀ x, x < q.tail.length + 2 → ((Sp.growF q e g c d).tail.getD x 0).toNat = if x = q.tail.length + 1 then (q.tail.getD g 0).toNat else if x = q.tail.length then (q.tail.getD e 0).toNat else (q.tail.getD x 0).toNat := fun x hx => by
    show ((q.tail ++ [q.tail.getD e 0, q.tail.getD g 0]).getD x 0).toNat = _
    rw [app2_get _ _ _ _ hx]
    by_cases h2 : x < q.tail.length
    · rw [if_pos h2, if_neg (by omega), if_neg (by omega)]
    · rw [if_neg h2]
      by_cases h3 : x = q.tail.length
      · rw [if_pos h3, if_neg (by omega), if_pos h3]
      · rw [if_neg h3, if_pos (by omega)]
  have hconn : ∀ v, 0 ≤ v → v < q.n → Sp.Reach (Sp.growF q e g c d).tail 0 v := fun v h0 h1 => (h.conn v h0 h1).app hq.ev _ _
  obtain ⟨lab, F, hf, he2⟩ := h.face
  by_cases hge : g = e
  · have hnx : (Sp.growF q e g c d).next = Sp.layIn (Sp.layIn (q.next ++ [(q.next.length : Int), ((q.next.length + 1 : Nat) : Int)]) e q.next.length) q.next.length (q.next.length + 1) := by
      unfold Sp.growF
      rw [hq.nx]
      show Sp.layIn _ (if g = e then _ else g) _ = _
      rw [if_pos hge]
    refine ⟨?_, ⟨fun x => if x = q.tail.length + 1 then F else if x = q.tail.length then lab (Sp.oth e) else lab x, F + 1, ?_, ?_⟩, hconn⟩
    · rw [hL, hnx]
      refine ((h.vert.ins hq.mpN he).ins hmp1 (u := q.tail.length) (by omega)).congr (insF_mp hmp1 (by omega)) (fun x hx => ?_) (fun x hx => ?_)
      · have := next_loop hen x (by rw [hq.nx]; exact hx)
        rw [hq.nx] at this ⊢
        exact this
      · show ((Sp.growF q e g c d).tail.getD x 0).toNat = if x = q.tail.length + 1 then (if q.tail.length = q.tail.length then (q.tail.getD e 0).toNat else (q.tail.getD q.tail.length 0).toNat) else if x = q.tail.length then (q.tail.getD e 0).toNat else (q.tail.getD x 0).toNat
        rw [hlab x hx, if_pos (rfl : q.tail.length = q.tail.length), hge]
    · rw [hL, hnx]
      refine ((hf.ins hq.pmB.mp hoe).fix hmpB).congr (fixF_mp hmpB) (fun x hx => ?_) (fun x hx => rfl)
      have := behind_loop hen hevn x (by rw [hq.nx]; exact hx)
      rw [hq.nx] at this ⊢
      exact this
    · rw [hL]
      show q.n - (((q.tail.length + 2) / 2 : Nat) : Int) + ((F + 1 : Nat) : Int) = 2
      omega
  · have hnx : (Sp.growF q e g c d).next = Sp.layIn (Sp.layIn (q.next ++ [(q.next.length : Int), ((q.next.length + 1 : Nat) : Int)]) e q.next.length) g (q.next.length + 1) := by
      unfold Sp.growF
      rw [hq.nx]
      show Sp.layIn _ (if g = e then _ else g) _ = _
      rw [if_neg hge]
    -- both darts leave the same face
    have hsame : lab (Sp.oth e) = lab (Sp.oth g) := by
      have hc := (Sp.faces2_st hq.pm hq.nx hq.ev).cls
      rw [Sp.behindL_len, hq.nx] at hc
      have fe : Sp.fn (Sp.behindL q.next) (Sp.oth e) = (q.next.getD e 0).toNat := by rw [fn_behind _ _ (by rw [hq.nx]; exact hoe), oth_oth]; rfl
      have fg : Sp.fn (Sp.behindL q.next) (Sp.oth g) = (q.next.getD g 0).toNat := by rw [fn_behind _ _ (by rw [hq.nx]; exact hog), oth_oth]; rfl
      have a1 := hq.pmB.mp _ hoe
      have a2 := hq.pmB.mp _ hog
      have ho := hc.sep _ _ a1 a2 (by rw [fe, fg, hs])
      have := hf.orb hq.pmB.mp a1 ho
      rw [hf.inv _ hoe, hf.inv _ hog] at this
      exact this
    have hc2 := (hf.ins hq.pmB.mp hoe).ins hmpB (u := Sp.oth g) (by omega)
    have hp2 := insF_perm (insF_perm hq.pmB hoe) (u := Sp.oth g) (by omega)
    have horb := hc2.sep q.tail.length (q.tail.length + 1) (by omega) (by omega) (by
      show (if q.tail.length = q.tail.length + 1 then _ else if q.tail.length = q.tail.length then lab (Sp.oth e) else _) = if q.tail.length + 1 = q.tail.length + 1 then (if Sp.oth g = q.tail.length then lab (Sp.oth e) else lab (Sp.oth g)) else _
      rw [if_neg (by omega), if_pos rfl, if_pos rfl, if_neg (by omega), hsame])
    obtain ⟨lab3, hc3⟩ := hc2.split hp2 (by omega) (by omega) (by omega) horb
    refine ⟨?_, ⟨lab3, F + 1, ?_, ?_⟩, hconn⟩
    · rw [hL, hnx]
      refine ((h.vert.ins hq.mpN he).ins hmp1 (u := g) (by omega)).congr (insF_mp hmp1 (by omega)) (fun x hx => ?_) (fun x hx => ?_)
      · have := next_across hen hgn hge x (by rw [hq.nx]; exact hx)
        rw [hq.nx] at this ⊢
        exact this
      · show ((Sp.growF q e g c d).tail.getD x 0).toNat = if x = q.tail.length + 1 then (if g = q.tail.length then (q.tail.getD e 0).toNat else (q.tail.getD g 0).toNat) else if x = q.tail.length then (q.tail.getD e 0).toNat else (q.tail.getD x 0).toNat
        rw [hlab x hx, if_neg (show ¬ g = q.tail.length by omega)]
    · rw [hL, hnx]
      refine hc3.congr (swpF_perm hp2 (by omega) (by omega)).mp (fun x hx => ?_) (fun x hx => rfl)
      have := behind_across hen hgn hge hevn x (by rw [hq.nx]; exact hx)
      rw [hq.nx] at this ⊢
      exact this
    · rw [hL]
      show q.n - (((q.tail.length + 2) / 2 : Nat) : Int) + ((F + 1 : Nat) : Int) = 2
      omega
end Go.Proofs.Ytcdpgiklmonabaa


/- The law RotOnes, walked. -/
namespace Go.Proofs.Ytcdpgiklmonabaa
open Go Go.RowKit

/-- A net that lies in a block of its own: what stays so in every world behind. -/
theorem boxed {w0 w3 : World} {q : Sp.Net} {tv nv cv : Value} (hb0 : Below w0.heap.size w0 w3) (h : NetI w3 (.agg #[.int .i64 q.n, tv, nv, cv]) q tv nv cv) (W : World) (hW : W = w3.alloc (.cells #[.int .i64 q.n, tv, nv, cv] 25)) :
    (∀ w', Below (w3.heap.size + 1) W w' → (w'.cell? ⟨w3.heap.size, 0, none⟩ = some (.int .i64 q.n) ∧ w'.cell? ⟨w3.heap.size, 1, none⟩ = some tv ∧ w'.cell? ⟨w3.heap.size, 2, none⟩ = some nv ∧ w'.cell? ⟨w3.heap.size, 3, none⟩ = some cv) ∧ NetI w' (.agg #[.int .i64 q.n, tv, nv, cv]) q tv nv cv ∧ Below w0.heap.size w0 w' ∧ w3.heap.size + 1 ≤ w'.heap.size ∧ Below w3.heap.size w3 w') ∧ W.heap.size = w3.heap.size + 1 ∧ ∀ w2 w5, Below (w3.heap.size + 1) W w2 → Below w2.heap.size w2 w5 → Below (w3.heap.size + 1) W w5 := by
  subst hW
  have hs : (w3.alloc (.cells #[.int .i64 q.n, tv, nv, cv] 25)).heap.size = w3.heap.size + 1 := by simp
  refine ⟨fun w' hb => ?_, hs, fun w2 w5 h2 h5 => h2.trans (h5.mono (by have := h2.size; omega))⟩
  obtain ⟨k0, k1, k2, k3, k4⟩ := box_new w3 q.n tv nv cv w' hb
  have hb3 : Below w3.heap.size w3 w' := ((Below.refl _ w3).alloc (Nat.le_refl _) _).trans (hb.mono (by omega))
  exact ⟨⟨k0, k1, k2, k3⟩, ⟨rfl, h.tail.below hb3, h.next.below hb3, h.cap.below hb3⟩, hb0.trans (hb3.mono hb0.size), k4, hb3⟩
theorem Sp.PlaneQ.walk {q : Sp.Net} {i : Nat} (h : Sp.PlaneQ q i) (hi : i ≤ 50) : Sp.walkB q = true := by
  have h1 := h.le
  have h2 := h.n1
  have h3 := h.n0
  exact walkB_of ⟨by omega, by omega, by omega, h.ev, h.nx, h.cp, fun x hx => h.pm.bd x hx, h.tb⟩
/-- How many labels were met among the first i. -/
structure TopAt (l : List Int) (i top : Nat) : Prop where
  lt : ∀ j, j < i → l.getD j 0 < (top : Int)
  on : ∀ c : Nat, c < top → ∃ j, j < i ∧ l.getD j 0 = (c : Int)
theorem TopAt.le {l : List Int} {i top : Nat} (h : TopAt l i top) (hr : Sp.RG l) (hi : i < l.length) : 0 ≤ l.getD i 0 ∧ l.getD i 0 ≤ (top : Int) := by
  refine ⟨hr.nn i hi, ?_⟩
  rcases Int.lt_or_le (top : Int) (l.getD i 0) with h1 | h1
  · obtain ⟨j, hj, e⟩ := hr.sm i hi top (by omega) h1
    have := h.lt j hj
    omega
  · exact h1
theorem TopAt.same {l : List Int} {i top : Nat} (h : TopAt l i top) (h1 : l.getD i 0 < (top : Int)) : TopAt l (i + 1) top := by
  refine ⟨fun j hj => ?_, fun c hc => ?_⟩
  · rcases Nat.lt_or_ge j i with h2 | h2
    · exact h.lt j h2
    · rw [show j = i by omega]; exact h1
  · obtain ⟨j, h2, h3⟩ := h.on c hc
    exact ⟨j, by omega, h3⟩
theorem TopAt.more {l : List Int} {i top : Nat} (h : TopAt l i top) (h1 : l.getD i 0 = (top : Int)) : TopAt l (i + 1) (top + 1) := by
  refine ⟨fun j hj => ?_, fun c hc => ?_⟩
  · rcases Nat.lt_or_ge j i with h2 | h2
    · have := h.lt j h2; omega
    · rw [show j = i by omega]; omega
  · by_cases hk : c = top
    · exact ⟨i, by omega, by rw [h1, hk]⟩
    · obtain ⟨j, h2, h3⟩ := h.on c (by omega)
      exact ⟨j, by omega, h3⟩
theorem TopAt.last {l : List Int} {n top k : Nat} (h : TopAt l n top) (hn : l.length = n) (hk : Sp.Num l k) : top = k := by
  rcases Nat.lt_trichotomy top k with h1 | h1 | h1
  · obtain ⟨i, a, b⟩ := hk.on top h1
    have := h.lt i (by omega)
    omega
  · exact h1
  · obtain ⟨j, a, b⟩ := h.on k h1
    have := hk.lt j (by omega)
    omega
end Go.Proofs.Ytcdpgiklmonabaa


/- Rows that may be written over; two nets in blocks of their own. -/
namespace Go.Proofs.Ytcdpgiklmonabaa
open Go Go.RowKit

/-- Cells that may be written. -/
def Open' (w : World) (g o n : Nat) : Prop := ∀ j, j < n → ∃ v, w.cell? ⟨g, o + j, none⟩ = some v ∧ w.frozen? ⟨g, o + j, none⟩ = false
theorem Open'.set {w : World} {g o n : Nat} (h : Open' w g o n) (a : Addr) (x : Value) : Open' (w.setCell a x) g o n := fun j hj => by
  obtain ⟨v, h1, h2⟩ := h j hj
  obtain ⟨v', h3⟩ := cell?_setCell_some (p := a) (x := x) h1
  exact ⟨v', h3, by simpa using h2⟩
end Go.Proofs.Ytcdpgiklmonabaa


/- What the program's Parts tells: labels numbered by their first ones, that tell the pieces apart. -/
namespace Go.Proofs.Ytcdpgiklmonabaa
open Go Go.RowKit

/-- Labels laid so far, by whatever tells places apart. -/
structure Sp.NSt (L : Nat) (E : Nat → Nat → Prop) (d : Nat) (of : List Int) (k : Nat) : Prop where
  len : of.length = L
  bd : ∀ i, i < L → of.getD i 0 = -1 ∨ (0 ≤ of.getD i 0 ∧ of.getD i 0 < (k : Int))
  done : ∀ i, i < d → 0 ≤ of.getD i 0
  inv : ∀ i j, i < L → j < L → E i j → of.getD i 0 = of.getD j 0
  sep : ∀ i j, i < L → j < L → 0 ≤ of.getD i 0 → of.getD i 0 = of.getD j 0 → E i j
  rg : ∀ i, i < d → ∀ c, 0 ≤ c → c < of.getD i 0 → ∃ j, j < i ∧ of.getD j 0 = c
  on : ∀ c : Nat, c < k → ∃ i, i < d ∧ of.getD i 0 = (c : Int)
theorem Sp.NSt.first (L : Nat) (E : Nat → Nat → Prop) : Sp.NSt L E 0 (List.replicate L (-1)) 0 := by
  refine ⟨by simp, fun i hi => .inl (getD_rep _ _ _ hi), fun i hi => by omega, fun i j hi hj _ => by rw [getD_rep _ _ _ hi, getD_rep _ _ _ hj], fun i j hi hj h => ?_, fun i hi => by omega, fun c hc => by omega⟩
  rw [getD_rep _ _ _ hi] at h
  omega
theorem Sp.NSt.old {L : Nat} {E : Nat → Nat → Prop} {d k : Nat} {of : List Int} (h : Sp.NSt L E d of k) (hd : d < L) (h0 : of.getD d 0 ≠ -1) : Sp.NSt L E (d + 1) of k := by
  have h0' : 0 ≤ of.getD d 0 ∧ of.getD d 0 < (k : Int) := by
    rcases h.bd d hd with e | e
    · exact absurd e h0
    · exact e
  refine ⟨h.len, h.bd, fun i hi => ?_, h.inv, h.sep, fun i hi c c0 c1 => ?_, fun c hc => ?_⟩
  · rcases Nat.lt_or_ge i d with h1 | h1
    · exact h.done i h1
    · rw [show i = d by omega]; exact h0'.1
  · rcases Nat.lt_or_ge i d with h1 | h1
    · exact h.rg i h1 c c0 c1
    · rw [show i = d by omega] at c1 ⊢
      obtain ⟨j, h2, h3⟩ := h.on c.toNat (by omega)
      exact ⟨j, h2, by rw [h3]; omega⟩
  · obtain ⟨i, h1, h2⟩ := h.on c hc
    exact ⟨i, by omega, h2⟩
theorem Sp.NSt.new {L : Nat} {E : Nat → Nat → Prop} {d k : Nat} {of of' : List Int} (h : Sp.NSt L E d of k) (hr : ∀ i, E i i) (hs : ∀ i j, i < L → j < L → E i j → E j i) (ht : ∀ i j l, E i j → E j l → E i l) (hd : d < L) (h0 : of.getD d 0 = -1) (hl : of'.length = L)
    (hE : ∀ i, i < L → E d i → of'.getD i 0 = (k : Int)) (hN : ∀ i, i < L → ¬ E d i → of'.getD i 0 = of.getD i 0) : Sp.NSt L E (d + 1) of' (k + 1) := by
  have hget : ∀ i, i < L → (E d i ∧ of'.getD i 0 = (k : Int) ∧ of.getD i 0 = -1) ∨ (¬ E d i ∧ of'.getD i 0 = of.getD i 0) := by
    intro i hi
    by_cases ho : E d i
    · exact .inl ⟨ho, hE i hi ho, by rw [← h.inv d i hd hi ho]; exact h0⟩
    · exact .inr ⟨ho, hN i hi ho⟩
  have hdk : of'.getD d 0 = (k : Int) := hE d hd (hr d)
  refine ⟨hl, fun i hi => ?_, fun i hi => ?_, fun i j hi hj e => ?_, fun i j hi hj hn e => ?_, fun i hi c c0 c1 => ?_, fun c hc => ?_⟩
  · rcases hget i hi with ⟨-, e, -⟩ | ⟨-, e⟩
    · right; rw [e]; omega
    · rw [e]; rcases h.bd i hi with e1 | e1
      · exact .inl e1
      · exact .inr ⟨e1.1, by omega⟩
  · rcases Nat.lt_or_ge i d with h1 | h1
    · rcases hget i (by omega) with ⟨-, e, -⟩ | ⟨-, e⟩
      · rw [e]; omega
      · rw [e]; exact h.done i h1
    · rw [show i = d by omega, hdk]; omega
  · rcases hget i hi with ⟨o, e1, -⟩ | ⟨o, e1⟩ <;> rcases hget j hj with ⟨o', e2, -⟩ | ⟨o', e2⟩
    · rw [e1, e2]
    · exact absurd (ht _ _ _ o e) o'
    · exact absurd (ht _ _ _ o' (hs i j hi hj e)) o
    · rw [e1, e2]; exact h.inv i j hi hj e
  · rcases hget i hi with ⟨o, e1, -⟩ | ⟨o, e1⟩ <;> rcases hget j hj with ⟨o', e2, -⟩ | ⟨o', e2⟩
    · exact ht _ _ _ (hs d i hd hi o) o'
    · rw [e1, e2] at e
      rcases h.bd j hj with e3 | e3 <;> omega
    · rw [e1, e2] at e
      rcases h.bd i hi with e3 | e3 <;> omega
    · rw [e1, e2] at e
      rw [e1] at hn
      exact h.sep i j hi hj hn e
  · rcases Nat.lt_or_ge i d with h1 | h1
    · rcases hget i (by omega) with ⟨-, -, e⟩ | ⟨-, e⟩
      · have := h.done i h1; omega
      · rw [e] at c1
        obtain ⟨j, h2, h3⟩ := h.rg i h1 c c0 c1
        refine ⟨j, h2, ?_⟩
        rcases hget j (by omega) with ⟨-, -, e'⟩ | ⟨-, e'⟩
        · omega
        · rw [e', h3]
    · rw [show i = d by omega] at c1 ⊢
      rw [hdk] at c1
      obtain ⟨j, h2, h3⟩ := h.on c.toNat (by omega)
      refine ⟨j, h2, ?_⟩
      rcases hget j (by omega) with ⟨-, -, e'⟩ | ⟨-, e'⟩
      · omega
      · rw [e', h3]; omega
  · by_cases hk : c = k
    · exact ⟨d, by omega, by rw [hdk, hk]⟩
    · obtain ⟨i, h1, h2⟩ := h.on c (by omega)
      refine ⟨i, by omega, ?_⟩
      rcases hget i (by omega) with ⟨-, -, e'⟩ | ⟨-, e'⟩
      · omega
      · rw [e', h2]
theorem Sp.NSt.num {L : Nat} {E : Nat → Nat → Prop} {of : List Int} {k : Nat} (h : Sp.NSt L E L of k) : Sp.Num of k := by
  refine ⟨⟨fun i hi => h.done i (by rw [← h.len]; exact hi), fun i hi => h.rg i (by rw [← h.len]; exact hi)⟩, fun i hi => ?_, fun c hc => ?_⟩
  · rw [h.len] at hi
    have := h.done i hi
    rcases h.bd i hi with e | e <;> omega
  · obtain ⟨i, h1, h2⟩ := h.on c hc
    exact ⟨i, by rw [h.len]; exact h1, h2⟩
theorem Sp.NSt.uniq {L : Nat} {E : Nat → Nat → Prop} {of of' : List Int} {k k' : Nat} (h : Sp.NSt L E L of k) (h' : Sp.NSt L E L of' k') : of = of' ∧ k = k' := by
  have e : of = of' := Sp.RG.uniq h.num.rg h'.num.rg (by rw [h.len, h'.len]) (fun i j hi hj => by
    rw [h.len] at hi hj
    constructor
    · intro e; exact h'.inv i j hi hj (h.sep i j hi hj (h.done i hi) e)
    · intro e; exact h.inv i j hi hj (h'.sep i j hi hj (h'.done i hi) e))
  refine ⟨e, ?_⟩
  subst e
  exact h.num.count h'.num
theorem Sp.Reach.trans {tl : List Int} {u v z : Int} (h : Sp.Reach tl u v) (h' : Sp.Reach tl v z) : Sp.Reach tl u z :=
  h'.ind (p := fun z => Sp.Reach tl u z) h (fun _ hd _ ih => ih.step hd)
theorem Sp.Reach.symm {tl : List Int} (hev : tl.length % 2 = 0) {u v : Int} (h : Sp.Reach tl u v) : Sp.Reach tl v u := by
  refine h.ind (p := fun v => Sp.Reach tl v u) (.refl _) (fun d hd _ ih => ?_)
  have ho := oth_lt hd hev
  have h1 : Sp.Reach tl (tl.getD (Sp.oth d) 0) (tl.getD (Sp.oth (Sp.oth d)) 0) := (Sp.Reach.refl _).step ho
  rw [oth_oth] at h1
  exact h1.trans ih
theorem Sp.Reach.bd {tl : List Int} {n : Int} (ht : ∀ x ∈ tl, 0 ≤ x ∧ x < n) (hev : tl.length % 2 = 0) {u v : Int} (hu : 0 ≤ u ∧ u < n) (h : Sp.Reach tl u v) : 0 ≤ v ∧ v < n :=
  h.ind (p := fun v => 0 ≤ v ∧ v < n) hu (fun _ hd _ _ => ht _ (Sp.getD_mem (oth_lt hd hev)))
/-- One piece on the way: who was found. -/
structure Sp.FI (tl of0 : List Int) (N : Nat) (v p : Int) (of fd : List Int) : Prop where
  len : of.length = N
  fit : RFit N fd
  lab : ∀ w : Nat, w < N → of.getD w 0 = if (w : Int) ∈ fd then p else of0.getD w 0
  rch : ∀ x ∈ fd, Sp.Reach tl v x
theorem Sp.FI.stay {tl of0 : List Int} {N : Nat} {v p : Int} {of fd of' fd' : List Int} (h : Sp.FI tl of0 N v p of fd) (h' : Sp.FI tl of0 N v p of' fd') (hp : p ≠ -1) (hs : ∀ x ∈ fd, x ∈ fd') {w : Nat} (hw : w < N) (hn : of.getD w 0 ≠ -1) : of'.getD w 0 ≠ -1 := by
  rw [h'.lab w hw]
  split
  · exact hp
  · rename_i hm
    rw [h.lab w hw, if_neg (fun h2 => hm (hs _ h2))] at hn
    exact hn
theorem Sp.spread_ok {tl of0 : List Int} {N : Nat} {v p : Int} (hp : p ≠ -1) (ht : ∀ x ∈ tl, 0 ≤ x ∧ x < (N : Int)) (hev : tl.length % 2 = 0) (f : Int) :
    ∀ c d of fd, d + c = tl.length → Sp.FI tl of0 N v p of fd → f ∈ fd →
      Sp.FI tl of0 N v p (Sp.spreadGo tl f p c d of fd).1 (Sp.spreadGo tl f p c d of fd).2 ∧ (∃ m, (Sp.spreadGo tl f p c d of fd).2 = fd ++ m) ∧ ∀ d', d ≤ d' → d' < tl.length → tl.getD d' 0 = f → (Sp.spreadGo tl f p c d of fd).1.getD (tl.getD (Sp.oth d') 0).toNat 0 ≠ -1
  | 0, d, of, fd, hd, h, _ => ⟨h, ⟨[], by simp [Sp.spreadGo]⟩, fun d' h1 h2 => by omega⟩
  | c + 1, d, of, fd, hd, h, hf => by
    have hdl : d < tl.length := by omega
    have hh := ht _ (Sp.getD_mem (oth_lt hdl hev))
    have hhN : (tl.getD (Sp.oth d) 0).toNat < N := by omega
    have hcast : (((tl.getD (Sp.oth d) 0).toNat : Nat) : Int) = tl.getD (Sp.oth d) 0 := by omega
    rw [Sp.spreadGo]
    by_cases hc : tl.getD d 0 = f ∧ of.getD (tl.getD (Sp.oth d) 0).toNat 0 = -1
    · rw [if_pos hc]
      have hnm : ¬ tl.getD (Sp.oth d) 0 ∈ fd := fun hm => by
        have e := h.lab _ hhN
        rw [hcast, if_pos hm, hc.2] at e
        exact hp e.symm
      have hfit := h.fit.snoc (tl.getD (Sp.oth d) 0).toNat hhN (by rw [hcast]; exact hnm)
      rw [hcast] at hfit
      have h' : Sp.FI tl of0 N v p (of.set (tl.getD (Sp.oth d) 0).toNat p) (fd ++ [tl.getD (Sp.oth d) 0]) := by
        refine ⟨by rw [List.length_set]; exact h.len, hfit, fun w hw => ?_, fun x hx => ?_⟩
        · rw [getD_set_eq _ _ _ _ (by rw [h.len]; exact hhN)]
          by_cases e : w = (tl.getD (Sp.oth d) 0).toNat
          · rw [if_pos e, if_pos (List.mem_append_right _ (by rw [e, hcast]; simp))]
          · rw [if_neg e, h.lab w hw]
            by_cases hm : (w : Int) ∈ fd
            · rw [if_pos hm, if_pos (List.mem_append_left _ hm)]
            · rw [if_neg hm, if_neg (fun h2 => by
                rcases List.mem_append.1 h2 with h3 | h3
                · exact hm h3
                · rw [List.mem_singleton] at h3
                  omega)]
        · rcases List.mem_append.1 hx with h3 | h3
          · exact h.rch x h3
          · rw [List.mem_singleton] at h3
            rw [h3]
            refine Sp.Reach.step ?_ hdl
            rw [hc.1]
            exact h.rch f hf
      obtain ⟨r1, ⟨m, r2⟩, r3⟩ := Sp.spread_ok hp ht hev f c (d + 1) _ _ (by omega) h' (List.mem_append_left _ hf)
      refine ⟨r1, ⟨[tl.getD (Sp.oth d) 0] ++ m, by rw [r2, List.append_assoc]⟩, fun d' h1 h2 h3 => ?_⟩
      rcases Nat.lt_or_ge d d' with h4 | h4
      · exact r3 d' (by omega) h2 h3
      · rw [show d' = d by omega]
        rw [r1.lab _ hhN, if_pos (by rw [r2, hcast]; exact List.mem_append_left _ (List.mem_append_right _ (by simp)))]
        exact hp
    · rw [if_neg hc]
      obtain ⟨r1, ⟨m, r2⟩, r3⟩ := Sp.spread_ok hp ht hev f c (d + 1) of fd (by omega) h hf
      refine ⟨r1, ⟨m, r2⟩, fun d' h1 h2 h3 => ?_⟩
      rcases Nat.lt_or_ge d d' with h4 | h4
      · exact r3 d' (by omega) h2 h3
      · rw [show d' = d by omega] at h3 ⊢
        exact h.stay r1 hp (fun x hx => by rw [r2]; exact List.mem_append_left _ hx) hhN (fun e => hc ⟨h3, e⟩)
theorem Sp.flood_ok {tl of0 : List Int} {N : Nat} {v p : Int} (hp : p ≠ -1) (ht : ∀ x ∈ tl, 0 ≤ x ∧ x < (N : Int)) (hev : tl.length % 2 = 0) :
    ∀ g i of fd, i + g = N + 1 → i ≤ fd.length → Sp.FI tl of0 N v p of fd → (∀ j, j < i → ∀ d, d < tl.length → tl.getD d 0 = fd.getD j 0 → of.getD (tl.getD (Sp.oth d) 0).toNat 0 ≠ -1) →
      ∃ fd', Sp.FI tl of0 N v p (Sp.floodGo tl p g i of fd) fd' ∧ (∀ x ∈ fd, x ∈ fd') ∧ ∀ x ∈ fd', ∀ d, d < tl.length → tl.getD d 0 = x → (Sp.floodGo tl p g i of fd).getD (tl.getD (Sp.oth d) 0).toNat 0 ≠ -1
  | 0, i, of, fd, hi, hl, h, _ => by have := h.fit.le; omega
  | g + 1, i, of, fd, hi, hl, h, hd => by
    rw [Sp.floodGo]
    by_cases hc : i < fd.length
    · rw [if_pos hc]
      obtain ⟨r1, ⟨m, r2⟩, r3⟩ := Sp.spread_ok hp ht hev (fd.getD i 0) tl.length 0 of fd (by omega) h (Sp.getD_mem hc)
      obtain ⟨fd', s1, s2, s3⟩ := Sp.flood_ok hp ht hev g (i + 1) _ _ (by omega) (by rw [r2, List.length_append]; omega) r1 (fun j hj d hdl e => by
        have hg : (Sp.spreadGo tl (fd.getD i 0) p tl.length 0 of fd).2.getD j 0 = fd.getD j 0 := by
          rw [r2, List.getD_eq_getElem?_getD, List.getElem?_append_left (by omega), ← List.getD_eq_getElem?_getD]
        rw [hg] at e
        rcases Nat.lt_or_ge j i with h1 | h1
        · refine h.stay r1 hp (fun x hx => by rw [r2]; exact List.mem_append_left _ hx) ?_ (hd j h1 d hdl e)
          have := ht _ (Sp.getD_mem (oth_lt hdl hev))
          omega
        · rw [show j = i by omega] at e
          exact r3 d (Nat.zero_le _) hdl e)
      exact ⟨fd', s1, fun x hx => s2 x (by rw [r2]; exact List.mem_append_left _ hx), s3⟩
    · rw [if_neg hc]
      refine ⟨fd, h, fun _ hx => hx, fun x hx d hdl e => ?_⟩
      obtain ⟨j, hj, ej⟩ := List.mem_iff_getElem.1 hx
      exact hd j (by omega) d hdl (by rw [e, Sp.getD_eq _ _ hj, ej])
/-- One piece whole. -/
theorem Sp.flood_all {tl of0 : List Int} {N : Nat} {v : Nat} {p : Int} (hp : p ≠ -1) (ht : ∀ x ∈ tl, 0 ≤ x ∧ x < (N : Int)) (hev : tl.length % 2 = 0) (hl : of0.length = N) (hv : v < N) (h0 : of0.getD v 0 = -1)
    (hin : ∀ i j : Nat, i < N → j < N → Sp.Reach tl i j → of0.getD i 0 = of0.getD j 0) :
    (Sp.floodGo tl p (N + 1) 0 (of0.set v p) [(v : Int)]).length = N ∧ ∀ w : Nat, w < N → (Sp.Reach tl v w → (Sp.floodGo tl p (N + 1) 0 (of0.set v p) [(v : Int)]).getD w 0 = p) ∧ (¬ Sp.Reach tl v w → (Sp.floodGo tl p (N + 1) 0 (of0.set v p) [(v : Int)]).getD w 0 = of0.getD w 0) := by
  have hfi : Sp.FI tl of0 N v p (of0.set v p) [(v : Int)] := by
    refine ⟨by rw [List.length_set]; exact hl, ⟨by simp, fun x hx => by rw [List.mem_singleton] at hx; omega⟩, fun w hw => ?_, fun x hx => by rw [List.mem_singleton] at hx; rw [hx]; exact .refl _⟩
    rw [getD_set_eq _ _ _ _ (by omega)]
    by_cases e : w = v
    · rw [if_pos e, if_pos (by rw [e]; simp)]
    · rw [if_neg e, if_neg (by rw [List.mem_singleton]; omega)]
  obtain ⟨fd', s1, s2, s3⟩ := Sp.flood_ok hp ht hev (N + 1) 0 (of0.set v p) [(v : Int)] (by omega) (by simp) hfi (fun j hj => by omega)
  generalize Sp.floodGo tl p (N + 1) 0 (of0.set v p) [(v : Int)] = R at *
  have hmem : ∀ x, Sp.Reach tl v x → x ∈ fd' := fun x hx => by
    refine hx.ind (p := fun x => x ∈ fd') (s2 _ (by simp)) (fun d hd hr ih => ?_)
    have hb := ht _ (Sp.getD_mem (oth_lt hd hev))
    have hne := s3 _ ih d hd rfl
    have hN : (tl.getD (Sp.oth d) 0).toNat < N := by omega
    have hcast : (((tl.getD (Sp.oth d) 0).toNat : Nat) : Int) = tl.getD (Sp.oth d) 0 := by omega
    rw [s1.lab _ hN, hcast] at hne
    by_cases hm : tl.getD (Sp.oth d) 0 ∈ fd'
    · exact hm
    · rw [if_neg hm] at hne
      have e := hin v _ hv hN (by rw [hcast]; exact hr.step hd)
      exact absurd (by rw [← e]; exact h0) hne
  refine ⟨s1.len, fun w hw => ⟨fun hr => ?_, fun hr => ?_⟩⟩
  · rw [s1.lab w hw, if_pos (hmem _ hr)]
  · rw [s1.lab w hw, if_neg (fun hm => hr (s1.rch _ hm))]
theorem Sp.partsGo_st {tl : List Int} {N : Nat} (ht : ∀ x ∈ tl, 0 ≤ x ∧ x < (N : Int)) (hev : tl.length % 2 = 0) : ∀ c v of p, v + c = N → Sp.NSt N (fun i j => Sp.Reach tl i j) v of p → Sp.NSt N (fun i j => Sp.Reach tl i j) N (Sp.partsGo tl N c v of p).1 (Sp.partsGo tl N c v of p).2
  | 0, v, of, p, hv, h => by have e : N = v := by omega
                             subst e; exact h
  | c + 1, v, of, p, hv, h => by
    rw [Sp.partsGo]
    by_cases h0 : of.getD v 0 = -1
    · rw [if_pos h0]
      obtain ⟨f1, f2⟩ := Sp.flood_all (p := (p : Int)) (by omega) ht hev h.len (show v < N by omega) h0 h.inv
      exact Sp.partsGo_st ht hev c (v + 1) _ (p + 1) (by omega) (h.new (fun i => .refl _) (fun i j _ _ hr => hr.symm hev) (fun i j l h1 h2 => h1.trans h2) (by omega) h0 f1 (fun i hi hr => (f2 i hi).1 hr) (fun i hi hr => (f2 i hi).2 hr))
    · rw [if_neg h0]
      exact Sp.partsGo_st ht hev c (v + 1) of p (by omega) (h.old (by omega) h0)
/-- What Parts tells. -/
theorem Sp.pieces_st {q : Sp.Net} (hn : 0 ≤ q.n) (ht : ∀ x ∈ q.tail, 0 ≤ x ∧ x < q.n) (hev : q.tail.length % 2 = 0) : Sp.NSt q.n.toNat (fun i j => Sp.Reach q.tail i j) q.n.toNat (Sp.pieces q).1 (Sp.pieces q).2 := by
  unfold Sp.pieces
  exact Sp.partsGo_st (fun x hx => by have := ht x hx; omega) hev _ 0 _ 0 (by omega) (Sp.NSt.first _ _)
end Go.Proofs.Ytcdpgiklmonabaa


/- What the reference's Parts comes to: the same as the program's. -/
namespace Go.Proofs.Ytcdpgiklmonabaa
open Go Go.RowKit

def isum : List Int → Int
  | [] => 0
  | a :: t => a + isum t
theorem isum_set : ∀ (l : List Int) (i : Nat) (x : Int), i < l.length → isum (l.set i x) = isum l - l.getD i 0 + x
  | [], _, _, h => by simp at h
  | a :: t, 0, x, _ => by
    show x + isum t = a + isum t - a + x
    omega
  | a :: t, i + 1, x, h => by
    show a + isum (t.set i x) = a + isum t - t.getD i 0 + x
    rw [isum_set t i x (by simpa using h)]
    omega
theorem isum_nn : ∀ (l : List Int), (∀ x ∈ l, 0 ≤ x) → 0 ≤ isum l
  | [], _ => Int.le_refl _
  | a :: t, h => by
    have h1 := h a (by simp)
    have h2 := isum_nn t (fun x hx => h x (by simp [hx]))
    show 0 ≤ a + isum t
    omega
theorem isum_le (b : Nat) : ∀ (l : List Int), (∀ x ∈ l, x ≤ (b : Int)) → isum l ≤ ((l.length * b : Nat) : Int)
  | [], _ => by simp [isum]
  | a :: t, h => by
    have h1 := h a (by simp)
    have h2 := isum_le b t (fun x hx => h x (by simp [hx]))
    show a + isum t ≤ (((t.length + 1) * b : Nat) : Int)
    rw [Nat.succ_mul]
    omega
/-- Each vertex's label: one that is reached, no greater. -/
structure Sp.RInv (tl of : List Int) (N : Nat) : Prop where
  len : of.length = N
  bd : ∀ v, v < N → 0 ≤ of.getD v 0 ∧ of.getD v 0 ≤ (v : Int)
  rch : ∀ v : Nat, v < N → Sp.Reach tl v (of.getD v 0)
theorem Sp.RInv.nn {tl of : List Int} {N : Nat} (h : Sp.RInv tl of N) : 0 ≤ isum of := isum_nn of fun x hx => by
  obtain ⟨i, hi, rfl⟩ := List.mem_iff_getElem.1 hx
  rw [← Sp.getD_eq]
  exact (h.bd i (by rw [← h.len]; exact hi)).1
theorem Sp.RInv.le {tl of : List Int} {N : Nat} (h : Sp.RInv tl of N) : isum of ≤ ((N * N : Nat) : Int) := by
  have := isum_le N of fun x hx => by
    obtain ⟨i, hi, rfl⟩ := List.mem_iff_getElem.1 hx
    rw [← Sp.getD_eq]
    have hi' : i < N := by rw [← h.len]; exact hi
    have := (h.bd i hi').2
    omega
  rw [h.len] at this
  exact this
theorem Sp.RInv.set {tl of : List Int} {N : Nat} (h : Sp.RInv tl of N) (ht : ∀ x ∈ tl, 0 ≤ x ∧ x < (N : Int)) (hev : tl.length % 2 = 0) {d : Nat} (hd : d < tl.length) (hlt : of.getD (tl.getD d 0).toNat 0 < of.getD (tl.getD (Sp.oth d) 0).toNat 0) :
    Sp.RInv tl (of.set (tl.getD (Sp.oth d) 0).toNat (of.getD (tl.getD d 0).toNat 0)) N ∧ isum (of.set (tl.getD (Sp.oth d) 0).toNat (of.getD (tl.getD d 0).toNat 0)) < isum of := by
  have ho := oth_lt hd hev
  have ha := ht _ (Sp.getD_mem hd)
  have hb := ht _ (Sp.getD_mem ho)
  have haN : (tl.getD d 0).toNat < N := by omega
  have hbN : (tl.getD (Sp.oth d) 0).toNat < N := by omega
  have hba : Sp.Reach tl (tl.getD (Sp.oth d) 0) (tl.getD d 0) := by
    have h1 : Sp.Reach tl (tl.getD (Sp.oth d) 0) (tl.getD (Sp.oth (Sp.oth d)) 0) := (Sp.Reach.refl _).step ho
    rw [oth_oth] at h1
    exact h1
  refine ⟨⟨by rw [List.length_set]; exact h.len, fun v hv => ?_, fun v hv => ?_⟩, ?_⟩
  · rw [getD_set_eq _ _ _ _ (by rw [h.len]; exact hbN)]
    by_cases e : v = (tl.getD (Sp.oth d) 0).toNat
    · rw [if_pos e]
      have h1 := h.bd _ haN
      have h2 := h.bd _ hbN
      omega
    · rw [if_neg e]
      exact h.bd v hv
  · rw [getD_set_eq _ _ _ _ (by rw [h.len]; exact hbN)]
    by_cases e : v = (tl.getD (Sp.oth d) 0).toNat
    · rw [if_pos e, show (v : Int) = tl.getD (Sp.oth d) 0 by omega]
      have h1 := h.rch _ haN
      rw [show (((tl.getD d 0).toNat : Nat) : Int) = tl.getD d 0 by omega] at h1
      exact hba.trans h1
    · rw [if_neg e]
      exact h.rch v hv
  · rw [isum_set _ _ _ (by rw [h.len]; exact hbN)]
    omega
/-- No dart leads to a greater label. -/
def Sp.Still (tl of : List Int) (n : Nat) : Prop := ∀ d, d < n → of.getD (tl.getD (Sp.oth d) 0).toNat 0 ≤ of.getD (tl.getD d 0).toNat 0
theorem Sp.Still.reach {tl of : List Int} (h : Sp.Still tl of tl.length) (hev : tl.length % 2 = 0) {u v : Int} (hr : Sp.Reach tl u v) : of.getD u.toNat 0 = of.getD v.toNat 0 := by
  refine hr.ind (p := fun v => of.getD u.toNat 0 = of.getD v.toNat 0) rfl (fun d hd _ ih => ?_)
  have h1 := h d hd
  have h2 := h (Sp.oth d) (oth_lt hd hev)
  rw [oth_oth] at h2
  omega
/-- The numbers, laid so far. -/
structure Sp.NumS (of num : List Int) (N v k : Nat) : Prop where
  len : num.length = N
  bd : ∀ i, i < v → 0 ≤ num.getD i 0 ∧ num.getD i 0 < (k : Int)
  same : ∀ i j, i < v → j < v → (num.getD i 0 = num.getD j 0 ↔ of.getD i 0 = of.getD j 0)
  rg : ∀ i, i < v → ∀ c, 0 ≤ c → c < num.getD i 0 → ∃ j, j < i ∧ num.getD j 0 = c
  on : ∀ c : Nat, c < k → ∃ i, i < v ∧ num.getD i 0 = (c : Int)
theorem Sp.NumS.first (of : List Int) (N : Nat) : Sp.NumS of (List.replicate N 0) N 0 0 := ⟨by simp, fun i hi => by omega, fun i j hi => by omega, fun i hi => by omega, fun c hc => by omega⟩
theorem Sp.NumS.new {tl of num : List Int} {N v k : Nat} (h : Sp.NumS of num N v k) (hi : Sp.RInv tl of N) (hv : v < N) (he : of.getD v 0 = (v : Int)) : Sp.NumS of (num.set v (k : Int)) N (v + 1) (k + 1) := by
  have hg : ∀ i, (num.set v (k : Int)).getD i 0 = if i = v then (k : Int) else num.getD i 0 := fun i => getD_set_eq num i v k (by rw [h.len]; exact hv)
  have hne : ∀ i, i < v → of.getD i 0 ≠ of.getD v 0 := fun i h1 => by have := (hi.bd i (by omega)).2; omega
  refine ⟨by rw [List.length_set]; exact h.len, fun i h1 => ?_, fun i j h1 h2 => ?_, fun i h1 c c0 c1 => ?_, fun c hc => ?_⟩
  · rw [hg]
    split
    · omega
    · have := h.bd i (by omega); omega
  · rw [hg, hg]
    by_cases e1 : i = v <;> by_cases e2 : j = v
    · rw [if_pos e1, if_pos e2, e1, e2]; exact ⟨fun _ => rfl, fun _ => rfl⟩
    · rw [if_pos e1, if_neg e2, e1]
      have := h.bd j (by omega)
      have := hne j (by omega)
      exact ⟨fun e => by omega, fun e => absurd e.symm this⟩
    · rw [if_neg e1, if_pos e2, e2]
      have := h.bd i (by omega)
      have := hne i (by omega)
      exact ⟨fun e => by omega, fun e => absurd e this⟩
    · rw [if_neg e1, if_neg e2]; exact h.same i j (by omega) (by omega)
  · rw [hg] at c1
    by_cases e1 : i = v
    · rw [if_pos e1] at c1
      obtain ⟨j, h2, h3⟩ := h.on c.toNat (by omega)
      exact ⟨j, by omega, by rw [hg, if_neg (by omega), h3]; omega⟩
    · rw [if_neg e1] at c1
      obtain ⟨j, h2, h3⟩ := h.rg i (by omega) c c0 c1
      exact ⟨j, h2, by rw [hg, if_neg (by omega)]; exact h3⟩
  · by_cases e : c = k
    · exact ⟨v, by omega, by rw [hg, if_pos rfl, e]⟩
    · obtain ⟨i, h2, h3⟩ := h.on c (by omega)
      exact ⟨i, by omega, by rw [hg, if_neg (by omega)]; exact h3⟩
theorem Sp.NumS.old {tl of num : List Int} {N v k u : Nat} (h : Sp.NumS of num N v k) (hi : Sp.RInv tl of N) (hs : Sp.Still tl of tl.length) (hev : tl.length % 2 = 0) (hv : v < N) (hu : of.getD v 0 = (u : Int)) (hne : u ≠ v) : u < v ∧ Sp.NumS of (num.set v (num.getD u 0)) N (v + 1) k := by
  have huv : u < v := by have := (hi.bd v hv).2; omega
  have he : of.getD u 0 = of.getD v 0 := by
    have h1 := hs.reach hev (hi.rch v hv)
    rw [hu, Int.toNat_natCast, Int.toNat_natCast] at h1
    exact h1.symm
  have hg : ∀ i, (num.set v (num.getD u 0)).getD i 0 = if i = v then num.getD u 0 else num.getD i 0 := fun i => getD_set_eq num i v _ (by rw [h.len]; exact hv)
  refine ⟨huv, by rw [List.length_set]; exact h.len, fun i h1 => ?_, fun i j h1 h2 => ?_, fun i h1 c c0 c1 => ?_, fun c hc => ?_⟩
  · rw [hg]
    split
    · exact h.bd u huv
    · exact h.bd i (by omega)
  · rw [hg, hg]
    by_cases e1 : i = v <;> by_cases e2 : j = v
    · rw [if_pos e1, if_pos e2, e1, e2]; exact ⟨fun _ => rfl, fun _ => rfl⟩
    · rw [if_pos e1, if_neg e2, e1, ← he]; exact h.same u j huv (by omega)
    · rw [if_neg e1, if_pos e2, e2, ← he]; exact h.same i u (by omega) huv
    · rw [if_neg e1, if_neg e2]; exact h.same i j (by omega) (by omega)
  · rw [hg] at c1
    by_cases e1 : i = v
    · rw [if_pos e1] at c1
      obtain ⟨j, h2, h3⟩ := h.rg u huv c c0 c1
      exact ⟨j, by omega, by rw [hg, if_neg (by omega)]; exact h3⟩
    · rw [if_neg e1] at c1
      obtain ⟨j, h2, h3⟩ := h.rg i (by omega) c c0 c1
      exact ⟨j, h2, by rw [hg, if_neg (by omega)]; exact h3⟩
  · obtain ⟨i, h2, h3⟩ := h.on c hc
    exact ⟨i, by omega, by rw [hg, if_neg (by omega)]; exact h3⟩
theorem Sp.NumS.last {tl of num : List Int} {N k : Nat} (h : Sp.NumS of num N N k) (hi : Sp.RInv tl of N) (hs : Sp.Still tl of tl.length) (hev : tl.length % 2 = 0) : Sp.NSt N (fun i j => Sp.Reach tl i j) N num k := by
  refine ⟨h.len, fun i hi' => .inr (h.bd i hi'), fun i hi' => (h.bd i hi').1, fun i j h1 h2 hr => ?_, fun i j h1 h2 _ e => ?_, h.rg, h.on⟩
  · refine (h.same i j h1 h2).2 ?_
    have := hs.reach hev hr
    rw [Int.toNat_natCast, Int.toNat_natCast] at this
    exact this
  · have e2 := (h.same i j h1 h2).1 e
    have a1 := hi.rch i h1
    have a2 := hi.rch j h2
    rw [← e2] at a2
    exact a1.trans (a2.symm hev)
/-- The labels at first: each vertex its own. -/
theorem Sp.RInv.first {tl of : List Int} {N : Nat} (hl : of.length = N) (h : ∀ v, v < N → of.getD v 0 = (v : Int)) : Sp.RInv tl of N :=
  ⟨hl, fun v hv => by rw [h v hv]; omega, fun v hv => by rw [h v hv]; exact .refl _⟩
end Go.Proofs.Ytcdpgiklmonabaa


