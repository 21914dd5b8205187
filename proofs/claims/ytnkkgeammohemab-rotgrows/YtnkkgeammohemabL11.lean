/- What the proof needs, part 11. -/
import Derived.Test.YtnkkgeammohemabL10
/- The program's rounds, faces, a dart's round: as the reference's. -/
namespace Go.Proofs.Ytnkkgeammohemab
open Go Go.RowKit

/-- The rounds, each from its least dart on. -/
def Sp.cyc (st : List Int) : Nat → Nat → List Int → List (List Int)
  | 0, _, _ => []
  | f + 1, d, row => if (d : Int) ∈ row then Sp.cyc st f (d + 1) row else Sp.rounds st d (Sp.per st d) :: Sp.cyc st f (d + 1) (row ++ Sp.rounds st d (Sp.per st d))
/-- Where each of some rows begins and ends, one behind the other. -/
def Sp.offs : Nat → List (List Int) → List (Nat × Nat)
  | _, [] => []
  | o, r :: c => (o, o + r.length) :: Sp.offs (o + r.length) c
def Sp.paintAll : Nat → List Int → List (List Int) → List Int
  | _, of, [] => of
  | k, of, r :: c => Sp.paintAll (k + 1) (Sp.paint k of r) c
theorem Sp.offs_len : ∀ (c : List (List Int)) (o : Nat), (Sp.offs o c).length = c.length
  | [], _ => rfl
  | r :: c, o => by simp [Sp.offs, Sp.offs_len c]
/-- Closed under next ones. -/
def Sp.Shut (st row : List Int) : Prop := ∀ i, i < st.length → (i : Int) ∈ row → ((Sp.fn st i : Nat) : Int) ∈ row
theorem Sp.Shut.orb {st row : List Int} (hp : Sp.Perm st) (h : Sp.Shut st row) {i j : Nat} (hi : i < st.length) (hm : (i : Int) ∈ row) (ho : OrbF (Sp.fn st) i j) : (j : Int) ∈ row := by
  obtain ⟨m, rfl⟩ := ho
  induction m with
  | zero => exact hm
  | succ m ih => exact h _ (hp.fnP.it hi m) ih
theorem Sp.Shut.add {st row : List Int} (hp : Sp.Perm st) (h : Sp.Shut st row) {d : Nat} (hd : d < st.length) : Sp.Shut st (row ++ Sp.rounds st d (Sp.per st d)) := by
  intro i hi hm
  rcases List.mem_append.1 hm with h1 | h1
  · exact List.mem_append_left _ (h i hi h1)
  · refine List.mem_append_right _ ?_
    obtain ⟨j, e, o⟩ := (hp.mem_rounds hd _).1 h1
    have : i = j := by omega
    subst this
    exact (hp.mem_rounds hd _).2 ⟨_, rfl, o.trans (OrbF.one _ _)⟩
theorem Sp.walkR_round {st : List Int} (hp : Sp.Perm st) {d : Nat} (hd : d < st.length) (row : List Int) (hs : Sp.Shut st row) (hn : ¬ (d : Int) ∈ row) :
    ∀ j f, j ≤ Sp.per st d → Sp.per st d < j + f → Sp.walkR st d f (Sp.nth st d j) (row ++ Sp.rounds st d j) = some (row ++ Sp.rounds st d (Sp.per st d)) := by
  obtain ⟨p1, p2, p3, p4⟩ := hp.per hd
  intro j f
  induction f generalizing j with
  | zero => intro h1 h2; omega
  | succ f ih =>
    intro h1 h2
    rw [Sp.walkR]
    rcases Nat.lt_or_ge j (Sp.per st d) with hj | hj
    · have hnm : ¬ Sp.nth st d j ∈ row ++ Sp.rounds st d j := by
        intro hm
        rcases List.mem_append.1 hm with h3 | h3
        · rw [hp.nth_it hd] at h3
          exact hn (hs.orb hp (hp.fnP.it hd j) h3 (hp.sym hd ⟨j, rfl⟩))
        · obtain ⟨i, hi, e⟩ := List.mem_map.1 h3
          rw [List.mem_range] at hi
          have e2 : Sp.nth st d (i + (j - i)) = Sp.nth st d i := by rw [show i + (j - i) = j by omega]; exact e.symm
          exact p4 (j - i) (by omega) (by omega) (hp.back hd i (j - i) e2)
      rw [if_neg hnm]
      have e1 : st.getD (Sp.nth st d j).toNat 0 = Sp.nth st d (j + 1) := rfl
      have e2 : row ++ Sp.rounds st d j ++ [Sp.nth st d j] = row ++ Sp.rounds st d (j + 1) := by rw [Sp.rounds_succ, List.append_assoc]
      rw [e1, e2]
      exact ih (j + 1) (by omega) (by omega)
    · obtain rfl : j = Sp.per st d := by omega
      have hm : Sp.nth st d (Sp.per st d) ∈ row ++ Sp.rounds st d (Sp.per st d) := by
        rw [p3]
        exact List.mem_append_right _ ((hp.mem_rounds hd _).2 ⟨d, rfl, OrbF.refl _ _⟩)
      rw [if_pos hm, if_pos p3]
theorem Sp.rgo_cyc {st : List Int} (hp : Sp.Perm st) : ∀ f d row ps, d + f = st.length → Sp.Shut st row → RFit st.length row →
    Sp.rgo st f d row ps = some (row ++ (Sp.cyc st f d row).flatten, ps ++ Sp.offs row.length (Sp.cyc st f d row))
  | 0, d, row, ps, _, _, _ => by simp [Sp.rgo, Sp.cyc, Sp.offs]
  | f + 1, d, row, ps, hd, hs, hf => by
    rw [Sp.rgo, Sp.cyc]
    by_cases hm : (d : Int) ∈ row
    · rw [if_pos hm, if_pos hm]
      exact Sp.rgo_cyc hp f (d + 1) row ps (by omega) hs hf
    · rw [if_neg hm, if_neg hm]
      have hdl : d < st.length := by omega
      obtain ⟨p1, p2, p3, p4⟩ := hp.per hdl
      have hw : Sp.walkR st d (st.length + 1 - row.length) d row = some (row ++ Sp.rounds st d (Sp.per st d)) := by
        have hfit : (row ++ Sp.rounds st d (Sp.per st d)).length ≤ st.length := by
          refine nodup_le _ _ ?_ ?_
          · rw [List.nodup_append]
            refine ⟨hf.nd, ?_, ?_⟩
            · unfold List.Nodup
              rw [List.pairwise_iff_getElem]
              intro i j hi hj hij e
              rw [Sp.rounds_len] at hi hj
              simp only [Sp.rounds, List.getElem_map, List.getElem_range] at e
              have e2 : Sp.nth st d (i + (j - i)) = Sp.nth st d i := by rw [show i + (j - i) = j by omega]; exact e.symm
              exact p4 (j - i) (by omega) (by omega) (hp.back hdl i (j - i) e2)
            · intro a ha b hb e
              subst e
              obtain ⟨j, rfl, o⟩ := (hp.mem_rounds hdl _).1 hb
              obtain ⟨m, hj⟩ := o
              exact hm (hs.orb hp (by rw [← hj]; exact hp.fnP.it hdl m) ha (hp.sym hdl ⟨m, hj⟩))
          · intro x hx
            rcases List.mem_append.1 hx with h1 | h1
            · exact hf.bd x h1
            · obtain ⟨j, rfl, m, hj⟩ := (hp.mem_rounds hdl _).1 h1
              have := hp.fnP.it hdl m
              omega
        rw [List.length_append, Sp.rounds_len] at hfit
        have h := Sp.walkR_round hp hdl row hs hm 0 (st.length + 1 - row.length) (by omega) (by omega)
        have e0 : Sp.rounds st d 0 = [] := rfl
        rw [e0, List.append_nil] at h
        exact h
      obtain ⟨r1, -, -⟩ := walkR_ok rfl hp.bd d _ _ _ _ hw (by omega) (by omega) hf
      rw [hw]
      show Sp.rgo st f (d + 1) (row ++ Sp.rounds st d (Sp.per st d)) (ps ++ [(row.length, (row ++ Sp.rounds st d (Sp.per st d)).length)]) = _
      rw [Sp.rgo_cyc hp f (d + 1) _ _ (by omega) (hs.add hp hdl) r1]
      simp [Sp.offs, List.append_assoc]
/-- All rounds of a row. -/
def Sp.cycs (st : List Int) : List (List Int) := Sp.cyc st st.length 0 []
theorem Sp.rnds_cyc {st : List Int} (hp : Sp.Perm st) : Sp.rnds st = some ((Sp.cycs st).flatten, Sp.offs 0 (Sp.cycs st)) := by
  have h := Sp.rgo_cyc hp st.length 0 [] [] (by omega) (fun i _ h => by simp at h) ⟨by simp, by simp⟩
  simpa [Sp.rnds, Sp.cycs] using h
theorem Sp.rndsD_cyc {st : List Int} (hp : Sp.Perm st) : Sp.rndsD st = ((Sp.cycs st).flatten, Sp.offs 0 (Sp.cycs st)) := by
  unfold Sp.rndsD
  rw [Sp.rnds_cyc hp]
  rfl
theorem Sp.piece_at (a r b : List Int) : Sp.piece (a ++ (r ++ b)) (a.length, a.length + r.length) = r := by
  simp [Sp.piece]
theorem Sp.facesGo_paint : ∀ (c : List (List Int)) (a : List Int) (k : Nat) (of : List Int), Sp.facesGo (a ++ c.flatten) (Sp.offs a.length c) k of = Sp.paintAll k of c
  | [], _, _, _ => rfl
  | r :: c, a, k, of => by
    have e : a ++ (r :: c).flatten = a ++ (r ++ c.flatten) := by simp
    show Sp.facesGo (a ++ (r :: c).flatten) (Sp.offs (a.length + r.length) c) (k + 1) (Sp.paint k of (Sp.piece (a ++ (r :: c).flatten) (a.length, a.length + r.length))) = _
    rw [e, Sp.piece_at]
    have h := Sp.facesGo_paint c (a ++ r) (k + 1) (Sp.paint k of r)
    rw [List.length_append, List.append_assoc] at h
    exact h
theorem Sp.paintAll_len : ∀ (c : List (List Int)) (k : Nat) (of : List Int), (Sp.paintAll k of c).length = of.length
  | [], _, _ => rfl
  | r :: c, k, of => by
    show (Sp.paintAll (k + 1) (Sp.paint k of r) c).length = _
    rw [Sp.paintAll_len c, Sp.paint_len]
theorem Sp.paintAll_same : ∀ (c : List (List Int)) (k : Nat) (of1 of2 : List Int) (i : Nat), (∀ r ∈ c, ∀ x ∈ r, 0 ≤ x) → i < of1.length → i < of2.length →
    (Sp.paintAll k of1 c).getD i 0 = (Sp.paintAll k of2 c).getD i 0 ∨ ((Sp.paintAll k of1 c).getD i 0 = of1.getD i 0 ∧ (Sp.paintAll k of2 c).getD i 0 = of2.getD i 0)
  | [], _, _, _, _, _, _, _ => .inr ⟨rfl, rfl⟩
  | r :: c, k, of1, of2, i, h, h1, h2 => by
    have h0 := h r (by simp)
    have g1 := Sp.paint_get k r of1 i h0 h1
    have g2 := Sp.paint_get k r of2 i h0 h2
    rcases Sp.paintAll_same c (k + 1) (Sp.paint k of1 r) (Sp.paint k of2 r) i (fun r' hr => h r' (by simp [hr])) (by rw [Sp.paint_len]; exact h1) (by rw [Sp.paint_len]; exact h2) with e | ⟨e1, e2⟩
    · exact .inl e
    · rw [g1] at e1
      rw [g2] at e2
      by_cases hm : (i : Int) ∈ r
      · rw [if_pos hm] at e1 e2
        exact .inl (e1.trans e2.symm)
      · rw [if_neg hm] at e1 e2
        exact .inr ⟨e1, e2⟩
theorem Sp.faces2Go_cyc {st : List Int} (hp : Sp.Perm st) : ∀ f d of k row, d + f = st.length → of.length = st.length → (∀ i, i < st.length → ((i : Int) ∈ row ↔ 0 ≤ of.getD i 0)) →
    Sp.faces2Go st f d of k = (Sp.paintAll k of (Sp.cyc st f d row), k + (Sp.cyc st f d row).length)
  | 0, _, _, _, _, _, _, _ => rfl
  | f + 1, d, of, k, row, hd, hl, hr => by
    rw [Sp.faces2Go, Sp.cyc]
    have hdl : d < st.length := by omega
    by_cases h0 : 0 ≤ of.getD d 0
    · rw [if_pos h0, if_pos ((hr d hdl).2 h0)]
      exact Sp.faces2Go_cyc hp f (d + 1) of k row (by omega) hl hr
    · rw [if_neg h0, if_neg (fun h => h0 ((hr d hdl).1 h))]
      have h1 := Sp.faces2Go_cyc hp f (d + 1) (Sp.paint k of (Sp.rounds st d (Sp.per st d))) (k + 1) (row ++ Sp.rounds st d (Sp.per st d)) (by omega) (by rw [Sp.paint_len]; exact hl) (fun i hi => by
        rw [Sp.paint_get k _ of i (fun x hx => by obtain ⟨j, rfl, -⟩ := (hp.mem_rounds hdl x).1 hx; omega) (by omega), List.mem_append, hr i hi]
        by_cases hm : (i : Int) ∈ Sp.rounds st d (Sp.per st d)
        · rw [if_pos hm]
          exact ⟨fun _ => by omega, fun _ => .inr hm⟩
        · rw [if_neg hm]
          exact ⟨fun h => h.resolve_right hm, fun h => .inl h⟩)
      rw [h1]
      simp [Sp.paintAll]
      omega
theorem Sp.cyc_pos {st : List Int} (hp : Sp.Perm st) : ∀ f d row, d + f = st.length → ∀ r ∈ Sp.cyc st f d row, ∃ e : Nat, e < st.length ∧ r = Sp.rounds st e (Sp.per st e)
  | 0, _, _, _, r, h => by simp [Sp.cyc] at h
  | f + 1, d, row, hd, r, h => by
    rw [Sp.cyc] at h
    split at h
    · exact Sp.cyc_pos hp f (d + 1) row (by omega) r h
    · rcases List.mem_cons.1 h with e | e
      · exact ⟨d, by omega, e⟩
      · exact Sp.cyc_pos hp f (d + 1) _ (by omega) r e
/-- The program's Faces and the reference's tell the same. -/
theorem Sp.faces_eq {q : Sp.Net} (hp : Sp.Perm q.next) (hl : q.next.length = q.tail.length) (hev : q.tail.length % 2 = 0) : Sp.facesL q = (Sp.faces2 q).1 ∧ Sp.facesN q = max (Sp.faces2 q).2 1 := by
  have hb := hp.behind (by rw [hl]; exact hev)
  have hlb : (Sp.behindL q.next).length = q.tail.length := by rw [Sp.behindL_len, hl]
  have hst := (Sp.faces2_st hp hl hev)
  have h2 := Sp.faces2Go_cyc hb (Sp.behindL q.next).length 0 (List.replicate (Sp.behindL q.next).length (-1)) 0 [] (by omega) (by simp) (fun i hi => by rw [getD_rep _ _ _ hi]; simp)
  have e2 : Sp.faces2 q = (Sp.paintAll 0 (List.replicate q.tail.length (-1)) (Sp.cycs (Sp.behindL q.next)), 0 + (Sp.cycs (Sp.behindL q.next)).length) := by
    rw [hlb] at h2
    unfold Sp.faces2 Sp.cycs
    rw [h2, hlb]
  have e1 : Sp.facesL q = Sp.paintAll 0 (List.replicate q.tail.length 0) (Sp.cycs (Sp.behindL q.next)) := by
    unfold Sp.facesL
    rw [Sp.rndsD_cyc hb]
    have h := Sp.facesGo_paint (Sp.cycs (Sp.behindL q.next)) [] 0 (List.replicate q.tail.length 0)
    rw [List.nil_append] at h
    exact h
  refine ⟨?_, ?_⟩
  · apply List.ext_getElem
    · rw [e1, Sp.paintAll_len, Sp.faces2_len, List.length_replicate]
    · intro i h3 h4
      have hi : i < q.tail.length := by rw [Sp.faces2_len] at h4; exact h4
      rw [← Sp.getD_eq _ _ h3, ← Sp.getD_eq _ _ h4]
      have hd := hst.done i (by rw [hlb]; exact hi)
      rw [e2] at hd ⊢
      rw [e1]
      rcases Sp.paintAll_same (Sp.cycs (Sp.behindL q.next)) 0 (List.replicate q.tail.length 0) (List.replicate q.tail.length (-1)) i (fun r hr x hx => by
        obtain ⟨e, he, rfl⟩ := Sp.cyc_pos hb _ 0 [] (by omega) r hr
        obtain ⟨j, rfl, -⟩ := (hb.mem_rounds he x).1 hx
        omega) (by simpa using hi) (by simpa using hi) with h5 | ⟨-, h5⟩
      · exact h5
      · rw [getD_rep _ _ _ hi] at h5
        have hd' : 0 ≤ (Sp.paintAll 0 (List.replicate q.tail.length (-1)) (Sp.cycs (Sp.behindL q.next))).getD i 0 := hd
        omega
  · unfold Sp.facesN
    rw [Sp.rndsD_cyc hb, e2]
    show max (Sp.offs 0 (Sp.cycs (Sp.behindL q.next))).length 1 = max (0 + (Sp.cycs (Sp.behindL q.next)).length) 1
    rw [Sp.offs_len, Nat.zero_add]
/-- Each dart is in one of the rounds. -/
theorem Sp.cyc_all {st : List Int} (hp : Sp.Perm st) : ∀ f d row, d + f = st.length → (∀ i, i < d → (i : Int) ∈ row) → ∀ i : Nat, i < st.length → (i : Int) ∈ row ∨ ∃ r ∈ Sp.cyc st f d row, (i : Int) ∈ r
  | 0, d, row, hd, hr, i, hi => .inl (hr i (by omega))
  | f + 1, d, row, hd, hr, i, hi => by
    rw [Sp.cyc]
    by_cases hm : (d : Int) ∈ row
    · rw [if_pos hm]
      exact Sp.cyc_all hp f (d + 1) row (by omega) (fun j hj => by
        rcases Nat.lt_or_ge j d with h1 | h1
        · exact hr j h1
        · rw [show j = d by omega]; exact hm) i hi
    · rw [if_neg hm]
      have hdd : (d : Int) ∈ Sp.rounds st d (Sp.per st d) := (hp.mem_rounds (by omega) _).2 ⟨d, rfl, OrbF.refl _ _⟩
      rcases Sp.cyc_all hp f (d + 1) (row ++ Sp.rounds st d (Sp.per st d)) (by omega) (fun j hj => by
        rcases Nat.lt_or_ge j d with h1 | h1
        · exact List.mem_append_left _ (hr j h1)
        · rw [show j = d by omega]; exact List.mem_append_right _ hdd) i hi with h1 | ⟨r, h1, h2⟩
      · rcases List.mem_append.1 h1 with h2 | h2
        · exact .inl h2
        · exact .inr ⟨_, List.mem_cons_self, h2⟩
      · exact .inr ⟨r, List.mem_cons_of_mem _ h1, h2⟩
theorem Sp.ofGo_find : ∀ (c : List (List Int)) (a : List Int) (d : Int), Sp.ofGo (a ++ c.flatten) d (Sp.offs a.length c) = match c.find? (fun r => decide (d ∈ r)) with | some r => Sp.rot2 r (r.idxOf d) | none => []
  | [], _, _ => rfl
  | r :: c, a, d => by
    have e : a ++ (r :: c).flatten = a ++ (r ++ c.flatten) := by simp
    show (if d ∈ Sp.piece (a ++ (r :: c).flatten) (a.length, a.length + r.length) then _ else Sp.ofGo (a ++ (r :: c).flatten) d (Sp.offs (a.length + r.length) c)) = _
    rw [e, Sp.piece_at]
    by_cases hd : d ∈ r
    · rw [if_pos hd]
      simp [hd]
    · rw [if_neg hd]
      have h := Sp.ofGo_find c (a ++ r) d
      rw [List.length_append, List.append_assoc] at h
      rw [h]
      simp [hd]
/-- A dart's round, as the program tells it. -/
theorem Sp.roundOf_eq {st : List Int} (hp : Sp.Perm st) {d : Nat} (hd : d < st.length) : Sp.roundOf st d = Sp.rounds st d (Sp.per st d) := by
  unfold Sp.roundOf
  rw [Sp.rndsD_cyc hp]
  have h := Sp.ofGo_find (Sp.cycs st) [] d
  rw [List.nil_append] at h
  rw [show Sp.offs 0 (Sp.cycs st) = Sp.offs ([] : List Int).length (Sp.cycs st) from rfl, h]
  have hex : ∃ r ∈ Sp.cycs st, (d : Int) ∈ r := by
    rcases Sp.cyc_all hp st.length 0 [] (by omega) (fun i hi => by omega) d hd with h1 | h1
    · simp at h1
    · exact h1
  cases hf : (Sp.cycs st).find? (fun r => decide ((d : Int) ∈ r)) with
  | none =>
    obtain ⟨r, h1, h2⟩ := hex
    have := List.find?_eq_none.1 hf r h1
    simp [h2] at this
  | some r =>
    have hm := List.mem_of_find?_eq_some hf
    have hdr : (d : Int) ∈ r := by have := List.find?_some hf; simpa using this
    obtain ⟨e, he, rfl⟩ := Sp.cyc_pos hp _ 0 [] (by omega) r hm
    show Sp.rot2 (Sp.rounds st e (Sp.per st e)) ((Sp.rounds st e (Sp.per st e)).idxOf (d : Int)) = _
    obtain ⟨p1, p2, p3, p4⟩ := hp.per he
    obtain ⟨j, hj, ej⟩ := List.mem_map.1 hdr
    rw [List.mem_range] at hj
    have hper : itf (Sp.fn st) e (Sp.per st e) = e := by have := hp.nth_it he (Sp.per st e); omega
    have hde : itf (Sp.fn st) e j = d := by have := hp.nth_it he j; omega
    have hidx : (Sp.rounds st e (Sp.per st e)).idxOf (d : Int) = j := by
      refine idxOf_of _ _ j (by rw [Sp.rounds_len]; exact hj) (by simp only [Sp.rounds, List.getElem_map, List.getElem_range]; exact ej) (fun i hi hij ei => ?_)
      simp only [Sp.rounds, List.getElem_map, List.getElem_range] at ei
      have e2 : Sp.nth st e (i + (j - i)) = Sp.nth st e i := by rw [show i + (j - i) = j by omega, ej, ei]
      exact p4 (j - i) (by omega) (by omega) (hp.back he i (j - i) e2)
    have hpd : Sp.per st d = Sp.per st e := by
      obtain ⟨s1, s2, s3, s4⟩ := hp.per hd
      have hperd : itf (Sp.fn st) d (Sp.per st d) = d := by have := hp.nth_it hd (Sp.per st d); omega
      have a1 : itf (Sp.fn st) d (Sp.per st e) = d := by
        rw [← hde, ← itf_add, Nat.add_comm, itf_add, hper]
      have a2 : itf (Sp.fn st) e (Sp.per st d) = e := by
        have b1 : itf (Sp.fn st) d (Sp.per st e - j) = e := by rw [← hde, ← itf_add, show j + (Sp.per st e - j) = Sp.per st e by omega, hper]
        rw [← b1, ← itf_add, Nat.add_comm, itf_add, hperd]
      rcases Nat.lt_trichotomy (Sp.per st d) (Sp.per st e) with h1 | h1 | h1
      · exact absurd (by rw [hp.nth_it he, a2]) (p4 (Sp.per st d) (by omega) h1)
      · exact h1
      · exact absurd (by rw [hp.nth_it hd, a1]) (s4 (Sp.per st e) (by omega) h1)
    rw [hidx, hpd]
    unfold Sp.rot2
    apply List.ext_getElem
    · simp [Sp.rounds_len]; omega
    · intro i h1 h2
      rw [Sp.rounds_len] at h2
      have g2 : (Sp.rounds st d (Sp.per st e))[i] = ((itf (Sp.fn st) e (j + i) : Nat) : Int) := by
        simp only [Sp.rounds, List.getElem_map, List.getElem_range]
        rw [hp.nth_it hd, itf_add, hde]
      rw [g2]
      rcases Nat.lt_or_ge i (Sp.per st e - j) with h3 | h3
      · rw [List.getElem_append_left (by rw [List.length_drop, Sp.rounds_len]; exact h3), List.getElem_drop]
        simp only [Sp.rounds, List.getElem_map, List.getElem_range]
        exact hp.nth_it he (j + i)
      · rw [List.getElem_append_right (by rw [List.length_drop, Sp.rounds_len]; exact h3), List.getElem_take]
        simp only [Sp.rounds, List.getElem_map, List.getElem_range, List.length_drop, List.length_map, List.length_range]
        rw [hp.nth_it he]
        have e5 : j + i = Sp.per st e + (i - (Sp.per st e - j)) := by omega
        rw [e5, itf_add, hper]
end Go.Proofs.Ytnkkgeammohemab


/- Nets that were grown in a plane are plane: their vertices' rounds, their faces, all in one piece. -/
namespace Go.Proofs.Ytnkkgeammohemab
open Go Go.RowKit

theorem layIn_get (l : List Int) (bh d x : Nat) (hb : bh < l.length) (hd : d < l.length) : (Sp.layIn l bh d).getD x 0 = if x = bh then (d : Int) else if x = d then l.getD bh 0 else l.getD x 0 := by
  unfold Sp.layIn
  rw [getD_set_eq _ _ _ _ (by rw [List.length_set]; exact hb), getD_set_eq _ _ _ _ hd]
theorem fn_lay (l : List Int) (bh d x : Nat) (hb : bh < l.length) (hd : d < l.length) : Sp.fn (Sp.layIn l bh d) x = if x = bh then d else if x = d then Sp.fn l bh else Sp.fn l x := by
  unfold Sp.fn
  rw [layIn_get l bh d x hb hd]
  by_cases h1 : x = bh
  · rw [if_pos h1, if_pos h1]; omega
  · rw [if_neg h1, if_neg h1]
    by_cases h2 : x = d
    · rw [if_pos h2, if_pos h2]
    · rw [if_neg h2, if_neg h2]
theorem fn_app (l : List Int) (x : Nat) (hx : x < l.length + 2) : Sp.fn (l ++ [(l.length : Int), ((l.length + 1 : Nat) : Int)]) x = if x < l.length then Sp.fn l x else x := by
  unfold Sp.fn
  rw [List.getD_eq_getElem?_getD]
  by_cases h1 : x < l.length
  · rw [if_pos h1, List.getElem?_append_left h1, ← List.getD_eq_getElem?_getD]
  · rw [if_neg h1, List.getElem?_append_right (by omega)]
    have : x = l.length ∨ x = l.length + 1 := by omega
    rcases this with rfl | rfl
    · simp
    · simp
theorem fn_behind (l : List Int) (x : Nat) (hx : x < l.length) : Sp.fn (Sp.behindL l) x = Sp.fn l (Sp.oth x) := by
  unfold Sp.fn
  rw [Sp.behindL_get l x hx]
theorem oth_new {L : Nat} (h : L % 2 = 0) : Sp.oth L = L + 1 ∧ Sp.oth (L + 1) = L := by
  unfold Sp.oth
  constructor
  · rw [if_pos h]
  · rw [if_neg (by omega)]; omega
theorem oth_ne_iff {x e : Nat} : Sp.oth x = e ↔ x = Sp.oth e := ⟨fun h => by rw [← h, oth_oth], fun h => by rw [h, oth_oth]⟩
/-- The next ones behind a new edge to a new vertex; across a face; a loop. -/
theorem next_new {nx : List Int} {e : Nat} (he : e < nx.length) (x : Nat) (hx : x < nx.length + 2) :
    Sp.fn (Sp.layIn (nx ++ [(nx.length : Int), ((nx.length + 1 : Nat) : Int)]) e nx.length) x = fixF (nx.length + 1) (insF nx.length e (Sp.fn nx)) x := by
  rw [fn_lay _ _ _ _ (by simp; omega) (by simp)]
  unfold fixF insF
  by_cases h1 : x = e
  · rw [if_pos h1, if_neg (by omega), if_pos h1]
  · rw [if_neg h1]
    by_cases h2 : x = nx.length
    · rw [if_pos h2, if_neg (by omega), if_neg h1, if_pos h2, fn_app _ _ (by omega), if_pos he]
    · rw [if_neg h2, fn_app _ _ hx]
      by_cases h3 : x = nx.length + 1
      · rw [if_pos h3, if_neg (by omega)]; exact h3
      · rw [if_neg h3, if_neg h1, if_neg h2, if_pos (by omega)]
theorem next_across {nx : List Int} {e g : Nat} (he : e < nx.length) (hg : g < nx.length) (_hne : g ≠ e) (x : Nat) (hx : x < nx.length + 2) :
    Sp.fn (Sp.layIn (Sp.layIn (nx ++ [(nx.length : Int), ((nx.length + 1 : Nat) : Int)]) e nx.length) g (nx.length + 1)) x = insF (nx.length + 1) g (insF nx.length e (Sp.fn nx)) x := by
  have hl : (nx ++ [(nx.length : Int), ((nx.length + 1 : Nat) : Int)]).length = nx.length + 2 := by simp
  rw [fn_lay _ _ _ _ (by rw [Sp.layIn_len, hl]; omega) (by rw [Sp.layIn_len, hl]; omega)]
  unfold insF
  by_cases h1 : x = g
  · rw [if_pos h1, if_pos h1]
  · rw [if_neg h1, if_neg h1]
    by_cases h2 : x = nx.length + 1
    · rw [if_pos h2, if_pos h2, next_new he g (by omega)]
      unfold fixF insF
      rw [if_neg (by omega)]
    · rw [if_neg h2, if_neg h2, next_new he x hx]
      unfold fixF insF
      rw [if_neg h2]
theorem next_loop {nx : List Int} {e : Nat} (he : e < nx.length) (x : Nat) (hx : x < nx.length + 2) :
    Sp.fn (Sp.layIn (Sp.layIn (nx ++ [(nx.length : Int), ((nx.length + 1 : Nat) : Int)]) e nx.length) nx.length (nx.length + 1)) x = insF (nx.length + 1) nx.length (insF nx.length e (Sp.fn nx)) x := by
  have hl : (nx ++ [(nx.length : Int), ((nx.length + 1 : Nat) : Int)]).length = nx.length + 2 := by simp
  rw [fn_lay _ _ _ _ (by rw [Sp.layIn_len, hl]; omega) (by rw [Sp.layIn_len, hl]; omega)]
  unfold insF
  by_cases h1 : x = nx.length
  · rw [if_pos h1, if_pos h1]
  · rw [if_neg h1, if_neg h1]
    by_cases h2 : x = nx.length + 1
    · rw [if_pos h2, if_pos h2, next_new he nx.length (by omega)]
      unfold fixF insF
      rw [if_neg (by omega)]
    · rw [if_neg h2, if_neg h2, next_new he x hx]
      unfold fixF insF
      rw [if_neg h2]
/-- The ones behind about the faces. -/
theorem behind_new {nx : List Int} {e : Nat} (he : e < nx.length) (hev : nx.length % 2 = 0) (x : Nat) (hx : x < nx.length + 2) :
    Sp.fn (Sp.behindL (Sp.layIn (nx ++ [(nx.length : Int), ((nx.length + 1 : Nat) : Int)]) e nx.length)) x = insF (nx.length + 1) nx.length (insF nx.length (Sp.oth e) (Sp.fn (Sp.behindL nx))) x := by
  have hoe := oth_lt he hev
  obtain ⟨o1, o2⟩ := oth_new hev
  have hox : Sp.oth x < nx.length + 2 := oth_lt hx (by omega)
  rw [fn_behind _ _ (by rw [Sp.layIn_len]; simpa using hx), next_new he _ hox]
  unfold fixF insF
  by_cases h1 : x = nx.length
  · rw [if_pos h1, h1, o1, if_pos rfl]
  · rw [if_neg h1]
    by_cases h2 : x = nx.length + 1
    · rw [if_pos h2, h2, o2, if_neg (by omega), if_neg (by omega), if_pos rfl, if_neg (by omega), if_pos rfl, fn_behind _ _ hoe, oth_oth]
    · have hxl : x < nx.length := by omega
      have hox' := oth_lt hxl hev
      rw [if_neg h2, if_neg (by omega)]
      by_cases h3 : x = Sp.oth e
      · rw [if_pos h3, if_pos (by rw [h3, oth_oth])]
      · rw [if_neg h3, if_neg (fun h => h3 (oth_ne_iff.1 h)), if_neg (by omega), if_neg (by omega), fn_behind _ _ hxl]
theorem behind_across {nx : List Int} {e g : Nat} (he : e < nx.length) (hg : g < nx.length) (hne : g ≠ e) (hev : nx.length % 2 = 0) (x : Nat) (hx : x < nx.length + 2) :
    Sp.fn (Sp.behindL (Sp.layIn (Sp.layIn (nx ++ [(nx.length : Int), ((nx.length + 1 : Nat) : Int)]) e nx.length) g (nx.length + 1))) x = swpF nx.length (nx.length + 1) (insF (nx.length + 1) (Sp.oth g) (insF nx.length (Sp.oth e) (Sp.fn (Sp.behindL nx)))) x := by
  have hoe := oth_lt he hev
  have hog := oth_lt hg hev
  have hoge : Sp.oth g ≠ Sp.oth e := fun h => hne (oth_inj h)
  obtain ⟨o1, o2⟩ := oth_new hev
  have hox : Sp.oth x < nx.length + 2 := oth_lt hx (by omega)
  rw [fn_behind _ _ (by rw [Sp.layIn_len, Sp.layIn_len]; simpa using hx), next_across he hg hne _ hox]
  unfold swpF insF
  by_cases h1 : x = nx.length
  · rw [if_pos h1, h1, o1, if_neg (by omega), if_pos rfl, if_neg hne, if_neg (by omega), if_neg (by omega), if_pos rfl, if_neg hoge, if_neg (by omega), fn_behind _ _ hog, oth_oth]
  · rw [if_neg h1]
    by_cases h2 : x = nx.length + 1
    · rw [if_pos h2, h2, o2, if_neg (by omega), if_neg (by omega), if_neg (by omega), if_pos rfl, if_neg (by omega), if_neg (by omega), if_neg (by omega), if_pos rfl, fn_behind _ _ hoe, oth_oth]
    · have hxl : x < nx.length := by omega
      have hox' := oth_lt hxl hev
      rw [if_neg h2]
      by_cases h4 : x = Sp.oth g
      · rw [if_pos h4, if_pos (by rw [h4, oth_oth])]
      · rw [if_neg h4, if_neg (fun h => h4 (oth_ne_iff.1 h)), if_neg (by omega), if_neg h2]
        by_cases h3 : x = Sp.oth e
        · rw [if_pos h3, if_pos (by rw [h3, oth_oth])]
        · rw [if_neg h3, if_neg (fun h => h3 (oth_ne_iff.1 h)), if_neg (by omega), if_neg h1, fn_behind _ _ hxl]
theorem behind_loop {nx : List Int} {e : Nat} (he : e < nx.length) (hev : nx.length % 2 = 0) (x : Nat) (hx : x < nx.length + 2) :
    Sp.fn (Sp.behindL (Sp.layIn (Sp.layIn (nx ++ [(nx.length : Int), ((nx.length + 1 : Nat) : Int)]) e nx.length) nx.length (nx.length + 1))) x = fixF (nx.length + 1) (insF nx.length (Sp.oth e) (Sp.fn (Sp.behindL nx))) x := by
  have hoe := oth_lt he hev
  obtain ⟨o1, o2⟩ := oth_new hev
  have hox : Sp.oth x < nx.length + 2 := oth_lt hx (by omega)
  rw [fn_behind _ _ (by rw [Sp.layIn_len, Sp.layIn_len]; simpa using hx), next_loop he _ hox]
  unfold fixF insF
  by_cases h1 : x = nx.length
  · rw [h1, o1, if_neg (by omega), if_pos rfl, if_neg (by omega), if_pos rfl, if_neg (by omega), if_neg (by omega), if_pos rfl, fn_behind _ _ hoe, oth_oth]
  · by_cases h2 : x = nx.length + 1
    · rw [if_pos h2, h2, o2, if_pos rfl]
    · have hxl : x < nx.length := by omega
      have hox' := oth_lt hxl hev
      rw [if_neg h2, if_neg (by omega), if_neg (by omega)]
      by_cases h3 : x = Sp.oth e
      · rw [if_pos h3, if_pos (by rw [h3, oth_oth])]
      · rw [if_neg h3, if_neg (fun h => h3 (oth_ne_iff.1 h)), if_neg (by omega), if_neg h1, fn_behind _ _ hxl]
/-- Which vertices darts lead to, in so many steps. -/
def Sp.reachN (tl : List Int) (u : Int) : Nat → Int → Prop
  | 0, v => u = v
  | n + 1, v => ∃ d, d < tl.length ∧ Sp.reachN tl u n (tl.getD d 0) ∧ tl.getD (Sp.oth d) 0 = v
def Sp.Reach (tl : List Int) (u v : Int) : Prop := ∃ n, Sp.reachN tl u n v
theorem Sp.Reach.refl {tl : List Int} (v : Int) : Sp.Reach tl v v := ⟨0, rfl⟩
theorem Sp.Reach.step {tl : List Int} {u : Int} {d : Nat} (h : Sp.Reach tl u (tl.getD d 0)) (hd : d < tl.length) : Sp.Reach tl u (tl.getD (Sp.oth d) 0) := by
  obtain ⟨n, hn⟩ := h
  exact ⟨n + 1, d, hd, hn, rfl⟩
theorem Sp.Reach.ind {tl : List Int} {u : Int} {p : Int → Prop} (h0 : p u) (h1 : ∀ d, d < tl.length → Sp.Reach tl u (tl.getD d 0) → p (tl.getD d 0) → p (tl.getD (Sp.oth d) 0)) {v : Int} (h : Sp.Reach tl u v) : p v := by
  obtain ⟨n, hn⟩ := h
  induction n generalizing v with
  | zero => exact (show u = v from hn) ▸ h0
  | succ n ih =>
    obtain ⟨d, hd, h2, h3⟩ := hn
    rw [← h3]
    exact h1 d hd ⟨n, h2⟩ (ih h2)
theorem app2_get (tl : List Int) (a b : Int) (x : Nat) (hx : x < tl.length + 2) : (tl ++ [a, b]).getD x 0 = if x < tl.length then tl.getD x 0 else if x = tl.length then a else b := by
  rw [List.getD_eq_getElem?_getD]
  by_cases h1 : x < tl.length
  · rw [if_pos h1, List.getElem?_append_left h1, ← List.getD_eq_getElem?_getD]
  · rw [if_neg h1, List.getElem?_append_right (by omega)]
    have : x = tl.length ∨ x = tl.length + 1 := by omega
    rcases this with rfl | rfl
    · simp
    · rw [if_neg (by omega), show tl.length + 1 - tl.length = 1 by omega]; rfl
theorem Sp.Reach.app {tl : List Int} (hev : tl.length % 2 = 0) (a b : Int) {u v : Int} (h : Sp.Reach tl u v) : Sp.Reach (tl ++ [a, b]) u v := by
  refine h.ind (p := fun v => Sp.Reach (tl ++ [a, b]) u v) (.refl _) (fun d hd _ ih => ?_)
  have ho := oth_lt hd hev
  have e1 : (tl ++ [a, b]).getD d 0 = tl.getD d 0 := by rw [app2_get _ _ _ _ (by omega), if_pos hd]
  have e2 : (tl ++ [a, b]).getD (Sp.oth d) 0 = tl.getD (Sp.oth d) 0 := by rw [app2_get _ _ _ _ (by omega), if_pos ho]
  rw [← e2]
  refine .step ?_ (by simp; omega)
  rw [e1]
  exact ih
/-- A plane net that has darts. -/
structure Sp.Plain (q : Sp.Net) : Prop where
  vert : Cls q.tail.length (Sp.fn q.next) (fun i => (q.tail.getD i 0).toNat) q.n.toNat
  face : ∃ lab F, Cls q.tail.length (Sp.fn (Sp.behindL q.next)) lab F ∧ q.n - ((q.tail.length / 2 : Nat) : Int) + ((F : Nat) : Int) = 2
  conn : ∀ v, 0 ≤ v → v < q.n → Sp.Reach q.tail 0 v
theorem Sp.PlaneQ.mpN {q : Sp.Net} {i : Nat} (h : Sp.PlaneQ q i) : ∀ x, x < q.tail.length → Sp.fn q.next x < q.tail.length := fun x hx => by
  have := h.pm.fnP.mp x (by rw [h.nx]; exact hx)
  rw [h.nx] at this; exact this
theorem Sp.PlaneQ.pmB {q : Sp.Net} {i : Nat} (h : Sp.PlaneQ q i) : PermF q.tail.length (Sp.fn (Sp.behindL q.next)) := by
  have := (h.pm.behind (by rw [h.nx]; exact h.ev)).fnP
  rw [Sp.behindL_len, h.nx] at this; exact this
theorem insF_mp {L u : Nat} {f : Nat → Nat} (h : ∀ i, i < L → f i < L) (hu : u < L) : ∀ i, i < L + 1 → insF L u f i < L + 1 := fun i hi => by
  unfold insF
  have := h u hu
  split
  · omega
  · split
    · omega
    · have := h i (by omega); omega
theorem fixF_mp {L : Nat} {f : Nat → Nat} (h : ∀ i, i < L → f i < L) : ∀ i, i < L + 1 → fixF L f i < L + 1 := fun i hi => by
  unfold fixF
  split
  · omega
  · have := h i (by omega); omega
theorem Sp.Plain.growN {q : Sp.Net} {i : Nat} (hq : Sp.PlaneQ q i) (h : Sp.Plain q) (e : Nat) (he : e < q.tail.length) (c d : Int) : Sp.Plain (Sp.growN q e c d) := by
  have hn0 := hq.n0
  have hL : (Sp.growN q e c d).tail.length = q.tail.length + 2 := by simp [Sp.growN]
  have hen : e < q.next.length := by rw [hq.nx]; exact he
  have hevn : q.next.length % 2 = 0 := by rw [hq.nx]; exact hq.ev
  have hoe := oth_lt he hq.ev
  have hmp1 := insF_mp hq.mpN he
  have hmpB := insF_mp hq.pmB.mp hoe
  refine ⟨?_, ?_, ?_⟩
  · rw [hL]
    have h1 := (h.vert.ins hq.mpN he).fix hmp1
    have hk : (Sp.growN q e c d).n.toNat = q.n.toNat + 1 := by show (q.n + 1).toNat = _; omega
    rw [hk]
    refine h1.congr (fixF_mp hmp1) (fun x hx => ?_) (fun x hx => ?_)
    · have := next_new hen x (by rw [hq.nx]; exact hx)
      rw [hq.nx] at this
      exact this
    · show ((q.tail ++ [q.tail.getD e 0, q.n]).getD x 0).toNat = if x = q.tail.length + 1 then q.n.toNat else if x = q.tail.length then (q.tail.getD e 0).toNat else (q.tail.getD x 0).toNat
      rw [app2_get _ _ _ _ hx]
      by_cases h2 : x < q.tail.length
      · rw [if_pos h2, if_neg (by omega), if_neg (by omega)]
      · rw [if_neg h2]
        by_cases h3 : x = q.tail.length
        · rw [if_pos h3, if_neg (by omega), if_pos h3]
        · rw [if_neg h3, if_pos (by omega)]
  · obtain ⟨lab, F, hf, he2⟩ := h.face
    refine ⟨fun x => if x = q.tail.length + 1 then (if q.tail.length = q.tail.length then lab (Sp.oth e) else lab q.tail.length) else if x = q.tail.length then lab (Sp.oth e) else lab x, F, ?_, ?_⟩
    · rw [hL]
      refine ((hf.ins hq.pmB.mp hoe).ins hmpB (u := q.tail.length) (by omega)).congr (insF_mp hmpB (by omega)) (fun x hx => ?_) (fun x hx => rfl)
      have := behind_new hen hevn x (by rw [hq.nx]; exact hx)
      rw [hq.nx] at this
      exact this
    · rw [hL]
      show q.n + 1 - (((q.tail.length + 2) / 2 : Nat) : Int) + (F : Int) = 2
      omega
  · intro v h0 h1
    have h1' : v < q.n + 1 := h1
    show Sp.Reach (q.tail ++ [q.tail.getD e 0, q.n]) 0 v
    rcases Int.lt_or_le v q.n with h2 | h2
    · exact (h.conn v h0 h2).app hq.ev _ _
    · have hv : v = q.n := by omega
      have o := oth_new hq.ev
      have e1 : (q.tail ++ [q.tail.getD e 0, q.n]).getD (Sp.oth q.tail.length) 0 = v := by rw [o.1, app2_get _ _ _ _ (by omega), if_neg (by omega), if_neg (by omega), hv]
      rw [← e1]
      refine .step ?_ (by simp)
      rw [app2_get _ _ _ _ (by omega), if_neg (by omega), if_pos rfl]
      have htb := hq.tb _ (Sp.getD_mem he)
      exact (h.conn _ htb.1 htb.2).app hq.ev _ _
theorem Sp.Plain.growF {q : Sp.Net} {i : Nat} (hq : Sp.PlaneQ q i) (h : Sp.Plain q) (e g : Nat) (he : e < q.tail.length) (hg : g < q.tail.length) (c d : Int)
    (hs : (Sp.faces2 q).1.getD (q.next.getD g 0).toNat 0 = (Sp.faces2 q).1.getD (q.next.getD e 0).toNat 0) : Sp.Plain (Sp.growF q e g c d) := by
  have hL : (Sp.growF q e g c d).tail.length = q.tail.length + 2 := by simp [Sp.growF]
  have hen : e < q.next.length := by rw [hq.nx]; exact he
  have hgn : g < q.next.length := by rw [hq.nx]; exact hg
  have hevn : q.next.length % 2 = 0 := by rw [hq.nx]; exact hq.ev
  have hoe := oth_lt he hq.ev
  have hog := oth_lt hg hq.ev
  have hmp1 := insF_mp hq.mpN he
  have hmpB := insF_mp hq.pmB.mp hoe
  have hlab : ∀ x, x < q.tail.length + 2 → ((Sp.growF q e g c d).tail.getD x 0).toNat = if x = q.tail.length + 1 then (q.tail.getD g 0).toNat else if x = q.tail.length then (q.tail.getD e 0).toNat else (q.tail.getD x 0).toNat := fun x hx => by
    show ((q.tail ++ [q.tail.getD e 0, q.tail.getD g 0]).getD x 0).toNat = _
    rw [app2_get _ _ _ _ hx]
    by_cases h2 : x < q.tail.length
    · rw [if_pos h2, if_neg (by omega), if_neg (by omega)]
    · rw [if_neg h2]
      by_cases h3 : x = q.tail.length
      · rw [if_pos h3, if_neg (by omega), if_pos h3]
      · rw [if_neg h3, if_pos (by omega)]
  have hconn : ∀ v, 0 ≤ v → v < q.n → Sp.Reach (Sp.growF q e g c d).tail 0 v := fun v h0 h1 => (h.conn v h0 h1).app hq.ev _ _
  obtain ⟨lab, F, hf, he2⟩ := h.face
  by_cases hge : g = e
  · have hnx : (Sp.growF q e g c d).next = Sp.layIn (Sp.layIn (q.next ++ [(q.next.length : Int), ((q.next.length + 1 : Nat) : Int)]) e q.next.length) q.next.length (q.next.length + 1) := by
      unfold Sp.growF
      rw [hq.nx]
      show Sp.layIn _ (if g = e then _ else g) _ = _
      rw [if_pos hge]
    refine ⟨?_, ⟨fun x => if x = q.tail.length + 1 then F else if x = q.tail.length then lab (Sp.oth e) else lab x, F + 1, ?_, ?_⟩, hconn⟩
    · rw [hL, hnx]
      refine ((h.vert.ins hq.mpN he).ins hmp1 (u := q.tail.length) (by omega)).congr (insF_mp hmp1 (by omega)) (fun x hx => ?_) (fun x hx => ?_)
      · have := next_loop hen x (by rw [hq.nx]; exact hx)
        rw [hq.nx] at this ⊢
        exact this
      · show ((Sp.growF q e g c d).tail.getD x 0).toNat = if x = q.tail.length + 1 then (if q.tail.length = q.tail.length then (q.tail.getD e 0).toNat else (q.tail.getD q.tail.length 0).toNat) else if x = q.tail.length then (q.tail.getD e 0).toNat else (q.tail.getD x 0).toNat
        rw [hlab x hx, if_pos (rfl : q.tail.length = q.tail.length), hge]
    · rw [hL, hnx]
      refine ((hf.ins hq.pmB.mp hoe).fix hmpB).congr (fixF_mp hmpB) (fun x hx => ?_) (fun x hx => rfl)
      have := behind_loop hen hevn x (by rw [hq.nx]; exact hx)
      rw [hq.nx] at this ⊢
      exact this
    · rw [hL]
      show q.n - (((q.tail.length + 2) / 2 : Nat) : Int) + ((F + 1 : Nat) : Int) = 2
      omega
  · have hnx : (Sp.growF q e g c d).next = Sp.layIn (Sp.layIn (q.next ++ [(q.next.length : Int), ((q.next.length + 1 : Nat) : Int)]) e q.next.length) g (q.next.length + 1) := by
      unfold Sp.growF
      rw [hq.nx]
      show Sp.layIn _ (if g = e then _ else g) _ = _
      rw [if_neg hge]
    -- both darts leave the same face
    have hsame : lab (Sp.oth e) = lab (Sp.oth g) := by
      have hc := (Sp.faces2_st hq.pm hq.nx hq.ev).cls
      rw [Sp.behindL_len, hq.nx] at hc
      have fe : Sp.fn (Sp.behindL q.next) (Sp.oth e) = (q.next.getD e 0).toNat := by rw [fn_behind _ _ (by rw [hq.nx]; exact hoe), oth_oth]; rfl
      have fg : Sp.fn (Sp.behindL q.next) (Sp.oth g) = (q.next.getD g 0).toNat := by rw [fn_behind _ _ (by rw [hq.nx]; exact hog), oth_oth]; rfl
      have a1 := hq.pmB.mp _ hoe
      have a2 := hq.pmB.mp _ hog
      have ho := hc.sep _ _ a1 a2 (by rw [fe, fg, hs])
      have := hf.orb hq.pmB.mp a1 ho
      rw [hf.inv _ hoe, hf.inv _ hog] at this
      exact this
    have hc2 := (hf.ins hq.pmB.mp hoe).ins hmpB (u := Sp.oth g) (by omega)
    have hp2 := insF_perm (insF_perm hq.pmB hoe) (u := Sp.oth g) (by omega)
    have horb := hc2.sep q.tail.length (q.tail.length + 1) (by omega) (by omega) (by
      show (if q.tail.length = q.tail.length + 1 then _ else if q.tail.length = q.tail.length then lab (Sp.oth e) else _) = if q.tail.length + 1 = q.tail.length + 1 then (if Sp.oth g = q.tail.length then lab (Sp.oth e) else lab (Sp.oth g)) else _
      rw [if_neg (by omega), if_pos rfl, if_pos rfl, if_neg (by omega), hsame])
    obtain ⟨lab3, hc3⟩ := hc2.split hp2 (by omega) (by omega) (by omega) horb
    refine ⟨?_, ⟨lab3, F + 1, ?_, ?_⟩, hconn⟩
    · rw [hL, hnx]
      refine ((h.vert.ins hq.mpN he).ins hmp1 (u := g) (by omega)).congr (insF_mp hmp1 (by omega)) (fun x hx => ?_) (fun x hx => ?_)
      · have := next_across hen hgn hge x (by rw [hq.nx]; exact hx)
        rw [hq.nx] at this ⊢
        exact this
      · show ((Sp.growF q e g c d).tail.getD x 0).toNat = if x = q.tail.length + 1 then (if g = q.tail.length then (q.tail.getD e 0).toNat else (q.tail.getD g 0).toNat) else if x = q.tail.length then (q.tail.getD e 0).toNat else (q.tail.getD x 0).toNat
        rw [hlab x hx, if_neg (show ¬ g = q.tail.length by omega)]
    · rw [hL, hnx]
      refine hc3.congr (swpF_perm hp2 (by omega) (by omega)).mp (fun x hx => ?_) (fun x hx => rfl)
      have := behind_across hen hgn hge hevn x (by rw [hq.nx]; exact hx)
      rw [hq.nx] at this ⊢
      exact this
    · rw [hL]
      show q.n - (((q.tail.length + 2) / 2 : Nat) : Int) + ((F + 1 : Nat) : Int) = 2
      omega
end Go.Proofs.Ytnkkgeammohemab


/- The law RotOnes, walked. -/
namespace Go.Proofs.Ytnkkgeammohemab
open Go Go.RowKit

/-- A net that lies in a block of its own: what stays so in every world behind. -/
theorem boxed {w0 w3 : World} {q : Sp.Net} {tv nv cv : Value} (hb0 : Below w0.heap.size w0 w3) (h : NetI w3 (.agg #[.int .i64 q.n, tv, nv, cv]) q tv nv cv) (W : World) (hW : W = w3.alloc (.cells #[.int .i64 q.n, tv, nv, cv] 25)) :
    (∀ w', Below (w3.heap.size + 1) W w' → (w'.cell? ⟨w3.heap.size, 0, none⟩ = some (.int .i64 q.n) ∧ w'.cell? ⟨w3.heap.size, 1, none⟩ = some tv ∧ w'.cell? ⟨w3.heap.size, 2, none⟩ = some nv ∧ w'.cell? ⟨w3.heap.size, 3, none⟩ = some cv) ∧ NetI w' (.agg #[.int .i64 q.n, tv, nv, cv]) q tv nv cv ∧ Below w0.heap.size w0 w' ∧ w3.heap.size + 1 ≤ w'.heap.size ∧ Below w3.heap.size w3 w') ∧ W.heap.size = w3.heap.size + 1 ∧ ∀ w2 w5, Below (w3.heap.size + 1) W w2 → Below w2.heap.size w2 w5 → Below (w3.heap.size + 1) W w5 := by
  subst hW
  have hs : (w3.alloc (.cells #[.int .i64 q.n, tv, nv, cv] 25)).heap.size = w3.heap.size + 1 := by simp
  refine ⟨fun w' hb => ?_, hs, fun w2 w5 h2 h5 => h2.trans (h5.mono (by have := h2.size; omega))⟩
  obtain ⟨k0, k1, k2, k3, k4⟩ := box_new w3 q.n tv nv cv w' hb
  have hb3 : Below w3.heap.size w3 w' := ((Below.refl _ w3).alloc (Nat.le_refl _) _).trans (hb.mono (by omega))
  exact ⟨⟨k0, k1, k2, k3⟩, ⟨rfl, h.tail.below hb3, h.next.below hb3, h.cap.below hb3⟩, hb0.trans (hb3.mono hb0.size), k4, hb3⟩
theorem Sp.PlaneQ.walk {q : Sp.Net} {i : Nat} (h : Sp.PlaneQ q i) (hi : i ≤ 50) : Sp.walkB q = true := by
  have h1 := h.le
  have h2 := h.n1
  have h3 := h.n0
  exact walkB_of ⟨by omega, by omega, by omega, h.ev, h.nx, h.cp, fun x hx => h.pm.bd x hx, h.tb⟩
/-- How many labels were met among the first i. -/
structure TopAt (l : List Int) (i top : Nat) : Prop where
  lt : ∀ j, j < i → l.getD j 0 < (top : Int)
  on : ∀ c : Nat, c < top → ∃ j, j < i ∧ l.getD j 0 = (c : Int)
theorem TopAt.le {l : List Int} {i top : Nat} (h : TopAt l i top) (hr : Sp.RG l) (hi : i < l.length) : 0 ≤ l.getD i 0 ∧ l.getD i 0 ≤ (top : Int) := by
  refine ⟨hr.nn i hi, ?_⟩
  rcases Int.lt_or_le (top : Int) (l.getD i 0) with h1 | h1
  · obtain ⟨j, hj, e⟩ := hr.sm i hi top (by omega) h1
    have := h.lt j hj
    omega
  · exact h1
theorem TopAt.same {l : List Int} {i top : Nat} (h : TopAt l i top) (h1 : l.getD i 0 < (top : Int)) : TopAt l (i + 1) top := by
  refine ⟨fun j hj => ?_, fun c hc => ?_⟩
  · rcases Nat.lt_or_ge j i with h2 | h2
    · exact h.lt j h2
    · rw [show j = i by omega]; exact h1
  · obtain ⟨j, h2, h3⟩ := h.on c hc
    exact ⟨j, by omega, h3⟩
theorem TopAt.more {l : List Int} {i top : Nat} (h : TopAt l i top) (h1 : l.getD i 0 = (top : Int)) : TopAt l (i + 1) (top + 1) := by
  refine ⟨fun j hj => ?_, fun c hc => ?_⟩
  · rcases Nat.lt_or_ge j i with h2 | h2
    · have := h.lt j h2; omega
    · rw [show j = i by omega]; omega
  · by_cases hk : c = top
    · exact ⟨i, by omega, by rw [h1, hk]⟩
    · obtain ⟨j, h2, h3⟩ := h.on c (by omega)
      exact ⟨j, by omega, h3⟩
theorem TopAt.last {l : List Int} {n top k : Nat} (h : TopAt l n top) (hn : l.length = n) (hk : Sp.Num l k) : top = k := by
  rcases Nat.lt_trichotomy top k with h1 | h1 | h1
  · obtain ⟨i, a, b⟩ := hk.on top h1
    have := h.lt i (by omega)
    omega
  · exact h1
  · obtain ⟨j, a, b⟩ := h.on k h1
    have := hk.lt j (by omega)
    omega
end Go.Proofs.Ytnkkgeammohemab


/- How many places a round has; the rounds the other way about. -/
namespace Go.Proofs.Ytnkkgeammohemab
open Go Go.RowKit

theorem nodup_sub : ∀ (l1 l2 : List Int), l1.Nodup → (∀ x ∈ l1, x ∈ l2) → l1.length ≤ l2.length
  | [], _, _, _ => Nat.zero_le _
  | a :: t, l2, hd, hs => by
    rw [List.nodup_cons] at hd
    have ha := hs a (by simp)
    have h1 := nodup_sub t (l2.erase a) hd.2 (fun x hx => by
      have hne : x ≠ a := fun e => hd.1 (by rw [← e]; exact hx)
      exact (List.mem_erase_of_ne hne).2 (hs x (by simp [hx])))
    rw [List.length_erase_of_mem ha] at h1
    have := List.length_pos_of_mem ha
    rw [List.length_cons]
    omega
/-- How many places below n are so. -/
def Sp.cnt (p : Nat → Bool) (n : Nat) : Nat := ((List.range n).filter p).length
theorem Sp.cnt_succ (p : Nat → Bool) (n : Nat) : Sp.cnt p (n + 1) = Sp.cnt p n + if p n then 1 else 0 := by
  unfold Sp.cnt
  rw [List.range_succ, List.filter_append, List.length_append]
  by_cases h : p n = true
  · rw [if_pos h]; simp [h]
  · rw [if_neg h]; simp [h]
theorem Sp.cnt_le (p : Nat → Bool) (n : Nat) : Sp.cnt p n ≤ n := by
  have := List.length_filter_le p (List.range n)
  rw [List.length_range] at this
  exact this
theorem Sp.rounds_nodup {st : List Int} (hp : Sp.Perm st) {x : Nat} (hx : x < st.length) : (Sp.rounds st x (Sp.per st x)).Nodup := by
  obtain ⟨p1, p2, p3, p4⟩ := hp.per hx
  unfold List.Nodup
  rw [List.pairwise_iff_getElem]
  intro i j hi hj hij e
  rw [Sp.rounds_len] at hi hj
  simp only [Sp.rounds, List.getElem_map, List.getElem_range] at e
  have e2 : Sp.nth st x (i + (j - i)) = Sp.nth st x i := by rw [show i + (j - i) = j by omega]; exact e.symm
  exact p4 (j - i) (by omega) (by omega) (hp.back hx i (j - i) e2)
/-- A round has as many places as bear its label. -/
theorem Sp.Perm.count {st : List Int} (hp : Sp.Perm st) {lab : Nat → Nat} {k : Nat} (hc : Cls st.length (Sp.fn st) lab k) {x : Nat} (hx : x < st.length) : Sp.per st x = Sp.cnt (fun i => decide (lab i = lab x)) st.length := by
  have hmem : ∀ i : Nat, (i : Int) ∈ Sp.rounds st x (Sp.per st x) ↔ i < st.length ∧ lab i = lab x := fun i => by
    constructor
    · intro h
      obtain ⟨j, e, o⟩ := (hp.mem_rounds hx _).1 h
      have : i = j := by omega
      subst this
      refine ⟨?_, (hc.orb hp.fnP.mp hx o).symm⟩
      obtain ⟨m, rfl⟩ := o
      exact hp.fnP.it hx m
    · intro ⟨h1, h2⟩
      exact (hp.mem_rounds hx _).2 ⟨i, rfl, hc.sep x i hx h1 h2.symm⟩
  have hnd : (((List.range st.length).filter fun i => decide (lab i = lab x)).map fun i : Nat => (i : Int)).Nodup := by
    unfold List.Nodup
    rw [List.pairwise_map]
    refine List.Pairwise.imp (R := fun a b : Nat => a ≠ b) (fun {a b} (h : a ≠ b) (e : (a : Int) = (b : Int)) => h (by omega)) ?_
    exact List.Pairwise.filter _ List.nodup_range
  have hlen : (((List.range st.length).filter fun i => decide (lab i = lab x)).map fun i : Nat => (i : Int)).length = Sp.cnt (fun i => decide (lab i = lab x)) st.length := by
    rw [List.length_map]; rfl
  have h1 := nodup_sub _ _ (Sp.rounds_nodup hp hx) (fun y hy => by
    obtain ⟨j, rfl, o⟩ := (hp.mem_rounds hx y).1 hy
    have := (hmem j).1 hy
    exact List.mem_map.2 ⟨j, List.mem_filter.2 ⟨List.mem_range.2 this.1, decide_eq_true this.2⟩, rfl⟩)
  have h2 := nodup_sub _ _ hnd (fun y hy => by
    obtain ⟨j, hj, rfl⟩ := List.mem_map.1 hy
    obtain ⟨a, b⟩ := List.mem_filter.1 hj
    exact (hmem j).2 ⟨List.mem_range.1 a, of_decide_eq_true b⟩)
  rw [hlen, Sp.rounds_len] at h1 h2
  omega
theorem Sp.invGo_len (nx : List Int) : ∀ f d acc, (Sp.invGo nx f d acc).length = acc.length
  | 0, _, _ => rfl
  | f + 1, d, acc => by
    rw [Sp.invGo, Sp.invGo_len nx f, List.length_set]
theorem Sp.invGo_get {nx : List Int} (hp : Sp.Perm nx) : ∀ f d acc, d + f = nx.length → acc.length = nx.length → ∀ i, i < nx.length → (Sp.invGo nx f d acc).getD (Sp.fn nx i) 0 = if d ≤ i then (i : Int) else acc.getD (Sp.fn nx i) 0
  | 0, d, acc, hd, hl, i, hi => by rw [if_neg (by omega)]; rfl
  | f + 1, d, acc, hd, hl, i, hi => by
    rw [Sp.invGo, Sp.invGo_get hp f (d + 1) _ (by omega) (by rw [List.length_set]; exact hl) i hi]
    by_cases h1 : d + 1 ≤ i
    · rw [if_pos h1, if_pos (by omega)]
    · rw [if_neg h1]
      have hfd : (nx.getD d 0).toNat < acc.length := by rw [hl]; exact hp.fnP.mp d (by omega)
      rw [getD_set_eq acc _ _ _ hfd]
      by_cases h2 : i = d
      · rw [if_pos (by rw [h2]; rfl), if_pos (by omega), h2]
      · have hne : ¬ Sp.fn nx i = (nx.getD d 0).toNat := fun e => h2 (hp.fnP.inj i d hi (by omega) e)
        rw [if_neg hne, if_neg (by omega)]
theorem Sp.turnL_len (nx : List Int) : (Sp.turnL nx).length = nx.length := by
  unfold Sp.turnL
  rw [Sp.invGo_len, List.length_replicate]
theorem Sp.turnL_back {nx : List Int} (hp : Sp.Perm nx) {i : Nat} (hi : i < nx.length) : (Sp.turnL nx).getD (Sp.fn nx i) 0 = (i : Int) := by
  unfold Sp.turnL
  rw [Sp.invGo_get hp nx.length 0 _ (by omega) (by simp) i hi, if_pos (Nat.zero_le _)]
theorem Sp.Perm.onto {st : List Int} (hp : Sp.Perm st) {j : Nat} (hj : j < st.length) : ∃ i, i < st.length ∧ Sp.fn st i = j := by
  obtain ⟨p1, p2, p3, p4⟩ := hp.per hj
  refine ⟨itf (Sp.fn st) j (Sp.per st j - 1), hp.fnP.it hj _, ?_⟩
  have e := hp.nth_it hj (Sp.per st j)
  rw [p3] at e
  have e2 : itf (Sp.fn st) j (Sp.per st j - 1 + 1) = j := by rw [show Sp.per st j - 1 + 1 = Sp.per st j by omega]; omega
  exact e2
theorem Sp.Perm.turn {nx : List Int} (hp : Sp.Perm nx) : Sp.Perm (Sp.turnL nx) := by
  refine ⟨fun x hx => ?_, fun i j hi hj e => ?_⟩
  · rw [Sp.turnL_len]
    obtain ⟨k, hk, rfl⟩ := List.mem_iff_getElem.1 hx
    rw [Sp.turnL_len] at hk
    rw [← Sp.getD_eq]
    obtain ⟨i, hi, rfl⟩ := hp.onto hk
    rw [Sp.turnL_back hp hi]
    omega
  · rw [Sp.turnL_len] at hi hj
    obtain ⟨a, ha, rfl⟩ := hp.onto hi
    obtain ⟨b, hb, rfl⟩ := hp.onto hj
    rw [Sp.turnL_back hp ha, Sp.turnL_back hp hb] at e
    rw [show a = b by omega]
theorem Sp.fn_turn {nx : List Int} (hp : Sp.Perm nx) {i : Nat} (hi : i < nx.length) : Sp.fn (Sp.turnL nx) (Sp.fn nx i) = i := by
  show ((Sp.turnL nx).getD (Sp.fn nx i) 0).toNat = i
  rw [Sp.turnL_back hp hi, Int.toNat_natCast]
theorem Sp.fn_turn' {nx : List Int} (hp : Sp.Perm nx) {i : Nat} (hi : i < nx.length) : Sp.fn nx (Sp.fn (Sp.turnL nx) i) = i := by
  obtain ⟨a, ha, rfl⟩ := hp.onto hi
  rw [Sp.fn_turn hp ha]
end Go.Proofs.Ytnkkgeammohemab


/- Each net that Plane makes is plane. -/
namespace Go.Proofs.Ytnkkgeammohemab
open Go Go.RowKit

theorem cls_const (f : Nat → Nat) (h : f 0 = 1 ∧ f 1 = 0) (lab : Nat → Nat) (l0 : lab 0 = 0) (l1 : lab 1 = 0) : Cls 2 f lab 1 := by
  have hc : ∀ i, i < 2 → i = 0 ∨ i = 1 := fun i hi => by omega
  refine ⟨fun i hi => ?_, fun c hc' => ⟨0, by omega, by omega⟩, fun i hi => ?_, fun i j hi hj _ => ?_⟩
  · rcases hc i hi with rfl | rfl <;> omega
  · rcases hc i hi with rfl | rfl
    · rw [h.1, l0, l1]
    · rw [h.2, l0, l1]
  · rcases hc i hi with rfl | rfl <;> rcases hc j hj with rfl | rfl
    · exact OrbF.refl _ _
    · exact ⟨1, h.1⟩
    · exact ⟨1, h.2⟩
    · exact OrbF.refl _ _
theorem cls_each (f : Nat → Nat) (h : f 0 = 0 ∧ f 1 = 1) (lab : Nat → Nat) (l0 : lab 0 = 0) (l1 : lab 1 = 1) : Cls 2 f lab 2 := by
  have hc : ∀ i, i < 2 → i = 0 ∨ i = 1 := fun i hi => by omega
  refine ⟨fun i hi => ?_, fun c hc' => ?_, fun i hi => ?_, fun i j hi hj e => ?_⟩
  · rcases hc i hi with rfl | rfl <;> omega
  · rcases hc c hc' with rfl | rfl
    · exact ⟨0, by omega, l0⟩
    · exact ⟨1, by omega, l1⟩
  · rcases hc i hi with rfl | rfl
    · rw [h.1]
    · rw [h.2]
  · rcases hc i hi with rfl | rfl <;> rcases hc j hj with rfl | rfl
    · exact OrbF.refl _ _
    · omega
    · omega
    · exact OrbF.refl _ _
theorem Sp.Plain.loop (c d : Int) : Sp.Plain ⟨1, [0, 0], [1, 0], [c, d]⟩ := by
  refine ⟨cls_const _ ⟨rfl, rfl⟩ _ rfl rfl, ⟨fun i => i, 2, cls_each _ ⟨rfl, rfl⟩ _ rfl rfl, by show (1 : Int) - ((2 / 2 : Nat) : Int) + ((2 : Nat) : Int) = 2; decide⟩, fun v h0 h1 => ?_⟩
  have h1' : v < 1 := h1
  obtain rfl : v = 0 := by omega
  exact .refl _
theorem Sp.Plain.edge (c d : Int) : Sp.Plain ⟨2, [0, 1], [0, 1], [c, d]⟩ := by
  refine ⟨cls_each _ ⟨rfl, rfl⟩ _ rfl rfl, ⟨fun _ => 0, 1, cls_const _ ⟨rfl, rfl⟩ _ rfl rfl, by show (2 : Int) - ((2 / 2 : Nat) : Int) + ((1 : Nat) : Int) = 2; decide⟩, fun v h0 h1 => ?_⟩
  have h1' : v < 2 := h1
  rcases (show v = 0 ∨ v = 1 by omega) with rfl | rfl
  · exact .refl _
  · exact Sp.Reach.step (tl := [0, 1]) (d := 0) (.refl _) (by decide)
theorem Sp.planeG_same (q : Sp.Net) (k : Int) (h : 0 < q.tail.length) : (Sp.faces2 q).1.getD (q.next.getD (Sp.planeG q k) 0).toNat 0 = (Sp.faces2 q).1.getD (q.next.getD (Sp.planeE q k) 0).toNat 0 := by
  have hp := Sp.planeS_pos q k h
  have hm : Sp.planeG q k ∈ Sp.planeS q k := by
    unfold Sp.planeG
    have h1 : 0 ≤ k / 1200 % ((Sp.planeS q k).length : Int) := Int.emod_nonneg _ (by omega)
    have h2 : k / 1200 % ((Sp.planeS q k).length : Int) < (Sp.planeS q k).length := Int.emod_lt_of_pos _ (by omega)
    rw [List.getD_eq_getElem?_getD, List.getElem?_eq_getElem (by omega)]
    exact List.getElem_mem _
  unfold Sp.planeS Sp.sameL at hm
  have := (List.mem_filter.1 hm).2
  exact eq_of_beq this
theorem Sp.planeN_plain (ns : List Int) : ∀ i, Sp.planeN ns i = ⟨1, [], [], []⟩ ∨ (0 < (Sp.planeN ns i).tail.length ∧ Sp.Plain (Sp.planeN ns i))
  | 0 => .inl rfl
  | i + 1 => by
    right
    have hq := Sp.planeN_ok ns i
    have ih := Sp.planeN_plain ns i
    show 0 < (Sp.planeK (Sp.planeN ns i) (ns.getD i 0 % 1125899906842624)).tail.length ∧ Sp.Plain (Sp.planeK (Sp.planeN ns i) (ns.getD i 0 % 1125899906842624))
    generalize Sp.planeN ns i = q at *
    generalize ns.getD i 0 % 1125899906842624 = k
    unfold Sp.planeK
    by_cases h0 : q.tail.length = 0
    · rw [if_pos h0]
      split
      · exact ⟨by simp, Sp.Plain.loop _ _⟩
      · exact ⟨by simp, Sp.Plain.edge _ _⟩
    · rw [if_neg h0]
      have hl : 0 < q.tail.length := by omega
      have hp : Sp.Plain q := by
        rcases ih with e | e
        · rw [e] at h0; exact absurd rfl h0
        · exact e.2
      split
      · exact ⟨by simp [Sp.growN], hp.growN hq _ (Sp.planeE_lt q k hl) _ _⟩
      · exact ⟨by simp [Sp.growF], hp.growF hq _ _ (Sp.planeE_lt q k hl) (Sp.planeG_lt q k hl) _ _ (Sp.planeG_same q k hl)⟩
theorem Sp.plane_plain (ns : List Int) : Sp.plane ns = ⟨1, [], [], []⟩ ∨ (0 < (Sp.plane ns).tail.length ∧ Sp.Plain (Sp.plane ns)) := Sp.planeN_plain ns _
end Go.Proofs.Ytnkkgeammohemab


/- The law RotAbouts, walked. -/
namespace Go.Proofs.Ytnkkgeammohemab
open Go Go.RowKit

theorem Ints.cellD {w : World} {b o n c : Nat} {l : List Int} (h : Ints w (.slice (some ⟨b, o, none⟩) n c) l) (k : Nat) (hk : k < l.length) : w.cell? ⟨b, o + k, none⟩ = some (.int .i64 (l.getD k 0)) := by
  obtain ⟨a, c', e, -, -, h3⟩ := h.allD
  injection e with e1 e2 e3
  obtain ⟨b', o', e4, -, h5⟩ := unhide h3 k hk
  rw [← e1] at e4
  injection e4 with e4
  injection e4 with e5 e6
  subst e5 e6
  exact h5 w (Below.refl _ _)
theorem Ints.openP {w : World} {v : Value} {l : List Int} (h : Ints w v l) (hl : 0 < l.length) : ∃ b o c, v = .slice (some ⟨b, o, none⟩) l.length c ∧ l.length ≤ c ∧ c ≤ maxLen := by
  obtain ⟨a, c, e, h1, h2, h3⟩ := h.allD
  obtain ⟨b, o, e4, -, -⟩ := unhide h3 0 hl
  exact ⟨b, o, c, by rw [e, e4], h1, h2⟩
theorem rounds_getD {nx : List Int} (hp : Sp.Perm nx) {x : Nat} (hx : x < nx.length) {i p : Nat} (hi : i < p) : (Sp.rounds nx x p).getD i 0 = ((itf (Sp.fn nx) x i : Nat) : Int) := by
  rw [Sp.getD_eq _ _ (by rw [Sp.rounds_len]; exact hi)]
  simp only [Sp.rounds, List.getElem_map, List.getElem_range]
  exact hp.nth_it hx i
theorem itf_apart {nx : List Int} (hp : Sp.Perm nx) {x : Nat} (hx : x < nx.length) {i k : Nat} (hk : k < i) (hi : i < Sp.per nx x) : itf (Sp.fn nx) x k ≠ itf (Sp.fn nx) x i := by
  intro e
  obtain ⟨p1, p2, p3, p4⟩ := hp.per hx
  have e2 : Sp.nth nx x (k + (i - k)) = Sp.nth nx x k := by rw [show k + (i - k) = i by omega, hp.nth_it hx, hp.nth_it hx, e]
  exact p4 (i - k) (by omega) (by omega) (hp.back hx k (i - k) e2)
end Go.Proofs.Ytnkkgeammohemab


