/- What the proof needs, part 18. -/
import Derived.WalkMore
import Derived.Test.YtoegjnolccabjaaL17
/- Package rim: the chapter's example and an edge, as the law has them. -/
namespace Go.Proofs.Ytoegjnolccabjaa
open Go Go.RowKit

theorem q1_rim : Sp.RimQ Sp.q1 := ⟨q1_link, by decide, by decide, by decide, fun x hx => (by cases hx), fun i hi => absurd hi (Nat.not_lt_zero _), by decide, by decide +kernel⟩
theorem q0_rim : Sp.RimQ Sp.q0 := ⟨q0_link, by decide, by decide, by decide, fun x hx => by
  have h : x ∈ [(5 : Int), 3] := hx
  simp only [List.mem_cons, List.not_mem_nil, or_false] at h
  rcases h with rfl | rfl <;> decide, fun i hi => by
  have hi' : i < 2 := hi
  rw [q0_faces2]
  rcases (show i = 0 ∨ i = 1 by omega) with rfl | rfl <;> decide, q0_walk, q0_check⟩
theorem q1_rimE : Sp.rimE Sp.q1 0 0 = 9 := by unfold Sp.rimE; rw [if_neg (by decide), if_pos rfl]
theorem q0_short : Sp.Short 1152921504606846976 [⟨0, 1, 5⟩, ⟨1, 0, 3⟩] 0 2 (fun v => if v = 0 then 0 else 5) where
  src := rfl
  arc := fun a ha _ => by
    simp only [List.mem_cons, List.not_mem_nil, or_false] at ha
    rcases ha with rfl | rfl <;> decide
  att := fun v hv _ => by
    rcases (show v = 0 ∨ v = 1 by omega) with rfl | rfl
    · exact ⟨0, rfl, rfl⟩
    · exact ⟨1, ⟨0, 1, 5⟩, List.mem_cons_self .., rfl, rfl, rfl⟩
theorem q0_D {D : Nat → Int} (h : Sp.Short 1152921504606846976 (Sp.rimR (Sp.splitL Sp.q0 0 0 0 1) Sp.q0.cap Sp.q0.tail.length) 0 (Sp.landK Sp.q0 + 1) D) : D 0 = 0 ∧ D 1 = 5 := by
  have hk : Sp.landK Sp.q0 + 1 = 2 := by unfold Sp.landK; rw [q0_faces2]; rfl
  rw [q0_splitL, hk] at h
  have h2 : Sp.Short 1152921504606846976 [⟨0, 1, 5⟩, ⟨1, 0, 3⟩] 0 2 D := h
  exact ⟨h2.uniq q0_short (by decide) (by decide), h2.uniq q0_short (by decide) (by decide)⟩
theorem q0_row {D : Nat → Int} (h0 : D 0 = 0) (h1 : D 1 = 5) : (List.range Sp.q0.tail.length).map (Sp.rise (Sp.splitL Sp.q0 0 0 0 1) ((List.range (Sp.landK Sp.q0 + 1)).map D)) = [5, -5] := by
  have hk : Sp.landK Sp.q0 + 1 = 2 := by unfold Sp.landK; rw [q0_faces2]; rfl
  rw [q0_splitL, hk]
  show [D 1 - D 0, D 0 - D 1] = [5, -5]
  rw [h0, h1]
  rfl
set_option maxRecDepth 100000 in
set_option maxHeartbeats 2000000 in
theorem known8_any (w : World) :
    Calls Try.prog 9 #[] w fun e w' => e = .returned (.bool true) ∧ Below w.heap.size w w' := by
  have HL := hide (lit_net w 2 [0, 1] [0, 1] [5, 3] 2 2 2 rfl rfl rfl (by simp))
  obtain ⟨P, hP⟩ : ∃ P : Ending → World → Prop, P = fun e w' => e = .returned (.bool true) ∧ Below w.heap.size w w' := ⟨_, rfl⟩
  rw [← hP]
  have HP := hide hP
  clear hP
  go_enter Try.func9, Try.ntmps9
  go_wp2_with fail
  have hWW : ((((w.alloc (.cells #[.int .i64 0, .int .i64 1] 3)).alloc (.cells #[.int .i64 0, .int .i64 1] 3)).alloc (.cells #[.int .i64 5, .int .i64 3] 3)).alloc (.cells #[.int .i64 2, .slice (some ⟨w.heap.size, 0, none⟩) 2 2, .slice (some ⟨w.heap.size + 1, 0, none⟩) 2 2, .slice (some ⟨w.heap.size + 1 + 1, 0, none⟩) 2 2] 25)) = ((((w.alloc (.cells (([0, 1] : List Int).map (Value.int .i64)).toArray 3)).alloc (.cells (([0, 1] : List Int).map (Value.int .i64)).toArray 3)).alloc (.cells (([5, 3] : List Int).map (Value.int .i64)).toArray 3)).alloc (.cells #[.int .i64 2, .slice (some ⟨w.heap.size, 0, none⟩) 2 2, .slice (some ⟨w.heap.size + 1, 0, none⟩) 2 2, .slice (some ⟨w.heap.size + 1 + 1, 0, none⟩) 2 2] 25)) := rfl
  rw [← hWW] at HL
  clear hWW
  have hs4 : ((((w.alloc (.cells #[.int .i64 0, .int .i64 1] 3)).alloc (.cells #[.int .i64 0, .int .i64 1] 3)).alloc (.cells #[.int .i64 5, .int .i64 3] 3)).alloc (.cells #[.int .i64 2, .slice (some ⟨w.heap.size, 0, none⟩) 2 2, .slice (some ⟨w.heap.size + 1, 0, none⟩) 2 2, .slice (some ⟨w.heap.size + 1 + 1, 0, none⟩) 2 2] 25)).heap.size = w.heap.size + 4 := by simp
  generalize ((((w.alloc (.cells #[.int .i64 0, .int .i64 1] 3)).alloc (.cells #[.int .i64 0, .int .i64 1] 3)).alloc (.cells #[.int .i64 5, .int .i64 3] 3)).alloc (.cells #[.int .i64 2, .slice (some ⟨w.heap.size, 0, none⟩) 2 2, .slice (some ⟨w.heap.size + 1, 0, none⟩) 2 2, .slice (some ⟨w.heap.size + 1 + 1, 0, none⟩) 2 2] 25)) = W4 at *
  have HT : Hid (∀ w2 w3, Below (w.heap.size + 4) W4 w2 → Below w2.heap.size w2 w3 → Below (w.heap.size + 4) W4 w3) := hide fun w2 w3 h2 h3 => h2.trans (h3.mono (unhide HL w2 h2).2.2.1)
  have hb4 : Below (w.heap.size + 4) W4 W4 := Below.refl _ _
  have HX : Hid (∀ w', Below (w.heap.size + 4) W4 w' → w'.cell? ⟨w.heap.size + 1 + 1 + 1, 0, none⟩ = some (.int .i64 2) ∧ w'.cell? ⟨w.heap.size + 1 + 1 + 1, 1, none⟩ = some (.slice (some ⟨w.heap.size, 0, none⟩) 2 2) ∧ w'.cell? ⟨w.heap.size + 1 + 1 + 1, 2, none⟩ = some (.slice (some ⟨w.heap.size + 1, 0, none⟩) 2 2) ∧ w'.cell? ⟨w.heap.size + 1 + 1 + 1, 3, none⟩ = some (.slice (some ⟨w.heap.size + 1 + 1, 0, none⟩) 2 2)) := hide fun w' hb => (unhide HL w' hb).2.2.2
  clear hs4
  go_at_call 12
  refine (rmheights_err Sp.q1 _ _ _ _ 0 0 W4 ⟨rfl, ints_nil _, ints_nil _, ints_nil _⟩ q1_rim (by rw [q1_rimE]; decide)).mono ?_
  rw [q1_rimE]
  rintro e w5 ⟨rfl, hb5⟩
  replace hb5 := unhide HT _ _ hb4 hb5
  clear hb4
  obtain ⟨x0, x1, x2, x3⟩ := unhide HX w5 hb5
  go_wp2_with fail
  go_at_call 14
  refine (rmflow_yes Sp.q0 _ _ _ _ 0 1 w5 (unhide HL w5 hb5).1 q0_rim 0 0 0 1 (by decide) (by decide) (by decide) q0_split).mono ?_
  rintro e w6 ⟨lv, D, rfl, hO, hb6, hD⟩
  obtain ⟨e0, e1⟩ := q0_D hD.1
  rw [q0_row e0 e1] at hO
  have hk : D (Sp.landK Sp.q0) = 5 := by
    have hk1 : Sp.landK Sp.q0 = 1 := by unfold Sp.landK; rw [q0_faces2]; rfl
    rw [hk1]; exact e1
  rw [hk]
  obtain ⟨la, lc, rfl, -, -, HLa⟩ := (OwnI.ints hO).allA
  obtain ⟨b, o, rfl, -, hc0⟩ := unhide HLa 0 (by decide)
  obtain ⟨b', o', e2, -, hc1⟩ := unhide HLa 1 (by decide)
  injection e2 with e2
  injection e2 with q1 q2
  subst q1 q2
  have c0 := hc0 w6 (Below.refl _ _)
  have c1 := hc1 w6 (Below.refl _ _)
  have c0' : w6.cell? ⟨b, o, none⟩ = some (.int .i64 5) := c0
  have c1' : w6.cell? ⟨b, o + 1, none⟩ = some (.int .i64 (-5)) := c1
  have Hb6 := hide (unhide HL w6 (unhide HT _ _ hb5 hb6)).2.1
  have hl2 : ([5, -5] : List Int).length = 2 := rfl
  rw [hl2]
  clear hb5 hb6 hO hD e0 e1 hk HLa hc0 hc1 c0 c1 x0 x1 x2 x3 hl2
  go_wp2
  rw [unhide HP]
  exact ⟨rfl, unhide Hb6⟩
end Go.Proofs.Ytoegjnolccabjaa


/- A tree by the order in which vertices are found (P401): what Span tells, as a recursion; what stays along it. -/
namespace Go.Proofs.Ytoegjnolccabjaa
open Go Go.RowKit

/-- The darts from d on, c of them, of the vertex u: what is found by them. -/
def Sp.rowGo (T : List Int) (root u : Int) : Nat → Nat → List Int → List Int → List Int × List Int
  | 0, _, fl, up => (fl, up)
  | c + 1, d, fl, up =>
    if T.getD d 0 = u then
      if T.getD (Sp.oth d) 0 = root ∨ up.getD (T.getD (Sp.oth d) 0).toNat 0 ≠ -1 then Sp.rowGo T root u c (d + 1) fl up
      else Sp.rowGo T root u c (d + 1) (fl ++ [T.getD (Sp.oth d) 0]) (up.set (T.getD (Sp.oth d) 0).toNat ((Sp.oth d : Nat) : Int))
    else Sp.rowGo T root u c (d + 1) fl up
/-- What stays along the way. -/
structure Sp.SpSt (T : List Int) (root : Int) (N : Nat) (fl up : List Int) : Prop where
  len : up.length = N
  bd : ∀ x ∈ fl, 0 ≤ x ∧ x < (N : Int)
  nd : fl.Nodup
  hd : ∃ r, fl = root :: r
  rt : up.getD root.toNat 0 = -1
  mem : ∀ v : Nat, v < N → ((v : Int) ∈ fl ↔ (v : Int) = root ∨ up.getD v 0 ≠ -1)
  dart : ∀ v : Nat, v < N → up.getD v 0 ≠ -1 → ∃ d : Nat, d < T.length ∧ up.getD v 0 = (d : Int) ∧ T.getD d 0 = (v : Int) ∧ T.getD (Sp.oth d) 0 ∈ fl
theorem getD_set1 (l : List Int) (i k : Nat) (v : Int) (hi : i < l.length) : (l.set i v).getD k 0 = if i = k then v else l.getD k 0 := by
  rw [List.getD_eq_getElem?_getD, List.getElem?_set, List.getD_eq_getElem?_getD]
  by_cases h : i = k
  · subst h
    rw [if_pos rfl, if_pos hi, if_pos rfl]
    rfl
  · rw [if_neg h, if_neg h]
theorem getD_rep1 (n i : Nat) (x : Int) (h : i < n) : (List.replicate n x).getD i 0 = x := by
  rw [List.getD_eq_getElem?_getD, List.getElem?_replicate, if_pos h]; rfl
theorem Sp.SpSt.first (T : List Int) {root : Int} {N : Nat} (h0 : 0 ≤ root) (h1 : root < (N : Int)) : Sp.SpSt T root N [root] (List.replicate N (-1)) := by
  refine ⟨by simp, fun x hx => ?_, by simp, ⟨[], rfl⟩, getD_rep1 _ _ _ (by omega), fun v hv => ?_, fun v hv e => absurd (getD_rep1 _ _ _ hv) e⟩
  · simp at hx; subst hx; exact ⟨h0, h1⟩
  · rw [getD_rep1 _ _ _ hv]
    simp
/-- A vertex is found. -/
theorem Sp.SpSt.find {T : List Int} {root : Int} {N : Nat} {fl up : List Int} (h : Sp.SpSt T root N fl up) (hT : ∀ x ∈ T, 0 ≤ x ∧ x < (N : Int)) (hev : T.length % 2 = 0) {d : Nat} (hd : d < T.length) (hu : T.getD d 0 ∈ fl) (hn : ¬ (T.getD (Sp.oth d) 0 = root ∨ up.getD (T.getD (Sp.oth d) 0).toNat 0 ≠ -1)) :
    Sp.SpSt T root N (fl ++ [T.getD (Sp.oth d) 0]) (up.set (T.getD (Sp.oth d) 0).toNat ((Sp.oth d : Nat) : Int)) := by
  have ho := oth_lt hd hev
  have hb := hT _ (Sp.getD_mem (l := T) ho)
  have hv : (T.getD (Sp.oth d) 0).toNat < N := by omega
  have hvi : (((T.getD (Sp.oth d) 0).toNat : Nat) : Int) = T.getD (Sp.oth d) 0 := by omega
  have hnm : ¬ T.getD (Sp.oth d) 0 ∈ fl := fun hm => hn (by
    have := (h.mem _ hv).1 (by rw [hvi]; exact hm)
    rw [hvi] at this
    exact this)
  have hnr : T.getD (Sp.oth d) 0 ≠ root := fun e => hn (.inl e)
  obtain ⟨r, hr⟩ := h.hd
  have hrb := h.bd root (by rw [hr]; simp)
  refine ⟨by rw [List.length_set]; exact h.len, fun x hx => ?_, ?_, ⟨r ++ [T.getD (Sp.oth d) 0], by rw [hr]; rfl⟩, ?_, fun v hvN => ?_, fun v hvN e => ?_⟩
  · rcases List.mem_append.1 hx with h1 | h1
    · exact h.bd x h1
    · simp at h1; subst h1; exact hb
  · rw [List.nodup_append]
    refine ⟨h.nd, by simp, fun a ha b hb' e => ?_⟩
    simp at hb'
    subst hb' e
    exact hnm ha
  · rw [getD_set1 _ _ _ _ (by rw [h.len]; exact hv), if_neg (by omega)]
    exact h.rt
  · rw [getD_set1 _ _ _ _ (by rw [h.len]; exact hv), List.mem_append, h.mem v hvN]
    by_cases e : (T.getD (Sp.oth d) 0).toNat = v
    · rw [if_pos e]
      constructor
      · intro _; exact .inr (by omega)
      · intro _; exact .inr (List.mem_singleton.2 (by omega))
    · rw [if_neg e]
      constructor
      · rintro (h1 | h1)
        · exact h1
        · have := List.mem_singleton.1 h1; omega
      · intro h1; exact .inl h1
  · rw [getD_set1 _ _ _ _ (by rw [h.len]; exact hv)] at e ⊢
    by_cases e2 : (T.getD (Sp.oth d) 0).toNat = v
    · rw [if_pos e2]
      exact ⟨Sp.oth d, ho, rfl, by omega, by rw [oth_oth]; exact List.mem_append.2 (.inl hu)⟩
    · rw [if_neg e2] at e ⊢
      obtain ⟨c, c1, c2, c3, c4⟩ := h.dart v hvN e
      exact ⟨c, c1, c2, c3, List.mem_append.2 (.inl c4)⟩
theorem Sp.SpSt.row {T : List Int} {root : Int} {N : Nat} (hT : ∀ x ∈ T, 0 ≤ x ∧ x < (N : Int)) (hev : T.length % 2 = 0) {u : Int} : ∀ c d fl up, d + c = T.length → u ∈ fl → Sp.SpSt T root N fl up → Sp.SpSt T root N (Sp.rowGo T root u c d fl up).1 (Sp.rowGo T root u c d fl up).2 ∧ ∃ r, (Sp.rowGo T root u c d fl up).1 = fl ++ r
  | 0, d, fl, up, _, _, h => ⟨h, [], by simp [Sp.rowGo]⟩
  | c + 1, d, fl, up, hd, hu, h => by
    rw [Sp.rowGo]
    split
    · rename_i e
      split
      · exact Sp.SpSt.row hT hev c (d + 1) fl up (by omega) hu h
      · rename_i hn
        obtain ⟨h1, r, h2⟩ := Sp.SpSt.row hT hev c (d + 1) _ _ (by omega) (List.mem_append.2 (.inl hu)) (h.find hT hev (by omega) (by rw [e]; exact hu) hn)
        exact ⟨h1, [T.getD (Sp.oth d) 0] ++ r, by rw [h2, List.append_assoc]⟩
    · exact Sp.SpSt.row hT hev c (d + 1) fl up (by omega) hu h
/-- As many were found as there are vertices, at most. -/
theorem Sp.SpSt.le {T : List Int} {root : Int} {N : Nat} {fl up : List Int} (h : Sp.SpSt T root N fl up) : fl.length ≤ N := nodup_le N fl h.nd h.bd
end Go.Proofs.Ytoegjnolccabjaa


/- The reference's Left (P401). -/
namespace Go.Proofs.Ytoegjnolccabjaa
open Go Go.RowKit

/-- Is an edge's dart among the first j of the row? -/
def Sp.usedB (up : List Int) (d : Nat) : Nat → Bool
  | 0 => false
  | j + 1 => Sp.usedB up d j || up.getD j 0 == (d : Int) || up.getD j 0 == (d : Int) + 1
def Sp.leftGo (up : List Int) : Nat → Nat → List Int → List Int
  | 0, _, out => out
  | g + 1, e, out => if Sp.usedB up (2 * e) up.length = true then Sp.leftGo up g (e + 1) out else Sp.leftGo up g (e + 1) (out ++ [((2 * e : Nat) : Int)])
/-- The edges that are left. -/
def Sp.leftL (q : Sp.Net) (up : List Int) : List Int := Sp.leftGo up (q.tail.length / 2) 0 []
end Go.Proofs.Ytoegjnolccabjaa


/- The reference's Right (P401). -/
namespace Go.Proofs.Ytoegjnolccabjaa
open Go Go.RowKit

/-- Is the root come to from w, in g steps at most? -/
def Sp.reachGo (T up : List Int) (root : Int) : Nat → Nat → Bool
  | 0, w => decide ((w : Int) = root)
  | g + 1, w => if (w : Int) = root then true else Sp.reachGo T up root g (T.getD (Sp.oth (up.getD w 0).toNat) 0).toNat
end Go.Proofs.Ytoegjnolccabjaa


/- Ways up: who comes to the root; a way that meets a vertex twice goes round (P401). -/
namespace Go.Proofs.Ytoegjnolccabjaa
open Go Go.RowKit

/-- Where a vertex's dart leads. -/
def Sp.nx (T up : List Int) (x : Nat) : Nat := (T.getD (Sp.oth (up.getD x 0).toNat) 0).toNat
/-- In m steps from x to y, none of them from the root. -/
def Sp.Stp (T up : List Int) (root : Int) : Nat → Nat → Nat → Prop
  | 0, x, y => x = y
  | m + 1, x, y => (x : Int) ≠ root ∧ Sp.Stp T up root m (Sp.nx T up x) y
/-- The root is come to. -/
def Sp.Rc (T up : List Int) (root : Int) (x : Nat) : Prop := ∃ g, Sp.reachGo T up root g x = true
theorem Sp.reach_succ (T up : List Int) (root : Int) (g x : Nat) : Sp.reachGo T up root (g + 1) x = if (x : Int) = root then true else Sp.reachGo T up root g (Sp.nx T up x) := rfl
theorem Sp.reach_mono (T up : List Int) (root : Int) : ∀ g x, Sp.reachGo T up root g x = true → Sp.reachGo T up root (g + 1) x = true
  | 0, x, h => by
    rw [Sp.reach_succ, if_pos (of_decide_eq_true h)]
  | g + 1, x, h => by
    rw [Sp.reach_succ] at h ⊢
    split
    · rfl
    · rename_i hx
      rw [if_neg hx] at h
      exact Sp.reach_mono T up root g _ h
theorem Sp.reach_le (T up : List Int) (root : Int) {g g' x : Nat} (h : Sp.reachGo T up root g x = true) (hg : g ≤ g') : Sp.reachGo T up root g' x = true := by
  induction hg with
  | refl => exact h
  | step _ ih => exact Sp.reach_mono _ _ _ _ _ ih
theorem Sp.Stp.reach {T up : List Int} {root : Int} : ∀ {m x y : Nat}, Sp.Stp T up root m x y → ∀ g, Sp.reachGo T up root (g + m) x = Sp.reachGo T up root g y
  | 0, x, y, h, g => by rw [show x = y from h]; rfl
  | m + 1, x, y, h, g => by
    rw [show g + (m + 1) = (g + m) + 1 by omega, Sp.reach_succ, if_neg h.1]
    exact Sp.Stp.reach h.2 g
theorem Sp.Stp.snoc {T up : List Int} {root : Int} : ∀ {m x y : Nat}, Sp.Stp T up root m x y → (y : Int) ≠ root → Sp.Stp T up root (m + 1) x (Sp.nx T up y)
  | 0, x, y, h, hy => by
    obtain rfl : x = y := h
    exact ⟨hy, rfl⟩
  | m + 1, x, y, h, hy => ⟨h.1, Sp.Stp.snoc h.2 hy⟩
theorem Sp.Stp.rc {T up : List Int} {root : Int} {m x y : Nat} (h : Sp.Stp T up root m x y) : Sp.Rc T up root x ↔ Sp.Rc T up root y := by
  constructor
  · rintro ⟨g, hg⟩
    exact ⟨g, by rw [← h.reach]; exact Sp.reach_le _ _ _ hg (by omega)⟩
  · rintro ⟨g, hg⟩
    exact ⟨g + m, by rw [h.reach]; exact hg⟩
/-- What comes round does not come to the root. -/
theorem Sp.Stp.round {T up : List Int} {root : Int} {m x : Nat} (h : Sp.Stp T up root (m + 1) x x) : ¬ Sp.Rc T up root x := by
  rintro ⟨g, hg⟩
  induction g using Nat.strongRecOn with
  | ind g ih =>
    rcases Nat.lt_or_ge g (m + 1) with h1 | h1
    · have := Sp.reach_le _ _ _ hg (show g ≤ 0 + (m + 1) by omega)
      rw [h.reach] at this
      exact h.1 (of_decide_eq_true this)
    · have e := h.reach (g - (m + 1))
      rw [Nat.sub_add_cancel h1] at e
      exact ih (g - (m + 1)) (by omega) (by rw [← e]; exact hg)
/-- The vertices of a way. -/
def Sp.pl (T up : List Int) : Nat → Nat → List Int
  | 0, x => [(x : Int)]
  | g + 1, x => (x : Int) :: Sp.pl T up g (Sp.nx T up x)
/-- The first number of steps by which the root is come to. -/
def Sp.Mn (T up : List Int) (root : Int) (g x : Nat) : Prop := Sp.reachGo T up root g x = true ∧ ∀ g', g' < g → Sp.reachGo T up root g' x = false
theorem Sp.Mn.next {T up : List Int} {root : Int} {g x : Nat} (h : Sp.Mn T up root (g + 1) x) : (x : Int) ≠ root ∧ Sp.Mn T up root g (Sp.nx T up x) := by
  have hx : (x : Int) ≠ root := fun e => by
    have := h.2 0 (by omega)
    rw [show Sp.reachGo T up root 0 x = true from decide_eq_true e] at this
    cases this
  refine ⟨hx, ?_, fun g' hg' => ?_⟩
  · have := h.1
    rw [Sp.reach_succ, if_neg hx] at this
    exact this
  · have := h.2 (g' + 1) (by omega)
    rw [Sp.reach_succ, if_neg hx] at this
    exact this
theorem Sp.Rc.least {T up : List Int} {root : Int} {x : Nat} (h : Sp.Rc T up root x) : ∃ g, Sp.Mn T up root g x := by
  obtain ⟨g, hg⟩ := h
  induction g using Nat.strongRecOn with
  | ind g ih =>
    by_cases hm : ∃ g', g' < g ∧ Sp.reachGo T up root g' x = true
    · obtain ⟨g', h1, h2⟩ := hm
      exact ih g' h1 h2
    · exact ⟨g, hg, fun g' h1 => by
        cases h2 : Sp.reachGo T up root g' x with
        | false => rfl
        | true => exact absurd ⟨g', h1, h2⟩ hm⟩
end Go.Proofs.Ytoegjnolccabjaa


/- Package tree: Right. -/
namespace Go.Proofs.Ytoegjnolccabjaa
open Go Go.RowKit

/-- What the ways gone so far have left; v: the vertex that is gone up from, at: where it stands. -/
structure Sp.ByI (T up : List Int) (root : Int) (N v : Nat) (L : List Int) (C : Nat → Prop) : Prop where
  len : L.length = N
  mark : ∀ x, x < N → L.getD x 0 ≠ -1 → (0 ≤ L.getD x 0 ∧ L.getD x 0 < (v : Int) ∧ Sp.Rc T up root x) ∨ (L.getD x 0 = (v : Int) ∧ C x)
  all : ∀ y, y < v → Sp.Rc T up root y
/-- The way from v is done: it comes to where one comes to the root. -/
theorem Sp.ByI.done {T up : List Int} {root : Int} {N v t : Nat} {L : List Int} (h : Sp.ByI T up root N v L (fun x => ∃ m, Sp.Stp T up root (m + 1) x t)) (ht : Sp.Rc T up root t) (hv : ∃ m, Sp.Stp T up root m v t) : Sp.ByI T up root N (v + 1) L (fun _ => False) := by
  refine ⟨h.len, fun x hx hne => .inl ?_, fun y hy => ?_⟩
  · rcases h.mark x hx hne with ⟨a, b, c⟩ | ⟨a, m, b⟩
    · exact ⟨a, by omega, c⟩
    · exact ⟨by omega, by omega, b.rc.2 ht⟩
  · by_cases hyv : y = v
    · obtain ⟨m, b⟩ := hv
      rw [hyv]; exact b.rc.2 ht
    · exact h.all y (by omega)
/-- A vertex is marked, and gone on from. -/
theorem Sp.ByI.on {T up : List Int} {root : Int} {N v t : Nat} {L : List Int} (h : Sp.ByI T up root N v L (fun x => ∃ m, Sp.Stp T up root (m + 1) x t)) (ht : t < N) (hr : (t : Int) ≠ root) : Sp.ByI T up root N v (L.set t (v : Int)) (fun x => ∃ m, Sp.Stp T up root (m + 1) x (Sp.nx T up t)) := by
  refine ⟨by rw [List.length_set]; exact h.len, fun x hx hne => ?_, h.all⟩
  have hl := h.len
  rw [getD_set1 _ _ _ _ (by omega)] at hne ⊢
  by_cases hxt : t = x
  · rw [if_pos hxt]
    subst hxt
    exact .inr ⟨rfl, 0, hr, rfl⟩
  · rw [if_neg hxt] at hne ⊢
    rcases h.mark x hx hne with a | ⟨a, m, b⟩
    · exact .inl a
    · exact .inr ⟨a, m + 1, b.snoc hr⟩
end Go.Proofs.Ytoegjnolccabjaa


/- What the laws of trees take of a plane net; what a tree's row is. -/
namespace Go.Proofs.Ytoegjnolccabjaa
open Go Go.RowKit

/-- A tree's row. -/
structure Sp.RowT (T U : List Int) (r N : Nat) : Prop where
  len : U.length = N
  rN : r < N
  rt : U.getD r 0 = -1
  dart : ∀ v, v < N → v ≠ r → ∃ d : Nat, d < T.length ∧ U.getD v 0 = (d : Int) ∧ T.getD d 0 = (v : Int)
  rc : ∀ v, v < N → Sp.Rc T U (r : Int) v
theorem Sp.RowT.nx {T U : List Int} {r N : Nat} (_h : Sp.RowT T U r N) {v d : Nat} (e : U.getD v 0 = (d : Int)) : Sp.nx T U v = (T.getD (Sp.oth d) 0).toNat := by
  unfold Sp.nx; rw [e, Int.toNat_natCast]
theorem Sp.RowT.below {T U : List Int} {r N : Nat} (h : Sp.RowT T U r N) : ∀ z ∈ U, z < (T.length : Int) := fun z hz => by
  obtain ⟨v, hv, e⟩ := List.getElem_of_mem hz
  have hv' : v < N := by rw [← h.len]; exact hv
  have e2 : U.getD v 0 = z := by rw [Sp.getD_eq _ _ hv, e]
  by_cases hr : v = r
  · subst hr
    have := h.rt
    omega
  · obtain ⟨d, hd, e1, -⟩ := h.dart v hv' hr
    omega
/-- Two vertices do not hang on one edge. -/
theorem Sp.RowT.apart {T U : List Int} {r N : Nat} (h : Sp.RowT T U r N) {v w d e : Nat} (hv : v < N) (hw : w < N) (hvr : v ≠ r) (hwr : w ≠ r) (h1 : U.getD v 0 = (d : Int)) (h2 : U.getD w 0 = (e : Int)) (he : d / 2 = e / 2) : v = w := by
  obtain ⟨d', -, a1, a2⟩ := h.dart v hv hvr
  obtain ⟨e', -, b1, b2⟩ := h.dart w hw hwr
  obtain rfl : d' = d := by omega
  obtain rfl : e' = e := by omega
  by_cases hde : d' = e'
  · subst hde; omega
  · exfalso
    have ho : Sp.oth d' = e' := by unfold Sp.oth; split <;> omega
    have ho2 : Sp.oth e' = d' := by rw [← ho, oth_oth]
    have n1 : Sp.nx T U v = w := by rw [h.nx h1, ho, b2, Int.toNat_natCast]
    have n2 : Sp.nx T U w = v := by rw [h.nx h2, ho2, a2, Int.toNat_natCast]
    have : Sp.Stp T U (r : Int) 2 v v := ⟨by omega, by rw [n1]; exact ⟨by omega, n2⟩⟩
    exact this.round (h.rc v hv)
/-- The edges that are used. -/
theorem Sp.usedB_ex (up : List Int) (d : Nat) : ∀ j, Sp.usedB up d j = true ↔ ∃ i, i < j ∧ (up.getD i 0 = (d : Int) ∨ up.getD i 0 = (d : Int) + 1)
  | 0 => ⟨fun h => (by cases h), fun ⟨i, h, _⟩ => (by omega)⟩
  | j + 1 => by
    rw [Sp.usedB, Bool.or_eq_true, Bool.or_eq_true, Sp.usedB_ex up d j, beq_iff_eq, beq_iff_eq]
    constructor
    · rintro ((⟨i, h1, h2⟩ | h) | h)
      · exact ⟨i, by omega, h2⟩
      · exact ⟨j, by omega, .inl h⟩
      · exact ⟨j, by omega, .inr h⟩
    · rintro ⟨i, h1, h2⟩
      by_cases h : i = j
      · subst h
        rcases h2 with h2 | h2
        · exact .inl (.inr h2)
        · exact .inr h2
      · exact .inl (.inl ⟨i, by omega, h2⟩)
theorem Sp.leftGo_eq (up : List Int) : ∀ g e out, Sp.leftGo up g e out = out ++ ((List.range' e g).filter (fun e => !Sp.usedB up (2 * e) up.length)).map (fun e => ((2 * e : Nat) : Int))
  | 0, e, out => by simp [Sp.leftGo]
  | g + 1, e, out => by
    rw [Sp.leftGo, List.range'_succ, List.filter_cons]
    split
    · rename_i h
      rw [Sp.leftGo_eq up g (e + 1) out, h]
      simp
    · rename_i h
      rw [Sp.leftGo_eq up g (e + 1) _, if_pos (by simpa using h), List.map_cons, List.append_assoc]
      rfl
theorem Sp.leftL_eq (q : Sp.Net) (up : List Int) : Sp.leftL q up = ((List.range (q.tail.length / 2)).filter (fun e => !Sp.usedB up (2 * e) up.length)).map (fun e => ((2 * e : Nat) : Int)) := by
  unfold Sp.leftL
  rw [Sp.leftGo_eq, List.nil_append, List.range_eq_range']
theorem filter_add (p : Nat → Bool) : ∀ l : List Nat, (l.filter p).length + (l.filter (fun x => !p x)).length = l.length
  | [] => rfl
  | x :: l => by
    have := filter_add p l
    rw [List.filter_cons, List.filter_cons]
    cases p x <;> simp <;> omega
/-- What is left is as many as edges, less the vertices but the root. -/
theorem Sp.RowT.left {q : Sp.Net} {U : List Int} {r N : Nat} (h : Sp.RowT q.tail U r N) (hev : q.tail.length % 2 = 0) : (Sp.leftL q U).length + (N - 1) = q.tail.length / 2 := by
  rw [Sp.leftL_eq, List.length_map]
  have h1 := filter_add (fun e => Sp.usedB U (2 * e) U.length) (List.range (q.tail.length / 2))
  rw [List.length_range] at h1
  have hp : (((List.range N).filter (fun v => decide (v ≠ r))).map (fun v => (U.getD v 0).toNat / 2)).Perm ((List.range (q.tail.length / 2)).filter (fun e => Sp.usedB U (2 * e) U.length)) := by
    rw [List.perm_ext_iff_of_nodup]
    · intro e
      rw [List.mem_map, List.mem_filter, List.mem_range, Sp.usedB_ex]
      constructor
      · rintro ⟨v, hv, rfl⟩
        rw [List.mem_filter, List.mem_range, decide_eq_true_eq] at hv
        obtain ⟨d, hd, e1, -⟩ := h.dart v hv.1 hv.2
        refine ⟨by rw [e1, Int.toNat_natCast]; omega, v, by rw [h.len]; exact hv.1, ?_⟩
        rw [e1, Int.toNat_natCast]
        omega
      · rintro ⟨he, v, hv, hc⟩
        rw [h.len] at hv
        refine ⟨v, ?_, by omega⟩
        rw [List.mem_filter, List.mem_range, decide_eq_true_eq]
        refine ⟨hv, fun e => ?_⟩
        subst e
        rw [h.rt] at hc
        omega
    · refine List.pairwise_map.2 (List.Pairwise.imp_of_mem ?_ ((List.nodup_range (n := N)).filter (fun v => decide (v ≠ r))))
      intro v w hv hw hvw e
      refine hvw ?_
      rw [List.mem_filter, List.mem_range, decide_eq_true_eq] at hv hw
      obtain ⟨d, hd, e1, -⟩ := h.dart v hv.1 hv.2
      obtain ⟨d', hd', e1', -⟩ := h.dart w hw.1 hw.2
      exact h.apart hv.1 hw.1 hv.2 hw.2 e1 e1' (by rw [e1, e1', Int.toNat_natCast, Int.toNat_natCast] at e; exact e)
    · exact (List.nodup_range).filter _
  have h2 := hp.length_eq
  rw [List.length_map] at h2
  have h3 := filter_add (fun v => decide (v ≠ r)) (List.range N)
  rw [List.length_range] at h3
  have h4 : ((List.range N).filter (fun v => !decide (v ≠ r))).length = 1 := by
    have hp2 : ((List.range N).filter (fun v => !decide (v ≠ r))).Perm [r] := by
      rw [List.perm_ext_iff_of_nodup ((List.nodup_range).filter _) (by simp)]
      intro v
      rw [List.mem_filter, List.mem_range]
      have hr := h.rN
      constructor
      · rintro ⟨-, e⟩
        simp at e
        simp [e]
      · intro e
        simp at e
        subst e
        exact ⟨hr, by simp⟩
    exact hp2.length_eq
  omega
end Go.Proofs.Ytoegjnolccabjaa


/- What the laws of stage 8 take of Plane's nets. -/
namespace Go.Proofs.Ytoegjnolccabjaa
open Go Go.RowKit

theorem Sp.rimQ_plane (ns : List Int) : Sp.RimQ (Sp.plane ns) := by
  rcases Sp.dualQ_plane ns with e | h
  · rw [e]; exact q1_rim
  · exact Sp.RimQ.of_dual h ((Sp.plane_ok ns).walk (by omega)) (Sp.check_plane ns)
theorem Sp.rim_split {q : Sp.Net} (hq : Sp.RimQ q) {s t : Int} (h : Sp.rimE q s t = 0) : (0 ≤ s ∧ s < q.n) ∧ (0 ≤ t ∧ t < q.n) ∧ s ≠ t ∧ Sp.endsE q s t = 0 ∧ ∃ f d0 a jb, Sp.SplitQ q s t f d0 a jb := by
  unfold Sp.rimE at h
  split at h
  · cases h
  · rename_i h1
    split at h
    · cases h
    · rename_i h2
      split at h
      · rename_i h3
        have h4 := Classical.not_not.1 h1
        exact ⟨h4.1, h4.2, h2, by unfold Sp.endsE; rw [if_neg h1, if_neg h2], Sp.splitQ_of hq.link h3⟩
      · cases h
/-- What rim and the reference tell of two vertices. -/
theorem Sp.rim_cases {q : Sp.Net} (hq : Sp.RimQ q) (s t : Int) : Sp.rimE q s t ≠ 0 ∨ ((0 ≤ s ∧ s < q.n) ∧ (0 ≤ t ∧ t < q.n) ∧ s ≠ t ∧ Sp.endsE q s t = 0 ∧ ∃ f d0 a jb, Sp.SplitQ q s t f d0 a jb) := by
  by_cases h : Sp.rimE q s t = 0
  · exact .inr (Sp.rim_split hq h)
  · exact .inl h
end Go.Proofs.Ytoegjnolccabjaa


/- within of watershedlaw8. -/
namespace Go.Proofs.Ytoegjnolccabjaa
open Go Go.RowKit

set_option maxRecDepth 100000 in
set_option maxHeartbeats 1000000 in
theorem within8_any (a n : Int) (w : World) (hn : 0 < n) (hn1 : n ≤ 4611686018427387904) :
    Calls Try.prog 11 #[.int .i64 a, .int .i64 n] w fun e w' => e = .returned (.int .i64 (a % n)) ∧ w' = w := by
  have h0 : 0 ≤ a % n := Int.emod_nonneg a (by omega)
  have h1 : a % n < n := Int.emod_lt_of_pos a hn
  rcases tmod_cases a n hn with ⟨ha, hb⟩ | ⟨ha, hb⟩
  · have hc : -n ≤ a.tmod n := by omega
    have Hb := hide hb; clear hb h0 h1
    go_enter Try.func11, Try.ntmps11
    go_wp2
    go_ret
    exact ⟨ret_int (unhide Hb), rfl⟩
  · have Hb := hide hb; clear hb h0 h1
    go_enter Try.func11, Try.ntmps11
    go_wp2
    go_ret
    exact ⟨ret_int (unhide Hb), rfl⟩
end Go.Proofs.Ytoegjnolccabjaa


/- rim's contracts, of both cases told at once. -/
namespace Go.Proofs.Ytoegjnolccabjaa
open Go Go.RowKit

/-- What is told of two vertices: an error, or heights P, rises L, b's height x. -/
def Sp.RimIs (q : Sp.Net) (s t : Int) (P L : List Int) (x : Int) : Prop :=
  (Sp.rimE q s t ≠ 0 ∧ P = [] ∧ L = [] ∧ x = 0) ∨ (Sp.rimE q s t = 0 ∧ (0 ≤ s ∧ s < q.n) ∧ (0 ≤ t ∧ t < q.n) ∧ s ≠ t ∧ Sp.endsE q s t = 0 ∧ ∃ f d0 a jb D, Sp.SplitQ q s t f d0 a jb ∧
    (Sp.Short 1152921504606846976 (Sp.rimR (Sp.splitL q f d0 a jb) q.cap q.tail.length) f (Sp.landK q + 1) D ∧ ∀ v, v < Sp.landK q + 1 → D v ≠ 1152921504606846976 → D v < 1152921504606846976) ∧
    P = (List.range (Sp.landK q + 1)).map D ∧ L = (List.range q.tail.length).map (Sp.rise (Sp.splitL q f d0 a jb) ((List.range (Sp.landK q + 1)).map D)) ∧ x = D (Sp.landK q))
theorem Sp.rimE_zero {q : Sp.Net} {s t : Int} {f d0 a jb : Nat} (hE : Sp.endsE q s t = 0) (hs : Sp.SplitQ q s t f d0 a jb) : Sp.rimE q s t = 0 := by
  obtain ⟨h1, h2, h3, -⟩ := Sp.ends_ok hE
  unfold Sp.rimE
  rw [if_neg (fun k => k ⟨h1, h2⟩), if_neg h3, if_pos (by rw [hs.sh])]
theorem rmflow_any (q : Sp.Net) (v tv nv cv : Value) (s t : Int) (w : World) (hv : NetI w v q tv nv cv) (hq : Sp.RimQ q) :
    Calls Try.prog 14 #[v, .int .i64 s, .int .i64 t] w fun e w' => ∃ lv P L x, e = .returned (.tuple #[lv, .int .i64 x, .int .i64 (Sp.rimE q s t)]) ∧ OwnI w' w.heap.size lv L ∧ Sp.RimIs q s t P L x ∧ Below w.heap.size w w' := by
  rcases Sp.rim_cases hq s t with he | he
  · refine (rmflow_err q v tv nv cv s t w hv hq he).mono ?_
    rintro e w' ⟨rfl, hb⟩
    exact ⟨_, [], [], 0, rfl, World.ownsRow_nil _ _ _ _, .inl ⟨he, rfl, rfl, rfl⟩, hb⟩
  · obtain ⟨h0, h1, hst, hE, f, d0, a, jb, hs⟩ := he
    have hz : Sp.rimE q s t = 0 := Sp.rimE_zero hE hs
    refine (rmflow_yes q v tv nv cv s t w hv hq f d0 a jb h0 h1 hst hs).mono ?_
    rintro e w' ⟨lv, D, rfl, hO, hb, hD⟩
    rw [hz]
    exact ⟨_, _, _, _, rfl, hO, .inr ⟨hz, h0, h1, hst, hE, f, d0, a, jb, D, hs, hD, rfl, rfl, rfl⟩, hb⟩
end Go.Proofs.Ytoegjnolccabjaa


/- What a split face's halves are. -/
namespace Go.Proofs.Ytoegjnolccabjaa
open Go Go.RowKit

theorem getD_set0 (l : List Int) (i k : Nat) (v : Int) (hi : i < l.length) : (l.set i v).getD k 0 = if i = k then v else l.getD k 0 := by
  rw [List.getD_eq_getElem?_getD, List.getElem?_set, List.getD_eq_getElem?_getD]
  by_cases h : i = k
  · subst h
    rw [if_pos rfl, if_pos hi, if_pos rfl]
    rfl
  · rw [if_neg h, if_neg h]
theorem Sp.splitAt_in {x : Nat → Nat} {K f : Int} {jb : Nat} {F : List Int} {p : Nat} (hx : ∀ m, x m < F.length) (hi : ∀ m n, m < p → n < p → x m = x n → m = n) : ∀ j, j ≤ p → ∀ m, m < j → (Sp.splitAt x K f jb F j).getD (x m) 0 = if jb ≤ m then K else f
  | 0, _, m, h => by omega
  | j + 1, hj, m, h => by
    rw [Sp.splitAt, getD_set0 _ _ _ _ (by rw [Sp.splitAt_len]; exact hx j)]
    by_cases e : x j = x m
    · obtain rfl := hi j m (by omega) (by omega) e
      rw [if_pos rfl]
    · rw [if_neg e]
      refine Sp.splitAt_in hx hi j (by omega) m ?_
      rcases Nat.lt_or_ge m j with h1 | h1
      · exact h1
      · exact absurd (by rw [show m = j by omega]) e
theorem Sp.splitAt_out {x : Nat → Nat} {K f : Int} {jb : Nat} {F : List Int} (hx : ∀ m, x m < F.length) {i : Nat} : ∀ j, (∀ m, m < j → x m ≠ i) → (Sp.splitAt x K f jb F j).getD i 0 = F.getD i 0
  | 0, _ => rfl
  | j + 1, h => by
    rw [Sp.splitAt, getD_set0 _ _ _ _ (by rw [Sp.splitAt_len]; exact hx j), if_neg (h j (by omega))]
    exact Sp.splitAt_out hx j fun m hm => h m (by omega)
theorem cnt_two (p : Nat → Bool) {u v : Nat} (huv : u ≠ v) : ∀ n, (∀ i, i < n → (p i = true ↔ i = u ∨ i = v)) → Sp.cnt p n = (if u < n then 1 else 0) + (if v < n then 1 else 0)
  | 0, _ => by rw [if_neg (by omega), if_neg (by omega)]; rfl
  | n + 1, h => by
    have ih := cnt_two p huv n fun i hi => h i (by omega)
    rw [Sp.cnt_succ, ih]
    have hn := h n (by omega)
    by_cases hp : p n = true
    · rw [if_pos hp]
      have hc := hn.1 hp
      split <;> split <;> split <;> split <;> omega
    · rw [if_neg hp]
      have h1 : n ≠ u := fun e => hp (hn.2 (.inl e))
      have h2 : n ≠ v := fun e => hp (hn.2 (.inr e))
      split <;> split <;> split <;> split <;> omega
/-- The halves of a face that is split between s and t. -/
structure Sp.HalfQ (q : Sp.Net) (s t : Int) (f K : Nat) (L : List Int) : Prop where
  len : L.length = q.tail.length
  out : ∀ i, i < q.tail.length → (Sp.faces2 q).1.getD i 0 ≠ (f : Int) → L.getD i 0 = (Sp.faces2 q).1.getD i 0
  inn : ∀ i, i < q.tail.length → (Sp.faces2 q).1.getD i 0 = (f : Int) → L.getD i 0 = (f : Int) ∨ L.getD i 0 = (K : Int)
  fK : f < K
  lt : ∀ i, i < q.tail.length → (Sp.faces2 q).1.getD i 0 < (K : Int)
  has1 : ∃ i, i < q.tail.length ∧ L.getD i 0 = (f : Int)
  has2 : ∃ i, i < q.tail.length ∧ L.getD i 0 = (K : Int)
  step : ∀ d, d < q.tail.length → L.getD d 0 = L.getD (Sp.fn (Sp.behindL q.next) d) 0 ∨ (L.getD (Sp.fn (Sp.behindL q.next) d) 0 = (K : Int) ∧ q.tail.getD (Sp.fn (Sp.behindL q.next) d) 0 = t) ∨ (L.getD (Sp.fn (Sp.behindL q.next) d) 0 = (f : Int) ∧ q.tail.getD (Sp.fn (Sp.behindL q.next) d) 0 = s)
  turns : Sp.cnt (fun d => L.getD d 0 != L.getD (Sp.fn (Sp.behindL q.next) d) 0) q.tail.length = 2
theorem Sp.DualQ.halves {q : Sp.Net} (h : Sp.DualQ q) {s t : Int} {f d0 a jb : Nat} (hs : Sp.SplitQ q s t f d0 a jb) : Sp.HalfQ q s t f (max (Sp.faces2 q).2 1) (Sp.splitL q f d0 a jb) := by
  have hF := Sp.faces2_len q
  have hb := h.fp
  have hlb := h.bl
  have hdb : d0 < (Sp.behindL q.next).length := by rw [hlb]; exact hs.d0l
  have hk := h.k1
  have hK : max (Sp.faces2 q).2 1 = (Sp.faces2 q).2 := by omega
  have hxa : itf (Sp.fn (Sp.behindL q.next)) d0 a < (Sp.behindL q.next).length := hb.fnP.it hdb a
  have hper := per_along hb hdb a
  have hxl : ∀ m, itf (Sp.fn (Sp.behindL q.next)) d0 (a + m) < q.tail.length := fun m => by have := hb.fnP.it hdb (a + m); rw [hlb] at this; exact this
  have hxF : ∀ m, itf (Sp.fn (Sp.behindL q.next)) d0 (a + m) < (Sp.faces2 q).1.length := fun m => by rw [hF]; exact hxl m
  have hfa : ∀ m, (Sp.faces2 q).1.getD (itf (Sp.fn (Sp.behindL q.next)) d0 (a + m)) 0 = (f : Int) := fun m => by rw [Sp.faces_along h.link hs.d0l, hs.d0f]
  have hinj : ∀ m n, m < Sp.per (Sp.behindL q.next) d0 → n < Sp.per (Sp.behindL q.next) d0 → itf (Sp.fn (Sp.behindL q.next)) d0 (a + m) = itf (Sp.fn (Sp.behindL q.next)) d0 (a + n) → m = n := fun m n hm hn e => by
    rw [itf_add, itf_add] at e
    rcases Nat.lt_trichotomy m n with h1 | h1 | h1
    · exact absurd e (itf_apart hb hxa h1 (by rw [hper]; exact hn))
    · exact h1
    · exact absurd e.symm (itf_apart hb hxa h1 (by rw [hper]; exact hm))
  have hcov : ∀ i, i < q.tail.length → (Sp.faces2 q).1.getD i 0 = (f : Int) → ∃ m, m < Sp.per (Sp.behindL q.next) d0 ∧ itf (Sp.fn (Sp.behindL q.next)) d0 (a + m) = i := fun i hi e => by
    obtain ⟨m, h1, h2⟩ := Sp.faces_orb h.link (d := itf (Sp.fn (Sp.behindL q.next)) d0 a) (by rw [← hlb]; exact hxa) hi (by rw [e, ← hfa 0, Nat.add_zero])
    rw [hper] at h1
    exact ⟨m, h1, by rw [itf_add]; exact h2⟩
  have hin : ∀ m, m < Sp.per (Sp.behindL q.next) d0 → (Sp.splitL q f d0 a jb).getD (itf (Sp.fn (Sp.behindL q.next)) d0 (a + m)) 0 = if jb ≤ m then ((max (Sp.faces2 q).2 1 : Nat) : Int) else (f : Int) := fun m hm =>
    Sp.splitAt_in (x := fun j => itf (Sp.fn (Sp.behindL q.next)) d0 (a + j)) hxF hinj _ (Nat.le_refl _) m hm
  have hout : ∀ i, i < q.tail.length → (Sp.faces2 q).1.getD i 0 ≠ (f : Int) → (Sp.splitL q f d0 a jb).getD i 0 = (Sp.faces2 q).1.getD i 0 := fun i hi e =>
    Sp.splitAt_out (x := fun j => itf (Sp.fn (Sp.behindL q.next)) d0 (a + j)) hxF _ fun m _ e2 => e (by rw [← e2]; exact hfa m)
  have hper0 : itf (Sp.fn (Sp.behindL q.next)) d0 (a + Sp.per (Sp.behindL q.next) d0) = itf (Sp.fn (Sp.behindL q.next)) d0 (a + 0) := by
    have := itf_mod hb hdb (a + Sp.per (Sp.behindL q.next) d0)
    rw [← this, Nat.add_mod_right, itf_mod hb hdb, Nat.add_zero]
  have hfn : ∀ m, Sp.fn (Sp.behindL q.next) (itf (Sp.fn (Sp.behindL q.next)) d0 (a + m)) = itf (Sp.fn (Sp.behindL q.next)) d0 (a + (m + 1)) := fun m => rfl
  have hlF : ∀ i, i < q.tail.length → (Sp.faces2 q).1.getD i 0 < ((max (Sp.faces2 q).2 1 : Nat) : Int) := fun i hi => by rw [hK]; exact (h.fb hi).2
  have hfK : f < max (Sp.faces2 q).2 1 := by have := hlF d0 hs.d0l; rw [hs.d0f] at this; omega
  have b0 := hs.b0
  have bl := hs.bl
  have hdiff : ∀ d, d < q.tail.length → ((Sp.splitL q f d0 a jb).getD d 0 = (Sp.splitL q f d0 a jb).getD (Sp.fn (Sp.behindL q.next) d) 0 ∧ d ≠ itf (Sp.fn (Sp.behindL q.next)) d0 (a + (jb - 1)) ∧ d ≠ itf (Sp.fn (Sp.behindL q.next)) d0 (a + (Sp.per (Sp.behindL q.next) d0 - 1))) ∨ (d = itf (Sp.fn (Sp.behindL q.next)) d0 (a + (jb - 1)) ∧ (Sp.splitL q f d0 a jb).getD d 0 = (f : Int) ∧ (Sp.splitL q f d0 a jb).getD (Sp.fn (Sp.behindL q.next) d) 0 = ((max (Sp.faces2 q).2 1 : Nat) : Int) ∧ q.tail.getD (Sp.fn (Sp.behindL q.next) d) 0 = t) ∨ (d = itf (Sp.fn (Sp.behindL q.next)) d0 (a + (Sp.per (Sp.behindL q.next) d0 - 1)) ∧ (Sp.splitL q f d0 a jb).getD d 0 = ((max (Sp.faces2 q).2 1 : Nat) : Int) ∧ (Sp.splitL q f d0 a jb).getD (Sp.fn (Sp.behindL q.next) d) 0 = (f : Int) ∧ q.tail.getD (Sp.fn (Sp.behindL q.next) d) 0 = s) := by
    intro d hd
    by_cases e : (Sp.faces2 q).1.getD d 0 = (f : Int)
    · obtain ⟨m, hm, rfl⟩ := hcov d hd e
      rw [hfn]
      by_cases h1 : m + 1 = Sp.per (Sp.behindL q.next) d0
      · refine .inr (.inr ⟨by rw [show m = Sp.per (Sp.behindL q.next) d0 - 1 by omega], ?_, ?_, ?_⟩)
        · rw [hin m hm, if_pos (by omega)]
        · rw [h1, hper0, hin 0 (by omega), if_neg (by omega)]
        · rw [h1, hper0, Nat.add_zero]; exact hs.at_
      · by_cases h2 : m + 1 = jb
        · refine .inr (.inl ⟨by rw [show m = jb - 1 by omega], ?_, ?_, ?_⟩)
          · rw [hin m hm, if_neg (by omega)]
          · rw [h2, hin jb bl, if_pos (by omega)]
          · rw [h2]; exact hs.bt
        · refine .inl ⟨?_, fun e2 => ?_, fun e2 => ?_⟩
          · rw [hin m hm, hin (m + 1) (by omega)]
            by_cases h3 : jb ≤ m
            · rw [if_pos h3, if_pos (by omega)]
            · rw [if_neg h3, if_neg (by omega)]
          · have := hinj m (jb - 1) hm (by omega) e2; omega
          · have := hinj m _ hm (by omega) e2; omega
    · have he : (Sp.faces2 q).1.getD (Sp.fn (Sp.behindL q.next) d) 0 = (Sp.faces2 q).1.getD d 0 := Sp.faces_along h.link hd 1
      refine .inl ⟨?_, fun e2 => e (by rw [e2]; exact hfa _), fun e2 => e (by rw [e2]; exact hfa _)⟩
      rw [hout d hd e, hout _ (h.mp d hd) (by rw [he]; exact e), he]
  refine ⟨?_, hout, fun i hi e => ?_, hfK, hlF, ⟨_, hxl 0, by rw [hin 0 (by omega), if_neg (by omega)]⟩, ⟨_, hxl jb, by rw [hin jb bl, if_pos (by omega)]⟩, fun d hd => ?_, ?_⟩
  · unfold Sp.splitL
    rw [Sp.splitAt_len, hF]
  · obtain ⟨m, hm, rfl⟩ := hcov i hi e
    rw [hin m hm]
    by_cases h3 : jb ≤ m
    · rw [if_pos h3]; exact .inr rfl
    · rw [if_neg h3]; exact .inl rfl
  · rcases hdiff d hd with e | e | e
    · exact .inl e.1
    · exact .inr (.inl e.2.2)
    · exact .inr (.inr e.2.2)
  · have hne : itf (Sp.fn (Sp.behindL q.next)) d0 (a + (jb - 1)) ≠ itf (Sp.fn (Sp.behindL q.next)) d0 (a + (Sp.per (Sp.behindL q.next) d0 - 1)) := fun e => by
      have := hinj (jb - 1) _ (by omega) (by omega) e
      omega
    rw [cnt_two _ hne q.tail.length fun i hi => ?_, if_pos (hxl _), if_pos (hxl _)]
    rcases hdiff i hi with e | e | e
    · rw [bne_iff_ne]
      refine ⟨fun h1 => absurd e.1 h1, fun h1 => ?_⟩
      rcases h1 with h1 | h1
      · exact absurd h1 e.2.1
      · exact absurd h1 e.2.2
    · rw [bne_iff_ne, e.2.1, e.2.2.1]
      exact ⟨fun _ => .inl e.1, fun _ h2 => by omega⟩
    · rw [bne_iff_ne, e.2.1, e.2.2.1]
      exact ⟨fun _ => .inr e.1, fun _ h2 => by omega⟩
end Go.Proofs.Ytoegjnolccabjaa


/- The rise about a vertex sums to 0 but for both ends. -/
namespace Go.Proofs.Ytoegjnolccabjaa

def Sp.sumN (g : Nat → Int) : Nat → Int
  | 0 => 0
  | n + 1 => Sp.sumN g n + g n
theorem Sp.sumN_congr {g h : Nat → Int} : ∀ n, (∀ i, i < n → g i = h i) → Sp.sumN g n = Sp.sumN h n
  | 0, _ => rfl
  | n + 1, e => by rw [Sp.sumN, Sp.sumN, Sp.sumN_congr n (fun i hi => e i (by omega)), e n (by omega)]
theorem Sp.sumN_add (g h : Nat → Int) : ∀ n, Sp.sumN (fun i => g i + h i) n = Sp.sumN g n + Sp.sumN h n
  | 0 => rfl
  | n + 1 => by rw [Sp.sumN, Sp.sumN, Sp.sumN, Sp.sumN_add g h n]; omega
theorem Sp.sumN_sub (g h : Nat → Int) : ∀ n, Sp.sumN (fun i => g i - h i) n = Sp.sumN g n - Sp.sumN h n
  | 0 => rfl
  | n + 1 => by rw [Sp.sumN, Sp.sumN, Sp.sumN, Sp.sumN_sub g h n]; omega
theorem Sp.sumN_zero : ∀ n, Sp.sumN (fun _ => 0) n = 0
  | 0 => rfl
  | n + 1 => by rw [Sp.sumN, Sp.sumN_zero n]; rfl
theorem Sp.sumN_one (k : Nat) (x : Int) : ∀ n, Sp.sumN (fun i => if i = k then x else 0) n = if k < n then x else 0
  | 0 => by rw [if_neg (Nat.not_lt_zero _)]; rfl
  | n + 1 => by
    rw [Sp.sumN, Sp.sumN_one k x n]
    by_cases h : k < n
    · rw [if_pos h, if_neg (by omega), if_pos (by omega)]; omega
    · rw [if_neg h]
      by_cases h2 : n = k
      · rw [if_pos h2, if_pos (by omega)]; omega
      · rw [if_neg h2, if_neg (by omega)]; rfl
theorem Sp.sumN_comm (g : Nat → Nat → Int) (m : Nat) : ∀ n, Sp.sumN (fun i => Sp.sumN (fun j => g i j) m) n = Sp.sumN (fun j => Sp.sumN (fun i => g i j) n) m
  | 0 => (Sp.sumN_zero m).symm
  | n + 1 => by
    rw [Sp.sumN, Sp.sumN_comm g m n, ← Sp.sumN_add]
    rfl
theorem Sp.sumN_perm {n : Nat} {f : Nat → Nat} (hm : ∀ i, i < n → f i < n) (hi : ∀ i j, i < n → j < n → f i = f j → i = j) (ho : ∀ j, j < n → ∃ i, i < n ∧ f i = j) (g : Nat → Int) : Sp.sumN (fun i => g (f i)) n = Sp.sumN g n := by
  have e1 : Sp.sumN (fun i => g (f i)) n = Sp.sumN (fun i => Sp.sumN (fun j => if j = f i then g (f i) else 0) n) n :=
    Sp.sumN_congr n fun i h => by rw [Sp.sumN_one, if_pos (hm i h)]
  rw [e1, Sp.sumN_comm]
  refine Sp.sumN_congr n fun j hj => ?_
  obtain ⟨k, hk, e⟩ := ho j hj
  have e2 : Sp.sumN (fun i => if j = f i then g (f i) else 0) n = Sp.sumN (fun i => if i = k then g j else 0) n :=
    Sp.sumN_congr n fun i h => by
      by_cases h2 : i = k
      · subst h2; rw [if_pos e.symm, if_pos rfl, e]
      · rw [if_neg (fun h3 => h2 (hi i k h hk (by rw [e, h3]))), if_neg h2]
  rw [e2, Sp.sumN_one, if_pos hk]
theorem Sp.DualQ.diff {q : Sp.Net} (h : Sp.DualQ q) {s t : Int} {f d0 a jb : Nat} (hs : Sp.SplitQ q s t f d0 a jb) : ∃ d1 d2, d1 < q.tail.length ∧ d2 < q.tail.length ∧ d1 ≠ d2 ∧ ∀ d, d < q.tail.length → ((Sp.splitL q f d0 a jb).getD d 0 = (Sp.splitL q f d0 a jb).getD (Sp.fn (Sp.behindL q.next) d) 0 ∧ d ≠ d1 ∧ d ≠ d2) ∨ (d = d1 ∧ (Sp.splitL q f d0 a jb).getD d 0 = (f : Int) ∧ (Sp.splitL q f d0 a jb).getD (Sp.fn (Sp.behindL q.next) d) 0 = ((max (Sp.faces2 q).2 1 : Nat) : Int) ∧ q.tail.getD (Sp.fn (Sp.behindL q.next) d) 0 = t) ∨ (d = d2 ∧ (Sp.splitL q f d0 a jb).getD d 0 = ((max (Sp.faces2 q).2 1 : Nat) : Int) ∧ (Sp.splitL q f d0 a jb).getD (Sp.fn (Sp.behindL q.next) d) 0 = (f : Int) ∧ q.tail.getD (Sp.fn (Sp.behindL q.next) d) 0 = s) := by
  have hF := Sp.faces2_len q
  have hb := h.fp
  have hlb := h.bl
  have hdb : d0 < (Sp.behindL q.next).length := by rw [hlb]; exact hs.d0l
  have hk := h.k1
  have hK : max (Sp.faces2 q).2 1 = (Sp.faces2 q).2 := by omega
  have hxa : itf (Sp.fn (Sp.behindL q.next)) d0 a < (Sp.behindL q.next).length := hb.fnP.it hdb a
  have hper := per_along hb hdb a
  have hxl : ∀ m, itf (Sp.fn (Sp.behindL q.next)) d0 (a + m) < q.tail.length := fun m => by have := hb.fnP.it hdb (a + m); rw [hlb] at this; exact this
  have hxF : ∀ m, itf (Sp.fn (Sp.behindL q.next)) d0 (a + m) < (Sp.faces2 q).1.length := fun m => by rw [hF]; exact hxl m
  have hfa : ∀ m, (Sp.faces2 q).1.getD (itf (Sp.fn (Sp.behindL q.next)) d0 (a + m)) 0 = (f : Int) := fun m => by rw [Sp.faces_along h.link hs.d0l, hs.d0f]
  have hinj : ∀ m n, m < Sp.per (Sp.behindL q.next) d0 → n < Sp.per (Sp.behindL q.next) d0 → itf (Sp.fn (Sp.behindL q.next)) d0 (a + m) = itf (Sp.fn (Sp.behindL q.next)) d0 (a + n) → m = n := fun m n hm hn e => by
    rw [itf_add, itf_add] at e
    rcases Nat.lt_trichotomy m n with h1 | h1 | h1
    · exact absurd e (itf_apart hb hxa h1 (by rw [hper]; exact hn))
    · exact h1
    · exact absurd e.symm (itf_apart hb hxa h1 (by rw [hper]; exact hm))
  have hcov : ∀ i, i < q.tail.length → (Sp.faces2 q).1.getD i 0 = (f : Int) → ∃ m, m < Sp.per (Sp.behindL q.next) d0 ∧ itf (Sp.fn (Sp.behindL q.next)) d0 (a + m) = i := fun i hi e => by
    obtain ⟨m, h1, h2⟩ := Sp.faces_orb h.link (d := itf (Sp.fn (Sp.behindL q.next)) d0 a) (by rw [← hlb]; exact hxa) hi (by rw [e, ← hfa 0, Nat.add_zero])
    rw [hper] at h1
    exact ⟨m, h1, by rw [itf_add]; exact h2⟩
  have hin : ∀ m, m < Sp.per (Sp.behindL q.next) d0 → (Sp.splitL q f d0 a jb).getD (itf (Sp.fn (Sp.behindL q.next)) d0 (a + m)) 0 = if jb ≤ m then ((max (Sp.faces2 q).2 1 : Nat) : Int) else (f : Int) := fun m hm =>
    Sp.splitAt_in (x := fun j => itf (Sp.fn (Sp.behindL q.next)) d0 (a + j)) hxF hinj _ (Nat.le_refl _) m hm
  have hout : ∀ i, i < q.tail.length → (Sp.faces2 q).1.getD i 0 ≠ (f : Int) → (Sp.splitL q f d0 a jb).getD i 0 = (Sp.faces2 q).1.getD i 0 := fun i hi e =>
    Sp.splitAt_out (x := fun j => itf (Sp.fn (Sp.behindL q.next)) d0 (a + j)) hxF _ fun m _ e2 => e (by rw [← e2]; exact hfa m)
  have hper0 : itf (Sp.fn (Sp.behindL q.next)) d0 (a + Sp.per (Sp.behindL q.next) d0) = itf (Sp.fn (Sp.behindL q.next)) d0 (a + 0) := by
    have := itf_mod hb hdb (a + Sp.per (Sp.behindL q.next) d0)
    rw [← this, Nat.add_mod_right, itf_mod hb hdb, Nat.add_zero]
  have hfn : ∀ m, Sp.fn (Sp.behindL q.next) (itf (Sp.fn (Sp.behindL q.next)) d0 (a + m)) = itf (Sp.fn (Sp.behindL q.next)) d0 (a + (m + 1)) := fun m => rfl
  have hlF : ∀ i, i < q.tail.length → (Sp.faces2 q).1.getD i 0 < ((max (Sp.faces2 q).2 1 : Nat) : Int) := fun i hi => by rw [hK]; exact (h.fb hi).2
  have hfK : f < max (Sp.faces2 q).2 1 := by have := hlF d0 hs.d0l; rw [hs.d0f] at this; omega
  have b0 := hs.b0
  have bl := hs.bl
  have hdiff : ∀ d, d < q.tail.length → ((Sp.splitL q f d0 a jb).getD d 0 = (Sp.splitL q f d0 a jb).getD (Sp.fn (Sp.behindL q.next) d) 0 ∧ d ≠ itf (Sp.fn (Sp.behindL q.next)) d0 (a + (jb - 1)) ∧ d ≠ itf (Sp.fn (Sp.behindL q.next)) d0 (a + (Sp.per (Sp.behindL q.next) d0 - 1))) ∨ (d = itf (Sp.fn (Sp.behindL q.next)) d0 (a + (jb - 1)) ∧ (Sp.splitL q f d0 a jb).getD d 0 = (f : Int) ∧ (Sp.splitL q f d0 a jb).getD (Sp.fn (Sp.behindL q.next) d) 0 = ((max (Sp.faces2 q).2 1 : Nat) : Int) ∧ q.tail.getD (Sp.fn (Sp.behindL q.next) d) 0 = t) ∨ (d = itf (Sp.fn (Sp.behindL q.next)) d0 (a + (Sp.per (Sp.behindL q.next) d0 - 1)) ∧ (Sp.splitL q f d0 a jb).getD d 0 = ((max (Sp.faces2 q).2 1 : Nat) : Int) ∧ (Sp.splitL q f d0 a jb).getD (Sp.fn (Sp.behindL q.next) d) 0 = (f : Int) ∧ q.tail.getD (Sp.fn (Sp.behindL q.next) d) 0 = s) := by
    intro d hd
    by_cases e : (Sp.faces2 q).1.getD d 0 = (f : Int)
    · obtain ⟨m, hm, rfl⟩ := hcov d hd e
      rw [hfn]
      by_cases h1 : m + 1 = Sp.per (Sp.behindL q.next) d0
      · refine .inr (.inr ⟨by rw [show m = Sp.per (Sp.behindL q.next) d0 - 1 by omega], ?_, ?_, ?_⟩)
        · rw [hin m hm, if_pos (by omega)]
        · rw [h1, hper0, hin 0 (by omega), if_neg (by omega)]
        · rw [h1, hper0, Nat.add_zero]; exact hs.at_
      · by_cases h2 : m + 1 = jb
        · refine .inr (.inl ⟨by rw [show m = jb - 1 by omega], ?_, ?_, ?_⟩)
          · rw [hin m hm, if_neg (by omega)]
          · rw [h2, hin jb bl, if_pos (by omega)]
          · rw [h2]; exact hs.bt
        · refine .inl ⟨?_, fun e2 => ?_, fun e2 => ?_⟩
          · rw [hin m hm, hin (m + 1) (by omega)]
            by_cases h3 : jb ≤ m
            · rw [if_pos h3, if_pos (by omega)]
            · rw [if_neg h3, if_neg (by omega)]
          · have := hinj m (jb - 1) hm (by omega) e2; omega
          · have := hinj m _ hm (by omega) e2; omega
    · have he : (Sp.faces2 q).1.getD (Sp.fn (Sp.behindL q.next) d) 0 = (Sp.faces2 q).1.getD d 0 := Sp.faces_along h.link hd 1
      refine .inl ⟨?_, fun e2 => e (by rw [e2]; exact hfa _), fun e2 => e (by rw [e2]; exact hfa _)⟩
      rw [hout d hd e, hout _ (h.mp d hd) (by rw [he]; exact e), he]
  exact ⟨_, _, hxl _, hxl _, fun e => by
    have := hinj (jb - 1) _ (by omega) (by omega) e
    omega, hdiff⟩
theorem Sp.DualQ.tailN {q : Sp.Net} (h : Sp.DualQ q) {d : Nat} (hd : d < q.tail.length) : q.tail.getD (Sp.fn q.next d) 0 = q.tail.getD d 0 := by
  have h1 := h.pl.vert.inv d hd
  have hb : ∀ i, i < q.tail.length → 0 ≤ q.tail.getD i 0 := fun i hi => by
    rw [List.getD_eq_getElem?_getD, List.getElem?_eq_getElem hi]
    exact (h.tb _ (List.getElem_mem hi)).1
  have h2 := hb _ (h.mpN d hd)
  have h3 := hb d hd
  omega
end Go.Proofs.Ytoegjnolccabjaa


/- The rise is a flow: about a vertex it sums to 0 but for both ends. -/
namespace Go.Proofs.Ytoegjnolccabjaa

theorem Sp.perm_onto {st : List Int} (hp : Sp.Perm st) {d : Nat} (hd : d < st.length) : ∃ i, i < st.length ∧ Sp.fn st i = d := by
  have h := hp.per hd
  refine ⟨itf (Sp.fn st) d (Sp.per st d - 1), hp.fnP.it hd _, ?_⟩
  show itf (Sp.fn st) d (Sp.per st d - 1 + 1) = d
  rw [show Sp.per st d - 1 + 1 = Sp.per st d by omega]
  have h2 := itf_mod hp hd (Sp.per st d)
  rw [Nat.mod_self] at h2
  exact h2.symm
theorem Sp.DualQ.vsum {q : Sp.Net} (h : Sp.DualQ q) {s t : Int} {f d0 a jb : Nat} (hs : Sp.SplitQ q s t f d0 a jb) (P : List Int) (u : Int) :
    Sp.sumN (fun d => if q.tail.getD d 0 = u then Sp.rise (Sp.splitL q f d0 a jb) P d else 0) q.tail.length = (if t = u then P.getD f 0 - P.getD (max (Sp.faces2 q).2 1) 0 else 0) + (if s = u then P.getD (max (Sp.faces2 q).2 1) 0 - P.getD f 0 else 0) := by
  obtain ⟨d1, d2, hd1, hd2, D12, hdf⟩ := h.diff hs
  have hhv := h.halves hs
  have hfK := hhv.fK
  generalize Sp.splitL q f d0 a jb = L at *
  generalize max (Sp.faces2 q).2 1 = K at *
  have hnl : q.next.length = q.tail.length := h.link.nx
  have ev := h.link.ev
  have hoo : ∀ d, d < q.tail.length → Sp.oth d < q.tail.length := fun d hd => oth_lt hd ev
  have hnx : ∀ d, d < q.tail.length → Sp.fn (Sp.behindL q.next) (Sp.oth d) = Sp.fn q.next d := fun d hd => by
    rw [fn_behind _ _ (by rw [hnl]; exact hoo d hd), oth_oth]
  -- what next leads to instead of the darts themselves
  have hB : Sp.sumN (fun d => if q.tail.getD d 0 = u then P.getD (L.getD d 0).toNat 0 else 0) q.tail.length = Sp.sumN (fun d => if q.tail.getD d 0 = u then P.getD (L.getD (Sp.fn q.next d) 0).toNat 0 else 0) q.tail.length := by
    have hp := Sp.sumN_perm (n := q.tail.length) (f := Sp.fn q.next) h.mpN (fun i j hi hj e => h.link.pm.fnP.inj i j (by rw [hnl]; exact hi) (by rw [hnl]; exact hj) e) (fun j hj => by
      obtain ⟨i, hi, e⟩ := Sp.perm_onto h.link.pm (d := j) (by rw [hnl]; exact hj)
      exact ⟨i, by rw [← hnl]; exact hi, e⟩) (fun d => if q.tail.getD d 0 = u then P.getD (L.getD d 0).toNat 0 else 0)
    rw [← hp]
    exact Sp.sumN_congr _ fun d hd => by simp only [h.tailN hd]
  have hA : Sp.sumN (fun d => if q.tail.getD d 0 = u then Sp.rise L P d else 0) q.tail.length = Sp.sumN (fun d => if q.tail.getD d 0 = u then P.getD (L.getD (Sp.oth d) 0).toNat 0 - P.getD (L.getD (Sp.fn q.next d) 0).toNat 0 else 0) q.tail.length := by
    have e1 : Sp.sumN (fun d => if q.tail.getD d 0 = u then Sp.rise L P d else 0) q.tail.length = Sp.sumN (fun d => (if q.tail.getD d 0 = u then P.getD (L.getD (Sp.oth d) 0).toNat 0 else 0) - (if q.tail.getD d 0 = u then P.getD (L.getD d 0).toNat 0 else 0)) q.tail.length := Sp.sumN_congr _ fun d _ => by
      unfold Sp.rise
      split <;> omega
    rw [e1, Sp.sumN_sub, hB, ← Sp.sumN_sub]
    exact Sp.sumN_congr _ fun d _ => by split <;> omega
  rw [hA]
  -- over the others
  have hp := Sp.sumN_perm (n := q.tail.length) (f := Sp.oth) hoo (fun i j _ _ e => by rw [← oth_oth i, e, oth_oth]) (fun j hj => ⟨Sp.oth j, hoo j hj, oth_oth j⟩) (fun d => if q.tail.getD d 0 = u then P.getD (L.getD (Sp.oth d) 0).toNat 0 - P.getD (L.getD (Sp.fn q.next d) 0).toNat 0 else 0)
  rw [← hp]
  have e2 : Sp.sumN (fun i => if q.tail.getD (Sp.oth i) 0 = u then P.getD (L.getD (Sp.oth (Sp.oth i)) 0).toNat 0 - P.getD (L.getD (Sp.fn q.next (Sp.oth i)) 0).toNat 0 else 0) q.tail.length = Sp.sumN (fun i => (if i = d1 then (if t = u then P.getD f 0 - P.getD K 0 else 0) else 0) + (if i = d2 then (if s = u then P.getD K 0 - P.getD f 0 else 0) else 0)) q.tail.length := Sp.sumN_congr _ fun e he => by
    have ho := hoo e he
    have e3 : Sp.fn q.next (Sp.oth e) = Sp.fn (Sp.behindL q.next) e := by rw [← hnx _ ho, oth_oth]
    have e4 : q.tail.getD (Sp.oth e) 0 = q.tail.getD (Sp.fn (Sp.behindL q.next) e) 0 := by rw [← e3, h.tailN ho]
    simp only [e3, e4, oth_oth]
    rcases hdf e he with ⟨g1, g2, g3⟩ | ⟨g1, g2, g3, g4⟩ | ⟨g1, g2, g3, g4⟩
    · rw [g1, if_neg g2, if_neg g3]
      split <;> omega
    · have g5 : e ≠ d2 := fun g => D12 (g1.symm.trans g)
      rw [if_pos g1, if_neg g5, g2, g3, g4, Int.toNat_natCast, Int.toNat_natCast]
      omega
    · have g5 : e ≠ d1 := fun g => D12 (g.symm.trans g1)
      rw [if_neg g5, if_pos g1, g2, g3, g4, Int.toNat_natCast, Int.toNat_natCast]
      omega
  rw [e2, Sp.sumN_add, Sp.sumN_one, Sp.sumN_one, if_pos hd1, if_pos hd2]
end Go.Proofs.Ytoegjnolccabjaa


/- What RimFalls asks of the rise: no more than the darts hold; both ends' sums. -/
namespace Go.Proofs.Ytoegjnolccabjaa

theorem Sp.rowD {D : Nat → Int} {k x : Nat} (hx : x < k) : ((List.range k).map D).getD x 0 = D x := by
  rw [List.getD_eq_getElem?_getD, List.getElem?_map, List.getElem?_range hx]
  rfl
theorem Sp.rise_oth (F P : List Int) (d : Nat) : Sp.rise F P (Sp.oth d) = - Sp.rise F P d := by
  unfold Sp.rise
  rw [oth_oth]
  omega
theorem Sp.RimQ.rise_le {q : Sp.Net} (h : Sp.RimQ q) {s t : Int} {f d0 a jb : Nat} (hs : Sp.SplitQ q s t f d0 a jb) {D : Nat → Int} (hD : Sp.Short 1152921504606846976 (Sp.rimR (Sp.splitL q f d0 a jb) q.cap q.tail.length) f (Sp.landK q + 1) D) (hb : ∀ v, v < Sp.landK q + 1 → D v ≠ 1152921504606846976 → D v < 1152921504606846976) {d : Nat} (hd : d < q.tail.length) :
    Sp.rise (Sp.splitL q f d0 a jb) ((List.range (Sp.landK q + 1)).map D) d ≤ q.cap.getD d 0 := by
  have r1 := h.rng hs hd
  have r2 := h.rng hs (oth_lt hd h.link.ev)
  have hx : ((Sp.splitL q f d0 a jb).getD d 0).toNat < Sp.landK q + 1 := by omega
  have hy : ((Sp.splitL q f d0 a jb).getD (Sp.oth d) 0).toNat < Sp.landK q + 1 := by omega
  unfold Sp.rise
  rw [Sp.rowD hx, Sp.rowD hy]
  have hc := (h.capd d).1
  by_cases e : D ((Sp.splitL q f d0 a jb).getD d 0).toNat = 1152921504606846976
  · have : D ((Sp.splitL q f d0 a jb).getD (Sp.oth d) 0).toNat ≤ 1152921504606846976 := by
      by_cases e2 : D ((Sp.splitL q f d0 a jb).getD (Sp.oth d) 0).toNat = 1152921504606846976
      · omega
      · have := hb _ hy e2; omega
    omega
  · have h3 := (hD.arc (Sp.rimA (Sp.splitL q f d0 a jb) q.cap d) (Sp.mem_rimR.2 ⟨d, hd, rfl⟩) e).2
    have h4 : D ((Sp.splitL q f d0 a jb).getD (Sp.oth d) 0).toNat ≤ D ((Sp.splitL q f d0 a jb).getD d 0).toNat + q.cap.getD d 0 := h3
    omega
theorem Sp.DualQ.value {q : Sp.Net} (h : Sp.DualQ q) {s t : Int} {f d0 a jb : Nat} (hs : Sp.SplitQ q s t f d0 a jb) (hst : s ≠ t) (hf : f < Sp.landK q) {D : Nat → Int} (h0 : D f = 0) :
    Sp.sumN (fun d => if q.tail.getD d 0 = s then Sp.rise (Sp.splitL q f d0 a jb) ((List.range (Sp.landK q + 1)).map D) d else 0) q.tail.length = D (Sp.landK q) ∧
    Sp.sumN (fun d => if q.tail.getD d 0 = t then Sp.rise (Sp.splitL q f d0 a jb) ((List.range (Sp.landK q + 1)).map D) d else 0) q.tail.length = - D (Sp.landK q) := by
  have hk : max (Sp.faces2 q).2 1 = Sp.landK q := rfl
  constructor
  · rw [h.vsum hs, hk, if_neg (fun e => hst e.symm), if_pos rfl, Sp.rowD (Nat.lt_succ_self _), Sp.rowD (by omega), h0]
    omega
  · rw [h.vsum hs, hk, if_pos rfl, if_neg hst, Sp.rowD (Nat.lt_succ_self _), Sp.rowD (by omega), h0]
    omega
end Go.Proofs.Ytoegjnolccabjaa


/- No height is far: the split dual hangs together. -/
namespace Go.Proofs.Ytoegjnolccabjaa

theorem Sp.DualQ.near {q : Sp.Net} (h : Sp.DualQ q) (hr : Sp.RimQ q) {s t : Int} {f d0 a jb : Nat} (hs : Sp.SplitQ q s t f d0 a jb) (hst : s ≠ t) {D : Nat → Int} (hD : Sp.Short 1152921504606846976 (Sp.rimR (Sp.splitL q f d0 a jb) q.cap q.tail.length) f (Sp.landK q + 1) D) :
    ∀ v, v < Sp.landK q + 1 → D v ≠ 1152921504606846976 := by
  have hv := h.halves hs
  have hk : max (Sp.faces2 q).2 1 = Sp.landK q := rfl
  have ev := h.link.ev
  have hstep : ∀ d, d < q.tail.length → D ((Sp.splitL q f d0 a jb).getD d 0).toNat ≠ 1152921504606846976 → D ((Sp.splitL q f d0 a jb).getD (Sp.oth d) 0).toNat ≠ 1152921504606846976 := fun d hd hn =>
    (hD.arc (Sp.rimA (Sp.splitL q f d0 a jb) q.cap d) (Sp.mem_rimR.2 ⟨d, hd, rfl⟩) hn).1
  have hf0 : D f ≠ 1152921504606846976 := by rw [hD.src]; decide
  have hfk := hr.flt hs
  -- b is reached: else the row of what is far would be a rise of nothing
  have hK : D (Sp.landK q) ≠ 1152921504606846976 := by
    have hz := h.vsum hs ((List.range (Sp.landK q + 1)).map fun v => if D v = 1152921504606846976 then 1 else 0) s
    rw [hk, if_neg (fun e => hst e.symm), if_pos rfl, Sp.rowD (Nat.lt_succ_self _), Sp.rowD (by omega), if_neg hf0] at hz
    have e0 : Sp.sumN (fun d => if q.tail.getD d 0 = s then Sp.rise (Sp.splitL q f d0 a jb) ((List.range (Sp.landK q + 1)).map fun v => if D v = 1152921504606846976 then 1 else 0) d else 0) q.tail.length = 0 := by
      refine (Sp.sumN_congr _ fun d hd => ?_).trans (Sp.sumN_zero q.tail.length)
      have r1 := hr.rng hs hd
      have r2 := hr.rng hs (oth_lt hd ev)
      have h1 := hstep d hd
      have h2 := hstep (Sp.oth d) (oth_lt hd ev)
      rw [oth_oth] at h2
      have e : Sp.rise (Sp.splitL q f d0 a jb) ((List.range (Sp.landK q + 1)).map fun v => if D v = 1152921504606846976 then 1 else 0) d = 0 := by
        unfold Sp.rise
        rw [Sp.rowD (by omega), Sp.rowD (by omega)]
        by_cases g : D ((Sp.splitL q f d0 a jb).getD d 0).toNat = 1152921504606846976
        · rw [if_pos g, if_pos (Classical.byContradiction fun g2 => h2 g2 g)]; rfl
        · rw [if_neg g, if_neg (h1 g)]; rfl
      rw [e]
      split <;> rfl
    rw [e0] at hz
    intro g
    rw [if_pos g] at hz
    omega
  -- and so is every other face
  have hp := h.plain.conn
  have hnear : ∀ d, d < q.tail.length → D ((Sp.faces2 q).1.getD d 0).toNat ≠ 1152921504606846976 → D ((Sp.faces2 q).1.getD (Sp.oth d) 0).toNat ≠ 1152921504606846976 := fun d hd hn => by
    have ho := oth_lt hd ev
    have h1 : D ((Sp.splitL q f d0 a jb).getD d 0).toNat ≠ 1152921504606846976 := by
      by_cases g : (Sp.faces2 q).1.getD d 0 = (f : Int)
      · rcases hv.inn d hd g with e | e
        · rw [e, Int.toNat_natCast]; exact hf0
        · rw [e, Int.toNat_natCast]; exact hK
      · rw [hv.out d hd g]; exact hn
    have h2 := hstep d hd h1
    by_cases g : (Sp.faces2 q).1.getD (Sp.oth d) 0 = (f : Int)
    · rw [g, Int.toNat_natCast]; exact hf0
    · rw [hv.out _ ho g] at h2; exact h2
  have hlen : (Sp.faces2 q).1.length = q.tail.length := Sp.faces2_len q
  have hall : ∀ u v : Int, Sp.Reach (Sp.faces2 q).1 u v → D u.toNat ≠ 1152921504606846976 → D v.toNat ≠ 1152921504606846976 := fun u v hR hu =>
    Sp.Reach.ind (p := fun v => D v.toNat ≠ 1152921504606846976) hu (fun d hd _ hn => hnear d (by rw [← hlen]; exact hd) hn) hR
  intro v hv2
  by_cases e : v = Sp.landK q
  · rw [e]; exact hK
  · have hvK : v < Sp.landK q := by omega
    have c1 : Sp.Reach (Sp.faces2 q).1 0 (v : Int) := hp (v : Int) (by omega) (by show (v : Int) < ((max (Sp.faces2 q).2 1 : Nat) : Int); rw [hk]; omega)
    have c2 : Sp.Reach (Sp.faces2 q).1 0 (f : Int) := hp (f : Int) (by omega) (by show (f : Int) < ((max (Sp.faces2 q).2 1 : Nat) : Int); rw [hk]; omega)
    have c3 := (c2.symm (by rw [hlen]; exact ev)).trans c1
    have := hall _ _ c3 (by rw [Int.toNat_natCast]; exact hf0)
    rwa [Int.toNat_natCast] at this
end Go.Proofs.Ytoegjnolccabjaa


/- A flow (W4); what rim tells is one. -/
namespace Go.Proofs.Ytoegjnolccabjaa
open Go Go.RowKit

/-- What runs from s to t: x comes out of s, x comes to t, elsewhere nothing is left; no dart has more than it holds. -/
structure Sp.FlowQ (q : Sp.Net) (s t : Int) (L : List Int) (x : Int) : Prop where
  len : L.length = q.tail.length
  op : ∀ d, d < q.tail.length → L.getD (Sp.oth d) 0 = - L.getD d 0
  le : ∀ d, d < q.tail.length → L.getD d 0 ≤ q.cap.getD d 0
  src : Sp.sumN (fun d => if q.tail.getD d 0 = s then L.getD d 0 else 0) q.tail.length = x
  snk : Sp.sumN (fun d => if q.tail.getD d 0 = t then L.getD d 0 else 0) q.tail.length = -x
  mid : ∀ u, u ≠ s → u ≠ t → Sp.sumN (fun d => if q.tail.getD d 0 = u then L.getD d 0 else 0) q.tail.length = 0
theorem Sp.dualQ_pos (ns : List Int) : 0 < (Sp.plane ns).tail.length → Sp.DualQ (Sp.plane ns) := fun h => by
  rcases Sp.dualQ_plane ns with e | e
  · rw [e] at h; exact absurd h (Nat.not_lt_zero _)
  · exact e
theorem Sp.RimIs.flow {q : Sp.Net} (hd : 0 < q.tail.length → Sp.DualQ q) (hq : Sp.RimQ q) {s t : Int} {P L : List Int} {x : Int} (h : Sp.RimIs q s t P L x) (h0 : Sp.rimE q s t = 0) :
    Sp.FlowQ q s t L x ∧ 0 ≤ x ∧ x < 1152921504606846976 := by
  rcases h with ⟨he, -⟩ | ⟨-, h0, h1, hst, hE, f, d0, a, jb, D, hs, hD, rfl, rfl, rfl⟩
  · exact absurd h0 he
  · have hq2 := hd (by have := hs.d0l; omega)
    have hkk : max (Sp.faces2 q).2 1 = Sp.landK q := rfl
    have hfK : f < Sp.landK q := by rw [← hkk]; exact (hq2.halves hs).fK
    have hL : ∀ d, d < q.tail.length → ((List.range q.tail.length).map (Sp.rise (Sp.splitL q f d0 a jb) ((List.range (Sp.landK q + 1)).map D))).getD d 0 = Sp.rise (Sp.splitL q f d0 a jb) ((List.range (Sp.landK q + 1)).map D) d := fun d h => Sp.rowD (D := Sp.rise (Sp.splitL q f d0 a jb) ((List.range (Sp.landK q + 1)).map D)) h
    have hS : ∀ u, Sp.sumN (fun d => if q.tail.getD d 0 = u then ((List.range q.tail.length).map (Sp.rise (Sp.splitL q f d0 a jb) ((List.range (Sp.landK q + 1)).map D))).getD d 0 else 0) q.tail.length = Sp.sumN (fun d => if q.tail.getD d 0 = u then Sp.rise (Sp.splitL q f d0 a jb) ((List.range (Sp.landK q + 1)).map D) d else 0) q.tail.length := fun u => Sp.sumN_congr _ fun d hdl => by rw [hL d hdl]
    have hV := hq2.value hs hst hfK (D := D) hD.1.src
    have hN := hq2.near hq hs hst hD.1
    refine ⟨⟨by rw [List.length_map, List.length_range], fun d hdl => ?_, fun d hdl => ?_, ?_, ?_, fun u us ut => ?_⟩, Sp.short_nn hD.1 (hq.posR _ _) (by omega), hD.2 _ (by omega) (hN _ (by omega))⟩
    · rw [hL d hdl, hL _ (oth_lt hdl hq.link.ev), Sp.rise_oth]
    · rw [hL d hdl]
      exact hq.rise_le hs hD.1 hD.2 hdl
    · rw [hS, hV.1]
    · rw [hS, hV.2]
    · rw [hS, hq2.vsum hs _ u, if_neg (fun e => ut e.symm), if_neg (fun e => us e.symm)]
      rfl
/-- No dart has less than its other's hold, below 0. -/
theorem Sp.FlowQ.ge {q : Sp.Net} {s t : Int} {L : List Int} {x : Int} (h : Sp.FlowQ q s t L x) (hev : q.tail.length % 2 = 0) {d : Nat} (hd : d < q.tail.length) : - q.cap.getD (Sp.oth d) 0 ≤ L.getD d 0 := by
  have h1 := h.le _ (oth_lt hd hev)
  rw [h.op d hd] at h1
  omega
end Go.Proofs.Ytoegjnolccabjaa


/- Known arcs: their ways. -/
namespace Go.Proofs.Ytoegjnolccabjaa
open Go Go.RowKit

/-- A step of the way: the first arc that may go on. -/
theorem Sp.WayIs.step {L : List Sp.Arc} {y : Nat → Int} {t v : Nat} {W : List Nat} (h : Sp.WayIs L y t v W) (hv : v ≠ t) {i : Nat} (hi : Sp.tt L y v i = true) (hk : ∀ k, k < i → Sp.tt L y v k = false) : ∃ r, W = i :: r ∧ Sp.WayIs L y t (L.getD i Sp.arc0).t r := by
  cases W with
  | nil => exact absurd h hv
  | cons j r =>
    obtain ⟨-, h2, h3, h4, h5⟩ := h
    have e : j = i := by
      rcases Nat.lt_trichotomy j i with e | e | e
      · rw [hk j e] at h3; cases h3
      · exact e
      · rw [h4 i e] at hi; cases hi
    subst e
    exact ⟨r, rfl, h5⟩
def Sp.L0 : List Sp.Arc := [⟨0, 1, 5⟩, ⟨1, 2, 2⟩, ⟨0, 2, 9⟩]
end Go.Proofs.Ytoegjnolccabjaa


