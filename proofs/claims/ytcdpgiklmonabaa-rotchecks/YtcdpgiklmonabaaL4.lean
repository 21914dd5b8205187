/- What the proof needs, part 4. -/
import Derived.Test.YtcdpgiklmonabaaL3
/- The second law's plane nets as a function of the numbers; what each of them keeps. -/
namespace Go.Proofs.Ytcdpgiklmonabaa
open Go Go.RowKit

def Sp.sameL (f nx : List Int) (e a : Nat) : List Nat := (List.range a).filter fun x => f.getD (nx.getD x 0).toNat 0 == f.getD (nx.getD e 0).toNat 0
/-- A new edge whose first dart is laid behind e: to a new vertex, or across a face to where g begins. -/
def Sp.growN (q : Sp.Net) (e : Nat) (c d : Int) : Sp.Net := ⟨q.n + 1, q.tail ++ [q.tail.getD e 0, q.n], Sp.layIn (q.next ++ [(q.tail.length : Int), ((q.tail.length + 1 : Nat) : Int)]) e q.tail.length, q.cap ++ [c, d]⟩
def Sp.growF (q : Sp.Net) (e g : Nat) (c d : Int) : Sp.Net := ⟨q.n, q.tail ++ [q.tail.getD e 0, q.tail.getD g 0], Sp.layIn (Sp.layIn (q.next ++ [(q.tail.length : Int), ((q.tail.length + 1 : Nat) : Int)]) e q.tail.length) (if g = e then q.tail.length else g) (q.tail.length + 1), q.cap ++ [c, d]⟩
def Sp.planeE (q : Sp.Net) (k : Int) : Nat := (k / 5 % (q.tail.length : Int)).toNat
def Sp.planeS (q : Sp.Net) (k : Int) : List Nat := Sp.sameL (Sp.faces2 q).1 q.next (Sp.planeE q k) q.tail.length
def Sp.planeG (q : Sp.Net) (k : Int) : Nat := (Sp.planeS q k).getD (k / 1200 % ((Sp.planeS q k).length : Int)).toNat 0
def Sp.planeK (q : Sp.Net) (k : Int) : Sp.Net :=
  if q.tail.length = 0 then (if k % 5 = 0 then ⟨1, [0, 0], [1, 0], [Sp.capOf (k / 30), Sp.capOf (k / 7000)]⟩ else ⟨2, [0, 1], [0, 1], [Sp.capOf (k / 30), Sp.capOf (k / 7000)]⟩)
  else if k % 5 < 2 then Sp.growN q (Sp.planeE q k) (Sp.capOf (k / 30)) (Sp.capOf (k / 7000))
  else Sp.growF q (Sp.planeE q k) (Sp.planeG q k) (Sp.capOf (k / 30)) (Sp.capOf (k / 7000))
def Sp.planeN (ns : List Int) : Nat → Sp.Net
  | 0 => ⟨1, [], [], []⟩
  | i + 1 => Sp.planeK (Sp.planeN ns i) (ns.getD i 0 % 1125899906842624)
def Sp.plane (ns : List Int) : Sp.Net := Sp.planeN ns (min ns.length 24)
/-- Each dart's next one begins where it does. -/
def Sp.TurnsOK (T l : List Int) : Prop := ∀ i, i < l.length → T.getD (l.getD i 0).toNat 0 = T.getD i 0
structure Sp.PlaneQ (q : Sp.Net) (i : Nat) : Prop where
  ev : q.tail.length % 2 = 0
  le : q.tail.length ≤ 2 * i
  n0 : 1 ≤ q.n
  n1 : q.n ≤ (i : Int) + 1
  nx : q.next.length = q.tail.length
  cp : q.cap.length = q.tail.length
  pm : Sp.Perm q.next
  tb : ∀ x ∈ q.tail, 0 ≤ x ∧ x < q.n
  cb : ∀ x ∈ q.cap, 0 ≤ x ∧ x ≤ 2147483648
  tn : Sp.TurnsOK q.tail q.next
theorem getD_app0 (l : List Int) (x y : Int) (i : Nat) (h : i < l.length) : (l ++ [x, y]).getD i 0 = l.getD i 0 := by
  rw [List.getD_eq_getElem?_getD, List.getElem?_append_left h, ← List.getD_eq_getElem?_getD]
theorem getD_app1 (l : List Int) (x y : Int) : (l ++ [x, y]).getD l.length 0 = x := by simp [List.getD_eq_getElem?_getD]
theorem getD_app2 (l : List Int) (x y : Int) : (l ++ [x, y]).getD (l.length + 1) 0 = y := by simp [List.getD_eq_getElem?_getD]
theorem Sp.layIn_len (l : List Int) (bh d : Nat) : (Sp.layIn l bh d).length = l.length := by simp [Sp.layIn]
theorem Sp.layIn_get (l : List Int) (bh d i : Nat) (hb : bh < l.length) (hd : d < l.length) : (Sp.layIn l bh d).getD i 0 = if i = bh then (d : Int) else if i = d then l.getD bh 0 else l.getD i 0 := by
  unfold Sp.layIn
  rw [getD_set_eq _ _ _ _ (by rw [List.length_set]; exact hb), getD_set_eq _ _ _ _ hd]
theorem Sp.TurnsOK.lay {T l : List Int} (h : Sp.TurnsOK T l) (bh d : Nat) (hb : bh < l.length) (hd : d < l.length) (he : T.getD bh 0 = T.getD d 0) : Sp.TurnsOK T (Sp.layIn l bh d) := by
  intro i hi
  rw [Sp.layIn_len] at hi
  rw [Sp.layIn_get l bh d i hb hd]
  by_cases h1 : i = bh
  · rw [if_pos h1, Int.toNat_natCast, h1]; exact he.symm
  · rw [if_neg h1]
    by_cases h2 : i = d
    · rw [if_pos h2, h2, h bh hb]; exact he
    · rw [if_neg h2]; exact h i hi
theorem Sp.TurnsOK.add {T l : List Int} (h : Sp.TurnsOK T l) (hl : l.length = T.length) (hb : ∀ x ∈ l, 0 ≤ x ∧ x < (l.length : Int)) (x y : Int) : Sp.TurnsOK (T ++ [x, y]) (l ++ [(T.length : Int), ((T.length + 1 : Nat) : Int)]) := by
  intro i hi
  rw [List.length_append] at hi
  rcases Nat.lt_or_ge i l.length with h1 | h1
  · have hx := hb _ (Sp.getD_mem h1)
    rw [getD_app0 l _ _ i h1, getD_app0 T _ _ i (by omega), getD_app0 T _ _ _ (by omega)]
    exact h i h1
  · have : i = l.length ∨ i = l.length + 1 := by simp at hi; omega
    rcases this with rfl | rfl
    · rw [getD_app1, Int.toNat_natCast, hl]
    · rw [getD_app2, Int.toNat_natCast, hl]
theorem Sp.sameL_lt {f nx : List Int} {e a x : Nat} (h : x ∈ Sp.sameL f nx e a) : x < a := List.mem_range.1 (List.mem_filter.1 h).1
theorem Sp.sameL_self {f nx : List Int} {e a : Nat} (h : e < a) : e ∈ Sp.sameL f nx e a := List.mem_filter.2 ⟨List.mem_range.2 h, by simp⟩
theorem Sp.sameL_le (f nx : List Int) (e a : Nat) : (Sp.sameL f nx e a).length ≤ a := by
  have := List.length_filter_le (fun x => f.getD (nx.getD x 0).toNat 0 == f.getD (nx.getD e 0).toNat 0) (List.range a)
  rw [List.length_range] at this
  exact this
theorem Sp.sameL_succ (f nx : List Int) (e x : Nat) : Sp.sameL f nx e (x + 1) = Sp.sameL f nx e x ++ (if f.getD (nx.getD x 0).toNat 0 = f.getD (nx.getD e 0).toNat 0 then [x] else []) := by
  unfold Sp.sameL
  rw [List.range_succ, List.filter_append]
  congr 1
  by_cases h : f.getD (nx.getD x 0).toNat 0 = f.getD (nx.getD e 0).toNat 0
  · rw [if_pos h]
    have hb : (f.getD (nx.getD x 0).toNat 0 == f.getD (nx.getD e 0).toNat 0) = true := beq_iff_eq.2 h
    show (match (f.getD (nx.getD x 0).toNat 0 == f.getD (nx.getD e 0).toNat 0) with | true => [x] | false => []) = [x]
    rw [hb]
  · rw [if_neg h]
    have hb : (f.getD (nx.getD x 0).toNat 0 == f.getD (nx.getD e 0).toNat 0) = false := beq_eq_false_iff_ne.2 h
    show (match (f.getD (nx.getD x 0).toNat 0 == f.getD (nx.getD e 0).toNat 0) with | true => [x] | false => []) = []
    rw [hb]
theorem Sp.planeE_lt (q : Sp.Net) (k : Int) (h : 0 < q.tail.length) : Sp.planeE q k < q.tail.length := by
  have h0 : 0 ≤ k / 5 % (q.tail.length : Int) := Int.emod_nonneg _ (by omega)
  have h1 : k / 5 % (q.tail.length : Int) < q.tail.length := Int.emod_lt_of_pos _ (by omega)
  unfold Sp.planeE
  omega
theorem Sp.planeS_pos (q : Sp.Net) (k : Int) (h : 0 < q.tail.length) : 0 < (Sp.planeS q k).length := List.length_pos_of_mem (Sp.sameL_self (Sp.planeE_lt q k h))
theorem Sp.planeG_mem (q : Sp.Net) (k : Int) (h : 0 < q.tail.length) : Sp.planeG q k ∈ Sp.planeS q k := by
  have hp := Sp.planeS_pos q k h
  have h0 : 0 ≤ k / 1200 % ((Sp.planeS q k).length : Int) := Int.emod_nonneg _ (by omega)
  have h1 : k / 1200 % ((Sp.planeS q k).length : Int) < (Sp.planeS q k).length := Int.emod_lt_of_pos _ (by omega)
  have hl : (k / 1200 % ((Sp.planeS q k).length : Int)).toNat < (Sp.planeS q k).length := by omega
  unfold Sp.planeG
  rw [List.getD_eq_getElem?_getD, List.getElem?_eq_getElem hl]
  exact List.getElem_mem hl
theorem Sp.planeG_lt (q : Sp.Net) (k : Int) (h : 0 < q.tail.length) : Sp.planeG q k < q.tail.length := Sp.sameL_lt (Sp.planeG_mem q k h)
theorem Sp.PlaneQ.growN {q : Sp.Net} {i : Nat} (h : Sp.PlaneQ q i) (e : Nat) (he : e < q.tail.length) (c d : Int) (hc : 0 ≤ c ∧ c ≤ 2147483648) (hd : 0 ≤ d ∧ d ≤ 2147483648) : Sp.PlaneQ (Sp.growN q e c d) (i + 1) := by
  have hte := h.tb _ (Sp.getD_mem he)
  have hl1 : (q.next ++ [(q.tail.length : Int), ((q.tail.length + 1 : Nat) : Int)]).length = q.tail.length + 2 := by simp [h.nx]
  have hp1 : Sp.Perm (q.next ++ [(q.tail.length : Int), ((q.tail.length + 1 : Nat) : Int)]) := by have := h.pm.add; rw [h.nx] at this; exact this
  have hf1 : (q.next ++ [(q.tail.length : Int), ((q.tail.length + 1 : Nat) : Int)]).getD q.tail.length 0 = (q.tail.length : Int) := by have := getD_app1 q.next (q.tail.length : Int) ((q.tail.length + 1 : Nat) : Int); rw [h.nx] at this; exact this
  refine ⟨?_, ?_, ?_, ?_, ?_, ?_, ?_, ?_, ?_, ?_⟩
  · simp [Sp.growN, h.ev]
  · have := h.le; simp [Sp.growN]; omega
  · have := h.n0; simp [Sp.growN]; omega
  · have := h.n1; simp [Sp.growN]; omega
  · simp [Sp.growN, Sp.layIn_len, h.nx]
  · simp [Sp.growN, h.cp]
  · exact hp1.lay e q.tail.length (by omega) (by omega) hf1
  · intro x hx
    show 0 ≤ x ∧ x < q.n + 1
    rcases List.mem_append.1 hx with hx | hx
    · have := h.tb x hx; omega
    · simp only [List.mem_cons, List.not_mem_nil, or_false] at hx
      have := h.n0
      rcases hx with rfl | rfl <;> omega
  · intro x hx
    rcases List.mem_append.1 hx with hx | hx
    · exact h.cb x hx
    · simp only [List.mem_cons, List.not_mem_nil, or_false] at hx
      rcases hx with rfl | rfl
      · exact hc
      · exact hd
  · refine (h.tn.add h.nx h.pm.bd _ _).lay e q.tail.length (by omega) (by omega) ?_
    rw [getD_app0 _ _ _ _ he, getD_app1]
theorem Sp.PlaneQ.growF {q : Sp.Net} {i : Nat} (h : Sp.PlaneQ q i) (e g : Nat) (he : e < q.tail.length) (hg : g < q.tail.length) (c d : Int) (hc : 0 ≤ c ∧ c ≤ 2147483648) (hd : 0 ≤ d ∧ d ≤ 2147483648) : Sp.PlaneQ (Sp.growF q e g c d) (i + 1) := by
  have hte := h.tb _ (Sp.getD_mem he)
  have htg := h.tb _ (Sp.getD_mem hg)
  have hl1 : (q.next ++ [(q.tail.length : Int), ((q.tail.length + 1 : Nat) : Int)]).length = q.tail.length + 2 := by simp [h.nx]
  have hp1 : Sp.Perm (q.next ++ [(q.tail.length : Int), ((q.tail.length + 1 : Nat) : Int)]) := by have := h.pm.add; rw [h.nx] at this; exact this
  have hf1 : (q.next ++ [(q.tail.length : Int), ((q.tail.length + 1 : Nat) : Int)]).getD q.tail.length 0 = (q.tail.length : Int) := by have := getD_app1 q.next (q.tail.length : Int) ((q.tail.length + 1 : Nat) : Int); rw [h.nx] at this; exact this
  have hf2 : (q.next ++ [(q.tail.length : Int), ((q.tail.length + 1 : Nat) : Int)]).getD (q.tail.length + 1) 0 = ((q.tail.length + 1 : Nat) : Int) := by have := getD_app2 q.next (q.tail.length : Int) ((q.tail.length + 1 : Nat) : Int); rw [h.nx] at this; exact this
  have hp2 := hp1.lay e q.tail.length (by omega) (by omega) hf1
  have hg2 : (if g = e then q.tail.length else g) < q.tail.length + 2 := by split <;> omega
  refine ⟨?_, ?_, ?_, ?_, ?_, ?_, ?_, ?_, ?_, ?_⟩
  · simp [Sp.growF, h.ev]
  · have := h.le; simp [Sp.growF]; omega
  · exact h.n0
  · have := h.n1; show q.n ≤ ((i + 1 : Nat) : Int) + 1; omega
  · simp [Sp.growF, Sp.layIn_len, h.nx]
  · simp [Sp.growF, h.cp]
  · refine hp2.lay _ (q.tail.length + 1) (by rw [Sp.layIn_len, hl1]; exact hg2) (by rw [Sp.layIn_len, hl1]; omega) ?_
    rw [Sp.layIn_get _ _ _ _ (by omega) (by omega), if_neg (by omega), if_neg (by omega)]
    exact hf2
  · intro x hx
    show 0 ≤ x ∧ x < q.n
    rcases List.mem_append.1 hx with hx | hx
    · exact h.tb x hx
    · simp only [List.mem_cons, List.not_mem_nil, or_false] at hx
      rcases hx with rfl | rfl
      · exact hte
      · exact htg
  · intro x hx
    rcases List.mem_append.1 hx with hx | hx
    · exact h.cb x hx
    · simp only [List.mem_cons, List.not_mem_nil, or_false] at hx
      rcases hx with rfl | rfl
      · exact hc
      · exact hd
  · refine ((h.tn.add h.nx h.pm.bd _ _).lay e q.tail.length (by omega) (by omega) ?_).lay _ (q.tail.length + 1) (by rw [Sp.layIn_len, hl1]; exact hg2) (by rw [Sp.layIn_len, hl1]; omega) ?_
    · rw [getD_app0 _ _ _ _ he, getD_app1]
    · rw [getD_app2]
      by_cases hge : g = e
      · rw [if_pos hge, getD_app1, hge]
      · rw [if_neg hge, getD_app0 _ _ _ _ hg]
theorem Sp.PlaneQ.first (i : Nat) : Sp.PlaneQ ⟨1, [], [], []⟩ i := by
  refine ⟨rfl, Nat.zero_le _, Int.le_refl _, by show (1 : Int) ≤ (i : Int) + 1; omega, rfl, rfl, ⟨fun x hx => (List.not_mem_nil hx).elim, fun i j hi => (Nat.not_lt_zero _ hi).elim⟩, fun x hx => (List.not_mem_nil hx).elim, fun x hx => (List.not_mem_nil hx).elim, fun i hi => (Nat.not_lt_zero _ hi).elim⟩
theorem Sp.PlaneQ.step {q : Sp.Net} {i : Nat} (h : Sp.PlaneQ q i) (k : Int) : Sp.PlaneQ (Sp.planeK q k) (i + 1) := by
  unfold Sp.planeK
  have hc := Sp.capOf_bd (k / 30)
  have hd := Sp.capOf_bd (k / 7000)
  generalize Sp.capOf (k / 30) = c at *
  generalize Sp.capOf (k / 7000) = d at *
  have hcb : ∀ x ∈ [c, d], 0 ≤ x ∧ x ≤ 2147483648 := by
    intro x hx
    simp only [List.mem_cons, List.not_mem_nil, or_false] at hx
    rcases hx with rfl | rfl
    · exact hc
    · exact hd
  split
  · split
    · refine ⟨by show 2 % 2 = 0; decide, ?_, Int.le_refl _, by show (1 : Int) ≤ ((i + 1 : Nat) : Int) + 1; omega, rfl, rfl, ⟨?_, ?_⟩, ?_, hcb, ?_⟩
      · show 2 ≤ 2 * (i + 1); omega
      · intro x hx; simp only [List.mem_cons, List.not_mem_nil, or_false] at hx; rcases hx with rfl | rfl <;> simp
      · intro i j hi hj e
        have hi' : i < 2 := hi
        have hj' : j < 2 := hj
        have : (i = 0 ∨ i = 1) ∧ (j = 0 ∨ j = 1) := by omega
        rcases this with ⟨rfl | rfl, rfl | rfl⟩ <;> simp at e <;> rfl
      · intro x hx; simp only [List.mem_cons, List.not_mem_nil, or_false] at hx; rcases hx with rfl | rfl <;> simp
      · intro i hi
        have hi' : i < 2 := hi
        have : i = 0 ∨ i = 1 := by omega
        rcases this with rfl | rfl <;> rfl
    · refine ⟨by show 2 % 2 = 0; decide, ?_, by show (1 : Int) ≤ 2; omega, by show (2 : Int) ≤ ((i + 1 : Nat) : Int) + 1; omega, rfl, rfl, ⟨?_, ?_⟩, ?_, hcb, ?_⟩
      · show 2 ≤ 2 * (i + 1); omega
      · intro x hx; simp only [List.mem_cons, List.not_mem_nil, or_false] at hx; rcases hx with rfl | rfl <;> simp
      · intro i j hi hj e
        have hi' : i < 2 := hi
        have hj' : j < 2 := hj
        have : (i = 0 ∨ i = 1) ∧ (j = 0 ∨ j = 1) := by omega
        rcases this with ⟨rfl | rfl, rfl | rfl⟩ <;> simp at e <;> rfl
      · intro x hx; simp only [List.mem_cons, List.not_mem_nil, or_false] at hx; rcases hx with rfl | rfl <;> simp
      · intro i hi
        have hi' : i < 2 := hi
        have : i = 0 ∨ i = 1 := by omega
        rcases this with rfl | rfl <;> rfl
  · rename_i hne
    split
    · exact h.growN _ (Sp.planeE_lt q k (by omega)) _ _ hc hd
    · exact h.growF _ _ (Sp.planeE_lt q k (by omega)) (Sp.planeG_lt q k (by omega)) _ _ hc hd
theorem Sp.planeN_ok (ns : List Int) : ∀ i, Sp.PlaneQ (Sp.planeN ns i) i
  | 0 => Sp.PlaneQ.first 0
  | i + 1 => (Sp.planeN_ok ns i).step _
theorem Sp.faces2Go_len (st : List Int) : ∀ f d of k, (Sp.faces2Go st f d of k).1.length = of.length
  | 0, _, _, _ => rfl
  | f + 1, d, of, k => by
    rw [Sp.faces2Go]
    split
    · exact Sp.faces2Go_len st f _ _ _
    · rw [Sp.faces2Go_len st f, Sp.paint_len]
theorem Sp.faces2_len (q : Sp.Net) : (Sp.faces2 q).1.length = q.tail.length := by
  unfold Sp.faces2
  rw [Sp.faces2Go_len, List.length_replicate]
/-- A row that is not empty lies in a block of its own. -/
theorem own_form {w : World} {B : Nat} {v : Value} {l : List Int} (h : OwnI w B v l) (hl : 0 < l.length) : ∃ g c, v = .slice (some ⟨g, 0, none⟩) l.length c ∧ B ≤ g ∧ g < w.heap.size ∧ l.length ≤ c ∧ c ≤ maxLen := by
  have hlt := h.lt
  obtain ⟨a, c, hv, hc, hm⟩ := h.ints.form
  obtain ⟨hx, hv' | ⟨g, cap, cur, hv', hg, hh, r⟩⟩ := h
  · rw [hv] at hv'
    simp at hv'
    omega
  · rw [hv] at hv'
    injection hv' with h1 h2 h3
    subst h1 h3
    exact ⟨g, c, hv, hg, (hlt g (by rw [hv]; rfl)).2, hc, hm⟩
theorem MakeAt.setF0 {w wx : World} {n : Int} {tv nv cv : Value} (h : MakeAt w wx n tv nv cv) (y : Int) : MakeAt w (wx.setCell ⟨w.heap.size + 1, 0, none⟩ (.int .i64 y)) y tv nv cv :=
  ⟨by rw [heap_setCell_other _ _ _ _ (by simp)]; exact h.b0, by rw [heap_setCell_same wx (w.heap.size + 1) 0 _ _ _ h.b1]; rfl, h.bel.setCell (by simp) _⟩
theorem MakeAt.setF1 {w wx : World} {n : Int} {tv nv cv : Value} (h : MakeAt w wx n tv nv cv) (u : Value) : MakeAt w (wx.setCell ⟨w.heap.size + 1, 1, none⟩ u) n u nv cv :=
  ⟨by rw [heap_setCell_other _ _ _ _ (by simp)]; exact h.b0, by rw [heap_setCell_same wx (w.heap.size + 1) 1 _ _ _ h.b1]; rfl, h.bel.setCell (by simp) _⟩
theorem MakeAt.setF2 {w wx : World} {n : Int} {tv nv cv : Value} (h : MakeAt w wx n tv nv cv) (u : Value) : MakeAt w (wx.setCell ⟨w.heap.size + 1, 2, none⟩ u) n tv u cv :=
  ⟨by rw [heap_setCell_other _ _ _ _ (by simp)]; exact h.b0, by rw [heap_setCell_same wx (w.heap.size + 1) 2 _ _ _ h.b1]; rfl, h.bel.setCell (by simp) _⟩
theorem MakeAt.setF3 {w wx : World} {n : Int} {tv nv cv : Value} (h : MakeAt w wx n tv nv cv) (u : Value) : MakeAt w (wx.setCell ⟨w.heap.size + 1, 3, none⟩ u) n tv nv u :=
  ⟨by rw [heap_setCell_other _ _ _ _ (by simp)]; exact h.b0, by rw [heap_setCell_same wx (w.heap.size + 1) 3 _ _ _ h.b1]; rfl, h.bel.setCell (by simp) _⟩
theorem MakeAt.but {w wx wy : World} {n : Int} {tv nv cv : Value} (h : MakeAt w wx n tv nv cv) {g : Nat} (hb : ButRow g wx wy) (hg : w.heap.size + 2 ≤ g) : MakeAt w wy n tv nv cv :=
  ⟨(hb.block _ (by omega)).trans h.b0, (hb.block _ (by omega)).trans h.b1, ⟨hb.os.trans h.bel.os, hb.tape.trans h.bel.tape, hb.output.trans h.bel.output, by rw [hb.size]; exact h.bel.size, fun k hk => (hb.block k (by omega)).trans (h.bel.block k hk)⟩⟩
/-- A net of two darts, its rows laid down and stored whole. -/
theorem MakeAt.lits {w wx : World} {n : Int} {tv nv cv : Value} (h : MakeAt w wx n tv nv cv) (m a0 a1 b0 b1 c0 c1 : Int) (s s1 s2 : Nat) (hs : s = wx.heap.size) (hs1 : s1 = s + 1) (hs2 : s2 = s + 2) :
    ∀ X, X = ((((((wx.alloc (.cells #[.int .i64 a0, .int .i64 a1] 3)).alloc (.cells #[.int .i64 b0, .int .i64 b1] 3)).alloc (.cells #[.int .i64 c0, .int .i64 c1] 3)).setCell ⟨w.heap.size + 1, 0, none⟩ (.int .i64 m)).setCell ⟨w.heap.size + 1, 1, none⟩ (.slice (some ⟨s, 0, none⟩) 2 2)).setCell ⟨w.heap.size + 1, 2, none⟩ (.slice (some ⟨s1, 0, none⟩) 2 2)).setCell ⟨w.heap.size + 1, 3, none⟩ (.slice (some ⟨s2, 0, none⟩) 2 2) →
    NetV X (w.heap.size + 2) (.agg #[.int .i64 m, .slice (some ⟨s, 0, none⟩) 2 2, .slice (some ⟨s1, 0, none⟩) 2 2, .slice (some ⟨s2, 0, none⟩) 2 2]) ⟨m, [a0, a1], [b0, b1], [c0, c1]⟩ (.slice (some ⟨s, 0, none⟩) 2 2) (.slice (some ⟨s1, 0, none⟩) 2 2) (.slice (some ⟨s2, 0, none⟩) 2 2) ∧ MakeAt w X m (.slice (some ⟨s, 0, none⟩) 2 2) (.slice (some ⟨s1, 0, none⟩) 2 2) (.slice (some ⟨s2, 0, none⟩) 2 2) := by
  intro X hX
  subst hs hs1 hs2
  have hsz := h.size
  have o1 := own_lit wx (w.heap.size + 2) wx.heap.size 2 [a0, a1] rfl rfl (by omega) (by simp)
  have o2 := own_lit (wx.alloc (.cells #[.int .i64 a0, .int .i64 a1] 3)) (w.heap.size + 2) (wx.heap.size + 1) 2 [b0, b1] (by simp) rfl (by simp; omega) (by simp)
  have o3 := own_lit ((wx.alloc (.cells #[.int .i64 a0, .int .i64 a1] 3)).alloc (.cells #[.int .i64 b0, .int .i64 b1] 3)) (w.heap.size + 2) (wx.heap.size + 2) 2 [c0, c1] (by simp) rfl (by simp; omega) (by simp)
  have o2' := World.ownsRow.alloc o2 (.cells #[.int .i64 c0, .int .i64 c1] 3)
  have o1' := World.ownsRow.alloc (World.ownsRow.alloc o1 (.cells #[.int .i64 b0, .int .i64 b1] 3)) (.cells #[.int .i64 c0, .int .i64 c1] 3)
  have hbb : Below wx.heap.size wx (((wx.alloc (.cells #[.int .i64 a0, .int .i64 a1] 3)).alloc (.cells #[.int .i64 b0, .int .i64 b1] 3)).alloc (.cells #[.int .i64 c0, .int .i64 c1] 3)) := (((Below.refl _ _).alloc (Nat.le_refl _) _).alloc (by simp) _).alloc (by simp; omega) _
  have hM := (h.below hbb).set m (.slice (some ⟨wx.heap.size, 0, none⟩) 2 2) (.slice (some ⟨wx.heap.size + 1, 0, none⟩) 2 2) (.slice (some ⟨wx.heap.size + 2, 0, none⟩) 2 2)
  subst hX
  refine ⟨⟨rfl, four_own o1' (by omega) _ _ _ _, four_own o2' (by omega) _ _ _ _, four_own o3 (by omega) _ _ _ _, .inr ?_, .inr ?_, .inr ?_⟩, hM⟩
  all_goals
    simp only [Value.ownBlock, ne_eq, Option.some.injEq]
    omega
end Go.Proofs.Ytcdpgiklmonabaa


/- The walks of slices.Index and of package rot: roundOf. -/
namespace Go.Proofs.Ytcdpgiklmonabaa
open Go Go.RowKit

set_option maxRecDepth 100000 in
set_option maxHeartbeats 1000000 in
theorem index_any (l : List Int) (g o m c : Nat) (d : Int) (w : World) (hl : l.length = m) (hm : m ≤ 240) (hc : ∀ j, (hj : j < l.length) → w.cell? ⟨g, o + j, none⟩ = some (.int .i64 l[j])) :
    Calls Try.prog 67 #[.slice (some ⟨g, o, none⟩) m c, .int .i64 d] w fun e w' => ((∃ i : Nat, ∃ hi : i < l.length, e = .returned (.int .i64 (i : Int)) ∧ l[i] = d ∧ ∀ j, (hj : j < l.length) → j < i → l[j] ≠ d) ∨ (e = .returned (.int .i64 (-1)) ∧ ¬ d ∈ l)) ∧ w' = w := by
  have HC := hide hc
  have Hl := hide hl
  clear hc hl
  obtain ⟨P, hP⟩ : ∃ P : Ending → World → Prop, P = fun e w' => ((∃ i : Nat, ∃ hi : i < l.length, e = .returned (.int .i64 (i : Int)) ∧ l[i] = d ∧ ∀ j, (hj : j < l.length) → j < i → l[j] ≠ d) ∨ (e = .returned (.int .i64 (-1)) ∧ ¬ d ∈ l)) ∧ w' = w := ⟨_, rfl⟩
  rw [← hP]
  have HP := hide hP
  clear hP
  go_enter Try.func67, Try.ntmps67
  go_wp2
  go_loop [8] (fun i => ∃ k : Nat, k ≤ m ∧ i = .int .i64 (k : Int) ∧ Hid (∀ j, (hj : j < l.length) → j < k → l[j] ≠ d)) (fun i => m - (intOf i).toNat)
  case atStart => exact ⟨0, by omega, rfl, hide (fun j _ h => by omega)⟩
  case round =>
    obtain ⟨k, hk, rfl, HA⟩ := hrel
    by_cases hlt : k < m
    · have hltI : (k : Int) < (m : Int) := by omega
      have hkl : k < l.length := by rw [unhide Hl]; exact hlt
      have c1 := unhide HC k hkl
      by_cases hd : l[k] = d
      · have HD := hide hd
        rw [hd] at c1
        have hkk : (d == d) = true := beq_self_eq_true _
        clear hd
        go_wp2
        rw [unhide HP]
        exact ⟨.inl ⟨k, hkl, rfl, unhide HD, unhide HA⟩, rfl⟩
      · have HN : Hid (∀ j, (hj : j < l.length) → j < k + 1 → l[j] ≠ d) := hide fun j hj h => by
          rcases Nat.lt_or_ge j k with h' | h'
          · exact unhide HA j hj h'
          · obtain rfl : j = k := by omega
            exact hd
        have hkk : (d == l[k]) = false := beq_eq_false_iff_ne.2 (fun h => hd h.symm)
        generalize l[k] = z at *
        clear hd
        go_wp2
        go_round
        case rel => exact ⟨k + 1, by omega, by go_num, HN⟩
        case measure => simp [intOf]; omega
    · have HN : Hid (¬ d ∈ l) := hide fun hm => by
        obtain ⟨j, hj, rfl⟩ := List.mem_iff_getElem.1 hm
        exact unhide HA j hj (by have := unhide Hl; omega) rfl
      go_wp2
      rw [unhide HP]
      exact ⟨.inr ⟨rfl, unhide HN⟩, rfl⟩
/-- A slice of the call's own, wherever it lies. -/
def Mine (w : World) (B : Nat) (v : Value) (l : List Int) : Prop :=
  (v = .slice none 0 0 ∧ l = []) ∨ ∃ g o c, v = .slice (some ⟨g, o, none⟩) l.length c ∧ B ≤ g ∧ g < w.heap.size ∧ l.length ≤ c ∧ c ≤ maxLen ∧ ∀ j, (hj : j < l.length) → w.cell? ⟨g, o + j, none⟩ = some (.int .i64 l[j]) ∧ w.frozen? ⟨g, o + j, none⟩ = false
theorem Mine.ints {w : World} {B : Nat} {v : Value} {l : List Int} (h : Mine w B v l) : Ints w v l := by
  rcases h with ⟨rfl, rfl⟩ | ⟨g, o, c, rfl, hB, hg, hc, hm, hcell⟩
  · exact ⟨none, 0, rfl, by simp, by unfold maxLen; omega, fun k hk => by simp at hk⟩
  · exact ⟨_, c, rfl, hc, hm, fun k hk => ⟨g, o, rfl, hg, (hcell k hk).1⟩⟩
theorem Mine.base {w : World} {B B' : Nat} {v : Value} {l : List Int} (h : Mine w B v l) (hb : B' ≤ B) : Mine w B' v l := by
  rcases h with h | ⟨g, o, c, hv, hB, r⟩
  · exact .inl h
  · exact .inr ⟨g, o, c, hv, by omega, r⟩
theorem Mine.below {w w' : World} {B : Nat} {v : Value} {l : List Int} (h : Mine w B v l) (hb : Below w.heap.size w w') : Mine w' B v l := by
  rcases h with h | ⟨g, o, c, hv, hB, hg, hc, hm, hcell⟩
  · exact .inl h
  · exact .inr ⟨g, o, c, hv, hB, Nat.lt_of_lt_of_le hg hb.size, hc, hm, fun j hj => ⟨(hb.cell (by exact hg)).trans (hcell j hj).1, (World.frozen?_of_block (hb.block g hg)).trans (hcell j hj).2⟩⟩
theorem run_app_grow (w : World) (g o k n c : Nat) (g2 o2 : Nat) (l1 l2 : List Int) (h1 : l1.length = k) (h2 : l2.length = n) (hn : 0 < n) (hbig : k + n ≤ 1000)
    (hc1 : ∀ j, (hj : j < l1.length) → w.cell? ⟨g, o + j, none⟩ = some (.int .i64 l1[j])) (hc2 : ∀ j, (hj : j < l2.length) → w.cell? ⟨g2, o2 + j, none⟩ = some (.int .i64 l2[j])) :
    ∃ c' w', (Builtin.append_ #[22, 22] 22 #[.slice (some ⟨g, o, none⟩) k k, .slice (some ⟨g2, o2, none⟩) n c]).run Try.prog w = .ok (.slice (some ⟨w.heap.size, 0, none⟩) (k + n) c') w' ∧ OwnI w' w.heap.size (.slice (some ⟨w.heap.size, 0, none⟩) (k + n) c') (l1 ++ l2) ∧ Below w.heap.size w w' := by
  obtain ⟨i0, hi, hz0, hz1, hz2⟩ := info_parts info3
  subst h1 h2
  have cellsOf : ∀ (g o : Nat) (l : List Int), (∀ j, (hj : j < l.length) → w.cell? ⟨g, o + j, none⟩ = some (.int .i64 l[j])) → ∀ j v, (l.map (Value.int .i64))[j]? = some v → w.cell? ((⟨g, o, none⟩ : Addr).add j) = some v := by
    intro g o l hc j v hj
    obtain ⟨hj1, hj2⟩ := List.getElem?_eq_some_iff.1 hj
    rw [List.length_map] at hj1
    rw [← hj2, List.getElem_map, Addr.add_lit]
    exact hc j hj1
  have hrun := run_append_grow (P := Try.prog) (w := w) 22 22 3 i0 (.int .i64 0) Try.underlying22 hi hz0 ⟨g, o, none⟩ l1.length l1.length (l1.map (Value.int .i64)) (by simp [hz1]) (cellsOf g o l1 hc1) ⟨g2, o2, none⟩ l2.length c (l2.map (Value.int .i64)) (by simp [hz1]) (cellsOf g2 o2 l2 hc2) (by omega) (by omega) (growslice_fits (by omega) (by rw [hz2]; omega))
  have hge := grownCap_ge w (l1.length + l2.length) l1.length 3
  have hcm := grownCap_le_maxLen w (l1.length + l2.length) l1.length 3 (by unfold maxLen; omega)
  refine ⟨_, _, hrun, ⟨by simp, .inr ⟨w.heap.size, _, _, by simp, Nat.le_refl _, heap_alloc_new w.drew _, by simpa using hge, hcm, ?_, ?_⟩⟩, (Below.refl _ w).drew.alloc (Nat.le_refl _) _⟩
  · simp [size_zeroCells, Value.cells]
    omega
  · simp only [Array.toList_append, List.map_append]
    rw [List.take_left' (by simp)]
/-- A round from d on. -/
def Sp.rot2 (l : List Int) (i : Nat) : List Int := l.drop i ++ l.take i
def Sp.ofGo (row : List Int) (d : Int) : List (Nat × Nat) → List Int
  | [] => []
  | p :: r => if d ∈ Sp.piece row p then Sp.rot2 (Sp.piece row p) ((Sp.piece row p).idxOf d) else Sp.ofGo row d r
theorem idxOf_of : ∀ (l : List Int) (d : Int) (i : Nat) (hi : i < l.length), l[i] = d → (∀ j, (hj : j < l.length) → j < i → l[j] ≠ d) → l.idxOf d = i
  | [], _, _, hi, _, _ => by simp at hi
  | x :: r, d, 0, _, h, _ => by
    simp only [List.getElem_cons_zero] at h
    have h2 : (x == d) = true := by rw [h]; exact beq_self_eq_true _
    rw [List.idxOf_cons, h2]
    rfl
  | x :: r, d, i + 1, hi, h, hn => by
    have h0 := hn 0 (by simp) (by omega)
    simp only [List.getElem_cons_zero] at h0
    simp only [List.getElem_cons_succ] at h
    have h1 := idxOf_of r d i (by simpa using hi) h (fun j hj hji => by
      have := hn (j + 1) (by simpa using hj) (by omega)
      simpa using this)
    have h2 : (x == d) = false := beq_eq_false_iff_ne.2 h0
    rw [List.idxOf_cons, h2, h1]
    rfl
def Sp.roundOf (st : List Int) (d : Int) : List Int := Sp.ofGo (Sp.rndsD st).1 d (Sp.rndsD st).2
theorem run_app_none (w : World) (g o k g2 o2 c : Nat) :
    (Builtin.append_ #[22, 22] 22 #[.slice (some ⟨g, o, none⟩) k k, .slice (some ⟨g2, o2, none⟩) 0 c]).run Try.prog w = .ok (.slice (some ⟨g, o, none⟩) k k) w := by
  obtain ⟨i0, hi, hz0, hz1, hz2⟩ := info_parts info3
  simp [Builtin.append_, run_underlying Try.underlying22, sizeOf, typeInfo, hi, Builtin.lenOf, Builtin.firstCells, storeCells, loadCells, loadCellsFrom]
theorem cell_lt {w : World} {a : Addr} {v : Value} (h : w.cell? a = some v) : a.block < w.heap.size := by
  rcases Nat.lt_or_ge a.block w.heap.size with h' | h'
  · exact h'
  · unfold World.cell? at h
    rw [Array.getElem?_eq_none h'] at h
    cases h
theorem own_mine {w : World} {B B' g n c : Nat} {l : List Int} (h : OwnI w B (.slice (some ⟨g, 0, none⟩) n c) l) (hl : n = l.length) (hb : B' ≤ B) : Mine w B' (.slice (some ⟨g, 0, none⟩) n c) l := by
  have h0 := h
  have hlt := h.lt g rfl
  obtain ⟨h1, ⟨h2, -⟩ | ⟨g', cap, cur, e, hg, hh, hnc, hcm, hsz, htk⟩⟩ := h
  · cases h2
  · injection e with e1 e2 e3
    subst e3
    refine .inr ⟨g, 0, c, by rw [hl], by omega, hlt.2, hnc, hcm, fun j hj => ?_⟩
    rw [Nat.zero_add]
    exact ⟨own_cell h0 j hj, own_frozen h0 j⟩
/-- An append whose run is known, as one step of a region that draws its order. -/
theorem step_run {w : World} {ops : Array Oper} {o : Oper} {a : Act} {K : Act → World → Prop} {Q : Exit → Act → World → Prop} {E : Prop} (hgd : o.guard = none) (s x : Operand)
    (ho : o.op = .call { callee := .builtin .append, args := #[s, x], argTypes := #[22, 22] }) (sv xv v' : Value) (w' : World) (hs : a.eval s = sv) (hx : a.eval x = xv)
    (hrun : (Builtin.append_ #[22, 22] o.type #[sv, xv]).run Try.prog w = .ok v' w') (h : K (a.put o.dst v') w') :
    if Region.wanted o (yielded ops a.tmps) = true then Oper.wp Try.prog o a w K Q else E := by
  have hw : Region.wanted o (yielded ops a.tmps) = true := by simp [Region.wanted, hgd]
  rw [if_pos hw]
  unfold Oper.wp execOp
  simp only [ho, resolve, invoke, builtin, Sem.run_bind, Sem.run_pure, Result.andThen_ok, List.map_toArray, List.map_cons, List.map_nil, hs, hx, hrun]
  exact h
end Go.Proofs.Ytcdpgiklmonabaa


/- The walk of package rot: roundOf. -/
namespace Go.Proofs.Ytcdpgiklmonabaa
open Go Go.RowKit

set_option maxRecDepth 100000 in
set_option maxHeartbeats 2000000 in
theorem roundOf_any (st : List Int) (sv : Value) (d : Int) (w : World) (hv : Ints w sv st) (hn : st.length ≤ 240) (hx : ∀ x ∈ st, 0 ≤ x ∧ x < (st.length : Int)) :
    Calls Try.prog 54 #[sv, .int .i64 d] w fun e w' => ∃ rv, e = .returned rv ∧ Mine w' w.heap.size rv (Sp.roundOf st d) ∧ Below w.heap.size w w' := by
  have HC := hide (rounds_any st sv w hv hn hx)
  have HX := hide hx
  obtain ⟨sa, sc, rfl, hsc, hsm⟩ := hv.form
  have HR : Hid (Sp.roundOf st d = Sp.ofGo (Sp.rndsD st).1 d (Sp.rndsD st).2) := hide rfl
  generalize Sp.roundOf st d = R at *
  obtain ⟨P, hP⟩ : ∃ P : Ending → World → Prop, P = fun e w' => ∃ rv, e = .returned rv ∧ Mine w' w.heap.size rv R ∧ Below w.heap.size w w' := ⟨_, rfl⟩
  rw [← hP]
  have HP := hide hP
  clear hP hx hv
  go_enter Try.func54, Try.ntmps54
  go_wp2_with fail
  go_at_call 49
  refine (unhide HC).mono ?_
  clear HC
  intro e w2 hpost
  obtain ⟨lv, rfl, hb2, hpl, hpo, hls, hcells⟩ := hpost.one (unhide HX)
  clear hpost
  generalize (Sp.rndsD st).1 = row at *
  generalize (Sp.rndsD st).2 = ps at *
  generalize (Sp.rnds st).isSome = is at *
  have Hb2 := hide hb2
  obtain ⟨la, lc, rfl, hlc, hlm, HL⟩ := owns_all hls
  have HPO := hide hpo
  have HCE := hide hcells
  clear hls hpo hcells hb2
  go_wp2
  go_loop [17] (fun i => ∃ k : Nat, k ≤ ps.length ∧ i = .int .i64 (k : Int) ∧ Hid (R = Sp.ofGo row d (ps.drop k))) (fun i => ps.length - (intOf i).toNat)
  case atStart => exact ⟨0, by omega, rfl, HR⟩
  case round =>
    obtain ⟨k, hk, rfl, HI⟩ := hrel
    by_cases hlt : k < ps.length
    · have hltI : (k : Int) < (ps.length : Int) := by omega
      have hpk := (unhide HPO).ok ps[k] (List.getElem_mem hlt)
      have HTG : Hid (R = if d ∈ Sp.piece row ps[k] then Sp.rot2 (Sp.piece row ps[k]) ((Sp.piece row ps[k]).idxOf d) else Sp.ofGo row d (ps.drop (k + 1))) := hide (by
        have h := unhide HI
        rw [List.drop_eq_getElem_cons hlt, Sp.ofGo] at h
        exact h)
      obtain ⟨lb, hla, hlbs, -, hlcell⟩ := unhide HL k (by simpa using hlt)
      subst hla
      have hlc1 := hlcell w2 (Below.refl _ _)
      rw [List.getElem_map] at hlc1
      generalize ps[k] = pp at *
      obtain ⟨b, e⟩ := pp
      obtain ⟨hbe, herow⟩ := hpk
      simp only at hbe herow
      have hlc2 : w2.cell? ⟨lb, k, none⟩ = some (.slice (some ⟨w.heap.size, b, none⟩) (e - b) (e - b)) := hlc1
      have he240 : e ≤ 240 := by have := (unhide HPO).fit.le; omega
      have HPL : Hid ((Sp.piece row (b, e)).length = e - b) := hide (Sp.piece_len herow)
      have HPC : Hid (∀ w', Below w2.heap.size w2 w' → ∀ j, (hj : j < (Sp.piece row (b, e)).length) → w'.cell? ⟨w.heap.size, b + j, none⟩ = some (.int .i64 (Sp.piece row (b, e))[j]) ∧ w'.frozen? ⟨w.heap.size, b + j, none⟩ = false) := hide fun w' hb' j hj => by
        rw [Sp.piece_get herow]
        exact unhide HCE (b + j) (by rw [unhide HPL] at hj; omega) w' hb'
      have HC5 := hide (index_any (Sp.piece row (b, e)) w.heap.size b (e - b) (e - b) d w2 (unhide HPL) (by omega) fun j hj => (unhide HPC w2 (Below.refl _ _) j hj).1)
      generalize Sp.piece row (b, e) = pc at *
      clear hlc1 hlcell
      go_wp2_with fail
      go_at_call 67
      refine (unhide HC5).mono ?_
      clear HC5
      rintro e5 w5 ⟨⟨i, hi, rfl, hid, hbef⟩ | ⟨rfl, hnm⟩, rfl⟩
      · have HI5 : Hid (R = Sp.rot2 pc i) := by
          have h := unhide HTG
          rw [if_pos (hid ▸ List.getElem_mem hi), idxOf_of pc d i hi hid hbef] at h
          exact hide h
        have hi2 : i < e - b := by rw [← unhide HPL]; exact hi
        have h0i : (0 : Int) ≤ (i : Int) := by omega
        clear hid hbef hi HTG
        by_cases hi0 : i = 0
        · subst hi0
          have hrun := run_app_none w5.drew w.heap.size b (e - b) w.heap.size b (e - b)
          go_wp2
          go_region
          go_wp2
          rw [unhide HP]
          refine ⟨_, rfl, ?_, (unhide Hb2).trans ((Below.refl _ _).drew.mono (unhide Hb2).size)⟩
          rw [unhide HI5]
          show Mine _ _ (.slice (some ⟨w.heap.size, b, none⟩) (e - b) (e - b)) (Sp.rot2 pc 0)
          have hr0 : Sp.rot2 pc 0 = pc := by simp [Sp.rot2]
          rw [hr0]
          refine .inr ⟨w.heap.size, b, e - b, by rw [unhide HPL], Nat.le_refl _, ?_, by rw [unhide HPL]; exact Nat.le_refl _, by unfold maxLen; omega, fun j hj => unhide HPC _ (Below.refl _ _).drew j hj⟩
          exact cell_lt (a := ⟨w.heap.size, b + 0, none⟩) (unhide HPC w5.drew (Below.refl _ _).drew 0 (by rw [unhide HPL]; omega)).1
        · have HD1 : Hid ((pc.drop i).length = e - b - i) := hide (by rw [List.length_drop, unhide HPL])
          have HD2 : Hid ((pc.take i).length = i) := hide (by rw [List.length_take, unhide HPL]; omega)
          obtain ⟨c6, w6, hrun, hown6, hb6⟩ := run_app_grow w5.drew w.heap.size (b + i) (e - b - i) i (e - b) w.heap.size b (pc.drop i) (pc.take i) (unhide HD1) (unhide HD2) (by omega) (by omega)
            (fun j hj => by rw [List.getElem_drop, Nat.add_assoc]; exact (unhide HPC w5.drew (Below.refl _ _).drew (i + j) (by rw [List.length_drop] at hj; omega)).1)
            (fun j hj => by rw [List.getElem_take]; exact (unhide HPC w5.drew (Below.refl _ _).drew j (by rw [List.length_take] at hj; omega)).1)
          have hsum : e - b - i + i = e - b := by omega
          rw [hsum] at hrun hown6
          have Hrun := hide hrun
          have hne1 : ¬ e - b = i := by omega
          have hle1 : i ≤ e - b := by omega
          have hle2 : (i : Int) ≤ ((e - b : Nat) : Int) := by omega
          clear hrun
          go_wp2
          go_region_law (refine step_run rfl (.tmp 28) (.tmp 31) rfl _ _ _ _ rfl rfl (unhide Hrun) ?_)
          go_wp2
          go_ret
          rw [unhide HP]
          have hl6 : e - b = (Sp.rot2 pc i).length := by
            unfold Sp.rot2
            rw [List.length_append, unhide HD1, unhide HD2, hsum]
          have hb7 : Below w.heap.size w w6 := (unhide Hb2).trans (((Below.refl _ w5).drew.trans hb6).mono (unhide Hb2).size)
          refine ⟨_, rfl, ?_, hb7⟩
          rw [unhide HI5]
          have hown7 : OwnI w6 w5.heap.size (.slice (some ⟨w5.heap.size, 0, none⟩) (e - b) c6) (Sp.rot2 pc i) := hown6
          show Mine _ _ (.slice (some ⟨w5.heap.size, 0, none⟩) (e - b) c6) (Sp.rot2 pc i)
          exact own_mine hown7 hl6 (unhide Hb2).size
      · have HN : Hid (R = Sp.ofGo row d (ps.drop (k + 1))) := by
          have h := unhide HTG
          rw [if_neg hnm] at h
          exact hide h
        clear hnm
        go_wp2
        go_round
        case rel => exact ⟨k + 1, by omega, by go_num, HN⟩
        case measure => simp [intOf]; omega
    · have HF : Hid (R = []) := by
        have h := unhide HI
        rw [List.drop_eq_nil_of_le (by omega), Sp.ofGo] at h
        exact hide h
      go_wp2
      rw [unhide HP]
      exact ⟨_, rfl, .inl ⟨rfl, unhide HF⟩, unhide Hb2⟩
end Go.Proofs.Ytcdpgiklmonabaa


/- The walks of package rot: About, Face. -/
namespace Go.Proofs.Ytcdpgiklmonabaa
open Go Go.RowKit

set_option maxRecDepth 100000 in
set_option maxHeartbeats 1000000 in
theorem about_any (q : Sp.Net) (v tv nv cv : Value) (d : Int) (w : World) (hv : NetI w v q tv nv cv) (hw : Sp.walkB q = true) :
    Calls Try.prog 25 #[v, .int .i64 d] w fun e w' => ∃ rv, e = .returned rv ∧ Mine w' w.heap.size rv (Sp.roundOf q.next d) ∧ Below w.heap.size w w' := by
  have hq := walkQ hw
  have hv' := hv
  obtain ⟨rfl, h1, h2, h3⟩ := hv
  obtain ⟨ta, tc, rfl, -, -⟩ := h1.form
  obtain ⟨na, nc, rfl, -, -⟩ := h2.form
  obtain ⟨ca, cc, rfl, -, -⟩ := h3.form
  clear h1 h2 h3
  have HBX := hide (box_new w q.n (.slice ta q.tail.length tc) (.slice na q.next.length nc) (.slice ca q.cap.length cc))
  obtain ⟨W1, hW1⟩ : ∃ W1, W1 = w.alloc (.cells #[.int .i64 q.n, .slice ta q.tail.length tc, .slice na q.next.length nc, .slice ca q.cap.length cc] 25) := ⟨_, rfl⟩
  rw [← hW1] at HBX
  have hb1 : Below w.heap.size w W1 := by rw [hW1]; exact (Below.refl _ w).alloc (Nat.le_refl _) _
  have hs1 : W1.heap.size = w.heap.size + 1 := by rw [hW1]; simp
  have HW : Hid (∀ w', Below (w.heap.size + 1) W1 w' → Below w.heap.size w w') := hide fun w' hb => hb1.trans (hb.mono (by omega))
  have HS1 := hide hs1
  have HV : Hid (∀ w', Below (w.heap.size + 1) W1 w' → NetI w' (.agg #[.int .i64 q.n, .slice ta q.tail.length tc, .slice na q.next.length nc, .slice ca q.cap.length cc]) q (.slice ta q.tail.length tc) (.slice na q.next.length nc) (.slice ca q.cap.length cc)) := hide fun w' hb => hv'.below (unhide HW _ hb)
  have HC1 := hide (rwalkable_any q _ _ _ _ W1 (unhide HV W1 (Below.refl _ _)))
  rw [hw] at HC1
  have HQ := hide hq
  generalize hR : Sp.roundOf q.next d = R
  have HR := hide hR
  obtain ⟨P, hP⟩ : ∃ P : Ending → World → Prop, P = fun e w' => ∃ rv, e = .returned rv ∧ Mine w' w.heap.size rv R ∧ Below w.heap.size w w' := ⟨_, rfl⟩
  rw [← hP]
  have HP := hide hP
  obtain ⟨x0, x1, x2, x3, -⟩ := unhide HBX W1 (Below.refl _ _)
  clear hb1 hs1 hv' hw hq hP hR
  subst hW1
  go_enter Try.func25, Try.ntmps25
  go_wp2_with fail
  go_at_call 48
  refine (unhide HC1).mono ?_
  clear HC1 x0 x1 x2 x3
  generalize w.alloc (.cells #[.int .i64 q.n, .slice ta q.tail.length tc, .slice na q.next.length nc, .slice ca q.cap.length cc] 25) = W1 at *
  rintro e w2 ⟨rfl, hb2⟩
  rw [unhide HS1] at hb2
  obtain ⟨x0, x1, x2, x3, hsz2⟩ := unhide HBX w2 hb2
  have HC2 := hide (roundOf_any q.next _ d w2 (unhide HV w2 hb2).next (by rw [(unhide HQ).nx]; exact (unhide HQ).big) (unhide HQ).nb)
  rw [unhide HR] at HC2
  have Hb2 := hide hb2
  clear hb2 x0 x1 x3
  go_wp2_with fail
  go_at_call 54
  refine (unhide HC2).mono ?_
  clear HC2
  rintro e w3 ⟨rv, rfl, hm3, hb3⟩
  have HM : Hid (Mine w3 w.heap.size rv R) := hide (hm3.base (by omega))
  have HB : Hid (Below w.heap.size w w3) := hide (unhide HW _ ((unhide Hb2).trans (hb3.mono hsz2)))
  clear hm3 hb3
  go_wp2
  rw [unhide HP]
  exact ⟨_, rfl, unhide HM, unhide HB⟩
set_option maxRecDepth 100000 in
set_option maxHeartbeats 1000000 in
theorem face_any (q : Sp.Net) (v tv nv cv : Value) (d : Int) (w : World) (hv : NetI w v q tv nv cv) (hw : Sp.walkB q = true) :
    Calls Try.prog 27 #[v, .int .i64 d] w fun e w' => ∃ rv, e = .returned rv ∧ Mine w' w.heap.size rv (Sp.roundOf (Sp.behindL q.next) d) ∧ Below w.heap.size w w' := by
  have hq := walkQ hw
  have hv' := hv
  obtain ⟨rfl, h1, h2, h3⟩ := hv
  obtain ⟨ta, tc, rfl, -, -⟩ := h1.form
  obtain ⟨na, nc, rfl, -, -⟩ := h2.form
  obtain ⟨ca, cc, rfl, -, -⟩ := h3.form
  clear h1 h2 h3
  have HBX := hide (box_new w q.n (.slice ta q.tail.length tc) (.slice na q.next.length nc) (.slice ca q.cap.length cc))
  obtain ⟨W1, hW1⟩ : ∃ W1, W1 = w.alloc (.cells #[.int .i64 q.n, .slice ta q.tail.length tc, .slice na q.next.length nc, .slice ca q.cap.length cc] 25) := ⟨_, rfl⟩
  rw [← hW1] at HBX
  have hb1 : Below w.heap.size w W1 := by rw [hW1]; exact (Below.refl _ w).alloc (Nat.le_refl _) _
  have hs1 : W1.heap.size = w.heap.size + 1 := by rw [hW1]; simp
  have HW : Hid (∀ w', Below (w.heap.size + 1) W1 w' → Below w.heap.size w w') := hide fun w' hb => hb1.trans (hb.mono (by omega))
  have HS1 := hide hs1
  have HV : Hid (∀ w', Below (w.heap.size + 1) W1 w' → NetI w' (.agg #[.int .i64 q.n, .slice ta q.tail.length tc, .slice na q.next.length nc, .slice ca q.cap.length cc]) q (.slice ta q.tail.length tc) (.slice na q.next.length nc) (.slice ca q.cap.length cc)) := hide fun w' hb => hv'.below (unhide HW _ hb)
  have HC1 := hide (rwalkable_any q _ _ _ _ W1 (unhide HV W1 (Below.refl _ _)))
  rw [hw] at HC1
  have HQ := hide hq
  generalize hR : Sp.roundOf (Sp.behindL q.next) d = R
  have HR := hide hR
  obtain ⟨P, hP⟩ : ∃ P : Ending → World → Prop, P = fun e w' => ∃ rv, e = .returned rv ∧ Mine w' w.heap.size rv R ∧ Below w.heap.size w w' := ⟨_, rfl⟩
  rw [← hP]
  have HP := hide hP
  obtain ⟨x0, x1, x2, x3, -⟩ := unhide HBX W1 (Below.refl _ _)
  clear hb1 hs1 hv' hw hq hP hR
  subst hW1
  go_enter Try.func27, Try.ntmps27
  go_wp2_with fail
  go_at_call 48
  refine (unhide HC1).mono ?_
  clear HC1 x0 x1 x2 x3
  generalize w.alloc (.cells #[.int .i64 q.n, .slice ta q.tail.length tc, .slice na q.next.length nc, .slice ca q.cap.length cc] 25) = W1 at *
  rintro e w2 ⟨rfl, hb2⟩
  rw [unhide HS1] at hb2
  obtain ⟨x0, x1, x2, x3, hsz2⟩ := unhide HBX w2 hb2
  have HC2 := hide (behind_any q _ _ _ _ w2 (unhide HV w2 hb2) (by rw [(unhide HQ).nx]; exact (unhide HQ).ev) (by rw [(unhide HQ).nx]; exact (unhide HQ).big))
  have Hb2 := hide hb2
  clear hb2
  go_wp2_with fail
  go_at_call 50
  refine (unhide HC2).mono ?_
  clear HC2
  rintro e w3 ⟨sv, rfl, hown3, hb3⟩
  have hown3' : OwnI w3 w2.heap.size sv (Sp.behindL q.next) := hown3
  have HC3 := hide (roundOf_any (Sp.behindL q.next) sv d w3 hown3'.ints (by rw [Sp.behindL_len, (unhide HQ).nx]; exact (unhide HQ).big) (by rw [Sp.behindL_len]; exact Sp.behindL_bd q.next (by rw [(unhide HQ).nx]; exact (unhide HQ).ev) (unhide HQ).nb))
  rw [unhide HR] at HC3
  have Hb3 : Hid (Below (w.heap.size + 1) W1 w3) := hide ((unhide Hb2).trans (hb3.mono hsz2))
  have hsz3 := Nat.le_trans hsz2 hb3.size
  clear hown3 hown3' hb3 x0 x1 x2 x3
  go_wp2_with fail
  go_at_call 54
  refine (unhide HC3).mono ?_
  clear HC3
  rintro e w4 ⟨rv, rfl, hm4, hb4⟩
  have HM : Hid (Mine w4 w.heap.size rv R) := hide (hm4.base (by omega))
  have HB : Hid (Below w.heap.size w w4) := hide (unhide HW _ ((unhide Hb3).trans (hb4.mono hsz3)))
  clear hm4 hb4
  go_wp2
  rw [unhide HP]
  exact ⟨_, rfl, unhide HM, unhide HB⟩
end Go.Proofs.Ytcdpgiklmonabaa


