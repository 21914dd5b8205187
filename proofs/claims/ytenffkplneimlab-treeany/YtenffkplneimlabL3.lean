/- What the proof needs, part 3. -/
import Derived.Test.YtenffkplneimlabL2
/- The second law's plane nets as a function of the numbers; what each of them keeps. -/
namespace Go.Proofs.Ytenffkplneimlab
open Go Go.RowKit

def Sp.sameL (f nx : List Int) (e a : Nat) : List Nat := (List.range a).filter fun x => f.getD (nx.getD x 0).toNat 0 == f.getD (nx.getD e 0).toNat 0
/-- A new edge whose first dart is laid behind e: to a new vertex, or across a face to where g begins. -/
def Sp.growN (q : Sp.Net) (e : Nat) (c d : Int) : Sp.Net := ⟨q.n + 1, q.tail ++ [q.tail.getD e 0, q.n], Sp.layIn (q.next ++ [(q.tail.length : Int), ((q.tail.length + 1 : Nat) : Int)]) e q.tail.length, q.cap ++ [c, d]⟩
def Sp.growF (q : Sp.Net) (e g : Nat) (c d : Int) : Sp.Net := ⟨q.n, q.tail ++ [q.tail.getD e 0, q.tail.getD g 0], Sp.layIn (Sp.layIn (q.next ++ [(q.tail.length : Int), ((q.tail.length + 1 : Nat) : Int)]) e q.tail.length) (if g = e then q.tail.length else g) (q.tail.length + 1), q.cap ++ [c, d]⟩
def Sp.planeE (q : Sp.Net) (k : Int) : Nat := (k / 5 % (q.tail.length : Int)).toNat
def Sp.planeS (q : Sp.Net) (k : Int) : List Nat := Sp.sameL (Sp.faces2 q).1 q.next (Sp.planeE q k) q.tail.length
def Sp.planeG (q : Sp.Net) (k : Int) : Nat := (Sp.planeS q k).getD (k / 1200 % ((Sp.planeS q k).length : Int)).toNat 0
def Sp.planeK (q : Sp.Net) (k : Int) : Sp.Net :=
  if q.tail.length = 0 then (if k % 5 = 0 then ⟨1, [0, 0], [1, 0], [Sp.capOf (k / 30), Sp.capOf (k / 7000)]⟩ else ⟨2, [0, 1], [0, 1], [Sp.capOf (k / 30), Sp.capOf (k / 7000)]⟩)
  else if k % 5 < 2 then Sp.growN q (Sp.planeE q k) (Sp.capOf (k / 30)) (Sp.capOf (k / 7000))
  else Sp.growF q (Sp.planeE q k) (Sp.planeG q k) (Sp.capOf (k / 30)) (Sp.capOf (k / 7000))
def Sp.planeN (ns : List Int) : Nat → Sp.Net
  | 0 => ⟨1, [], [], []⟩
  | i + 1 => Sp.planeK (Sp.planeN ns i) (ns.getD i 0 % 1125899906842624)
def Sp.plane (ns : List Int) : Sp.Net := Sp.planeN ns (min ns.length 24)
/-- Each dart's next one begins where it does. -/
def Sp.TurnsOK (T l : List Int) : Prop := ∀ i, i < l.length → T.getD (l.getD i 0).toNat 0 = T.getD i 0
structure Sp.PlaneQ (q : Sp.Net) (i : Nat) : Prop where
  ev : q.tail.length % 2 = 0
  le : q.tail.length ≤ 2 * i
  n0 : 1 ≤ q.n
  n1 : q.n ≤ (i : Int) + 1
  nx : q.next.length = q.tail.length
  cp : q.cap.length = q.tail.length
  pm : Sp.Perm q.next
  tb : ∀ x ∈ q.tail, 0 ≤ x ∧ x < q.n
  cb : ∀ x ∈ q.cap, 0 ≤ x ∧ x ≤ 2147483648
  tn : Sp.TurnsOK q.tail q.next
theorem getD_app0 (l : List Int) (x y : Int) (i : Nat) (h : i < l.length) : (l ++ [x, y]).getD i 0 = l.getD i 0 := by
  rw [List.getD_eq_getElem?_getD, List.getElem?_append_left h, ← List.getD_eq_getElem?_getD]
theorem getD_app1 (l : List Int) (x y : Int) : (l ++ [x, y]).getD l.length 0 = x := by simp [List.getD_eq_getElem?_getD]
theorem getD_app2 (l : List Int) (x y : Int) : (l ++ [x, y]).getD (l.length + 1) 0 = y := by simp [List.getD_eq_getElem?_getD]
theorem Sp.layIn_len (l : List Int) (bh d : Nat) : (Sp.layIn l bh d).length = l.length := by simp [Sp.layIn]
theorem Sp.layIn_get (l : List Int) (bh d i : Nat) (hb : bh < l.length) (hd : d < l.length) : (Sp.layIn l bh d).getD i 0 = if i = bh then (d : Int) else if i = d then l.getD bh 0 else l.getD i 0 := by
  unfold Sp.layIn
  rw [getD_set_eq _ _ _ _ (by rw [List.length_set]; exact hb), getD_set_eq _ _ _ _ hd]
theorem Sp.TurnsOK.lay {T l : List Int} (h : Sp.TurnsOK T l) (bh d : Nat) (hb : bh < l.length) (hd : d < l.length) (he : T.getD bh 0 = T.getD d 0) : Sp.TurnsOK T (Sp.layIn l bh d) := by
  intro i hi
  rw [Sp.layIn_len] at hi
  rw [Sp.layIn_get l bh d i hb hd]
  by_cases h1 : i = bh
  · rw [if_pos h1, Int.toNat_natCast, h1]; exact he.symm
  · rw [if_neg h1]
    by_cases h2 : i = d
    · rw [if_pos h2, h2, h bh hb]; exact he
    · rw [if_neg h2]; exact h i hi
theorem Sp.TurnsOK.add {T l : List Int} (h : Sp.TurnsOK T l) (hl : l.length = T.length) (hb : ∀ x ∈ l, 0 ≤ x ∧ x < (l.length : Int)) (x y : Int) : Sp.TurnsOK (T ++ [x, y]) (l ++ [(T.length : Int), ((T.length + 1 : Nat) : Int)]) := by
  intro i hi
  rw [List.length_append] at hi
  rcases Nat.lt_or_ge i l.length with h1 | h1
  · have hx := hb _ (Sp.getD_mem h1)
    rw [getD_app0 l _ _ i h1, getD_app0 T _ _ i (by omega), getD_app0 T _ _ _ (by omega)]
    exact h i h1
  · have : i = l.length ∨ i = l.length + 1 := by simp at hi; omega
    rcases this with rfl | rfl
    · rw [getD_app1, Int.toNat_natCast, hl]
    · rw [getD_app2, Int.toNat_natCast, hl]
theorem Sp.sameL_lt {f nx : List Int} {e a x : Nat} (h : x ∈ Sp.sameL f nx e a) : x < a := List.mem_range.1 (List.mem_filter.1 h).1
theorem Sp.sameL_self {f nx : List Int} {e a : Nat} (h : e < a) : e ∈ Sp.sameL f nx e a := List.mem_filter.2 ⟨List.mem_range.2 h, by simp⟩
theorem Sp.sameL_le (f nx : List Int) (e a : Nat) : (Sp.sameL f nx e a).length ≤ a := by
  have := List.length_filter_le (fun x => f.getD (nx.getD x 0).toNat 0 == f.getD (nx.getD e 0).toNat 0) (List.range a)
  rw [List.length_range] at this
  exact this
theorem Sp.sameL_succ (f nx : List Int) (e x : Nat) : Sp.sameL f nx e (x + 1) = Sp.sameL f nx e x ++ (if f.getD (nx.getD x 0).toNat 0 = f.getD (nx.getD e 0).toNat 0 then [x] else []) := by
  unfold Sp.sameL
  rw [List.range_succ, List.filter_append]
  congr 1
  by_cases h : f.getD (nx.getD x 0).toNat 0 = f.getD (nx.getD e 0).toNat 0
  · rw [if_pos h]
    have hb : (f.getD (nx.getD x 0).toNat 0 == f.getD (nx.getD e 0).toNat 0) = true := beq_iff_eq.2 h
    show (match (f.getD (nx.getD x 0).toNat 0 == f.getD (nx.getD e 0).toNat 0) with | true => [x] | false => []) = [x]
    rw [hb]
  · rw [if_neg h]
    have hb : (f.getD (nx.getD x 0).toNat 0 == f.getD (nx.getD e 0).toNat 0) = false := beq_eq_false_iff_ne.2 h
    show (match (f.getD (nx.getD x 0).toNat 0 == f.getD (nx.getD e 0).toNat 0) with | true => [x] | false => []) = []
    rw [hb]
theorem Sp.planeE_lt (q : Sp.Net) (k : Int) (h : 0 < q.tail.length) : Sp.planeE q k < q.tail.length := by
  have h0 : 0 ≤ k / 5 % (q.tail.length : Int) := Int.emod_nonneg _ (by omega)
  have h1 : k / 5 % (q.tail.length : Int) < q.tail.length := Int.emod_lt_of_pos _ (by omega)
  unfold Sp.planeE
  omega
theorem Sp.planeS_pos (q : Sp.Net) (k : Int) (h : 0 < q.tail.length) : 0 < (Sp.planeS q k).length := List.length_pos_of_mem (Sp.sameL_self (Sp.planeE_lt q k h))
theorem Sp.planeG_mem (q : Sp.Net) (k : Int) (h : 0 < q.tail.length) : Sp.planeG q k ∈ Sp.planeS q k := by
  have hp := Sp.planeS_pos q k h
  have h0 : 0 ≤ k / 1200 % ((Sp.planeS q k).length : Int) := Int.emod_nonneg _ (by omega)
  have h1 : k / 1200 % ((Sp.planeS q k).length : Int) < (Sp.planeS q k).length := Int.emod_lt_of_pos _ (by omega)
  have hl : (k / 1200 % ((Sp.planeS q k).length : Int)).toNat < (Sp.planeS q k).length := by omega
  unfold Sp.planeG
  rw [List.getD_eq_getElem?_getD, List.getElem?_eq_getElem hl]
  exact List.getElem_mem hl
theorem Sp.planeG_lt (q : Sp.Net) (k : Int) (h : 0 < q.tail.length) : Sp.planeG q k < q.tail.length := Sp.sameL_lt (Sp.planeG_mem q k h)
theorem Sp.PlaneQ.growN {q : Sp.Net} {i : Nat} (h : Sp.PlaneQ q i) (e : Nat) (he : e < q.tail.length) (c d : Int) (hc : 0 ≤ c ∧ c ≤ 2147483648) (hd : 0 ≤ d ∧ d ≤ 2147483648) : Sp.PlaneQ (Sp.growN q e c d) (i + 1) := by
  have hte := h.tb _ (Sp.getD_mem he)
  have hl1 : (q.next ++ [(q.tail.length : Int), ((q.tail.length + 1 : Nat) : Int)]).length = q.tail.length + 2 := by simp [h.nx]
  have hp1 : Sp.Perm (q.next ++ [(q.tail.length : Int), ((q.tail.length + 1 : Nat) : Int)]) := by have := h.pm.add; rw [h.nx] at this; exact this
  have hf1 : (q.next ++ [(q.tail.length : Int), ((q.tail.length + 1 : Nat) : Int)]).getD q.tail.length 0 = (q.tail.length : Int) := by have := getD_app1 q.next (q.tail.length : Int) ((q.tail.length + 1 : Nat) : Int); rw [h.nx] at this; exact this
  refine ⟨?_, ?_, ?_, ?_, ?_, ?_, ?_, ?_, ?_, ?_⟩
  · simp [Sp.growN, h.ev]
  · have := h.le; simp [Sp.growN]; omega
  · have := h.n0; simp [Sp.growN]; omega
  · have := h.n1; simp [Sp.growN]; omega
  · simp [Sp.growN, Sp.layIn_len, h.nx]
  · simp [Sp.growN, h.cp]
  · exact hp1.lay e q.tail.length (by omega) (by omega) hf1
  · intro x hx
    show 0 ≤ x ∧ x < q.n + 1
    rcases List.mem_append.1 hx with hx | hx
    · have := h.tb x hx; omega
    · simp only [List.mem_cons, List.not_mem_nil, or_false] at hx
      have := h.n0
      rcases hx with rfl | rfl <;> omega
  · intro x hx
    rcases List.mem_append.1 hx with hx | hx
    · exact h.cb x hx
    · simp only [List.mem_cons, List.not_mem_nil, or_false] at hx
      rcases hx with rfl | rfl
      · exact hc
      · exact hd
  · refine (h.tn.add h.nx h.pm.bd _ _).lay e q.tail.length (by omega) (by omega) ?_
    rw [getD_app0 _ _ _ _ he, getD_app1]
theorem Sp.PlaneQ.growF {q : Sp.Net} {i : Nat} (h : Sp.PlaneQ q i) (e g : Nat) (he : e < q.tail.length) (hg : g < q.tail.length) (c d : Int) (hc : 0 ≤ c ∧ c ≤ 2147483648) (hd : 0 ≤ d ∧ d ≤ 2147483648) : Sp.PlaneQ (Sp.growF q e g c d) (i + 1) := by
  have hte := h.tb _ (Sp.getD_mem he)
  have htg := h.tb _ (Sp.getD_mem hg)
  have hl1 : (q.next ++ [(q.tail.length : Int), ((q.tail.length + 1 : Nat) : Int)]).length = q.tail.length + 2 := by simp [h.nx]
  have hp1 : Sp.Perm (q.next ++ [(q.tail.length : Int), ((q.tail.length + 1 : Nat) : Int)]) := by have := h.pm.add; rw [h.nx] at this; exact this
  have hf1 : (q.next ++ [(q.tail.length : Int), ((q.tail.length + 1 : Nat) : Int)]).getD q.tail.length 0 = (q.tail.length : Int) := by have := getD_app1 q.next (q.tail.length : Int) ((q.tail.length + 1 : Nat) : Int); rw [h.nx] at this; exact this
  have hf2 : (q.next ++ [(q.tail.length : Int), ((q.tail.length + 1 : Nat) : Int)]).getD (q.tail.length + 1) 0 = ((q.tail.length + 1 : Nat) : Int) := by have := getD_app2 q.next (q.tail.length : Int) ((q.tail.length + 1 : Nat) : Int); rw [h.nx] at this; exact this
  have hp2 := hp1.lay e q.tail.length (by omega) (by omega) hf1
  have hg2 : (if g = e then q.tail.length else g) < q.tail.length + 2 := by split <;> omega
  refine ⟨?_, ?_, ?_, ?_, ?_, ?_, ?_, ?_, ?_, ?_⟩
  · simp [Sp.growF, h.ev]
  · have := h.le; simp [Sp.growF]; omega
  · exact h.n0
  · have := h.n1; show q.n ≤ ((i + 1 : Nat) : Int) + 1; omega
  · simp [Sp.growF, Sp.layIn_len, h.nx]
  · simp [Sp.growF, h.cp]
  · refine hp2.lay _ (q.tail.length + 1) (by rw [Sp.layIn_len, hl1]; exact hg2) (by rw [Sp.layIn_len, hl1]; omega) ?_
    rw [Sp.layIn_get _ _ _ _ (by omega) (by omega), if_neg (by omega), if_neg (by omega)]
    exact hf2
  · intro x hx
    show 0 ≤ x ∧ x < q.n
    rcases List.mem_append.1 hx with hx | hx
    · exact h.tb x hx
    · simp only [List.mem_cons, List.not_mem_nil, or_false] at hx
      rcases hx with rfl | rfl
      · exact hte
      · exact htg
  · intro x hx
    rcases List.mem_append.1 hx with hx | hx
    · exact h.cb x hx
    · simp only [List.mem_cons, List.not_mem_nil, or_false] at hx
      rcases hx with rfl | rfl
      · exact hc
      · exact hd
  · refine ((h.tn.add h.nx h.pm.bd _ _).lay e q.tail.length (by omega) (by omega) ?_).lay _ (q.tail.length + 1) (by rw [Sp.layIn_len, hl1]; exact hg2) (by rw [Sp.layIn_len, hl1]; omega) ?_
    · rw [getD_app0 _ _ _ _ he, getD_app1]
    · rw [getD_app2]
      by_cases hge : g = e
      · rw [if_pos hge, getD_app1, hge]
      · rw [if_neg hge, getD_app0 _ _ _ _ hg]
theorem Sp.PlaneQ.first (i : Nat) : Sp.PlaneQ ⟨1, [], [], []⟩ i := by
  refine ⟨rfl, Nat.zero_le _, Int.le_refl _, by show (1 : Int) ≤ (i : Int) + 1; omega, rfl, rfl, ⟨fun x hx => (List.not_mem_nil hx).elim, fun i j hi => (Nat.not_lt_zero _ hi).elim⟩, fun x hx => (List.not_mem_nil hx).elim, fun x hx => (List.not_mem_nil hx).elim, fun i hi => (Nat.not_lt_zero _ hi).elim⟩
theorem Sp.PlaneQ.step {q : Sp.Net} {i : Nat} (h : Sp.PlaneQ q i) (k : Int) : Sp.PlaneQ (Sp.planeK q k) (i + 1) := by
  unfold Sp.planeK
  have hc := Sp.capOf_bd (k / 30)
  have hd := Sp.capOf_bd (k / 7000)
  generalize Sp.capOf (k / 30) = c at *
  generalize Sp.capOf (k / 7000) = d at *
  have hcb : ∀ x ∈ [c, d], 0 ≤ x ∧ x ≤ 2147483648 := by
    intro x hx
    simp only [List.mem_cons, List.not_mem_nil, or_false] at hx
    rcases hx with rfl | rfl
    · exact hc
    · exact hd
  split
  · split
    · refine ⟨by show 2 % 2 = 0; decide, ?_, Int.le_refl _, by show (1 : Int) ≤ ((i + 1 : Nat) : Int) + 1; omega, rfl, rfl, ⟨?_, ?_⟩, ?_, hcb, ?_⟩
      · show 2 ≤ 2 * (i + 1); omega
      · intro x hx; simp only [List.mem_cons, List.not_mem_nil, or_false] at hx; rcases hx with rfl | rfl <;> simp
      · intro i j hi hj e
        have hi' : i < 2 := hi
        have hj' : j < 2 := hj
        have : (i = 0 ∨ i = 1) ∧ (j = 0 ∨ j = 1) := by omega
        rcases this with ⟨rfl | rfl, rfl | rfl⟩ <;> simp at e <;> rfl
      · intro x hx; simp only [List.mem_cons, List.not_mem_nil, or_false] at hx; rcases hx with rfl | rfl <;> simp
      · intro i hi
        have hi' : i < 2 := hi
        have : i = 0 ∨ i = 1 := by omega
        rcases this with rfl | rfl <;> rfl
    · refine ⟨by show 2 % 2 = 0; decide, ?_, by show (1 : Int) ≤ 2; omega, by show (2 : Int) ≤ ((i + 1 : Nat) : Int) + 1; omega, rfl, rfl, ⟨?_, ?_⟩, ?_, hcb, ?_⟩
      · show 2 ≤ 2 * (i + 1); omega
      · intro x hx; simp only [List.mem_cons, List.not_mem_nil, or_false] at hx; rcases hx with rfl | rfl <;> simp
      · intro i j hi hj e
        have hi' : i < 2 := hi
        have hj' : j < 2 := hj
        have : (i = 0 ∨ i = 1) ∧ (j = 0 ∨ j = 1) := by omega
        rcases this with ⟨rfl | rfl, rfl | rfl⟩ <;> simp at e <;> rfl
      · intro x hx; simp only [List.mem_cons, List.not_mem_nil, or_false] at hx; rcases hx with rfl | rfl <;> simp
      · intro i hi
        have hi' : i < 2 := hi
        have : i = 0 ∨ i = 1 := by omega
        rcases this with rfl | rfl <;> rfl
  · rename_i hne
    split
    · exact h.growN _ (Sp.planeE_lt q k (by omega)) _ _ hc hd
    · exact h.growF _ _ (Sp.planeE_lt q k (by omega)) (Sp.planeG_lt q k (by omega)) _ _ hc hd
theorem Sp.planeN_ok (ns : List Int) : ∀ i, Sp.PlaneQ (Sp.planeN ns i) i
  | 0 => Sp.PlaneQ.first 0
  | i + 1 => (Sp.planeN_ok ns i).step _
theorem Sp.faces2Go_len (st : List Int) : ∀ f d of k, (Sp.faces2Go st f d of k).1.length = of.length
  | 0, _, _, _ => rfl
  | f + 1, d, of, k => by
    rw [Sp.faces2Go]
    split
    · exact Sp.faces2Go_len st f _ _ _
    · rw [Sp.faces2Go_len st f, Sp.paint_len]
theorem Sp.faces2_len (q : Sp.Net) : (Sp.faces2 q).1.length = q.tail.length := by
  unfold Sp.faces2
  rw [Sp.faces2Go_len, List.length_replicate]
/-- A row that is not empty lies in a block of its own. -/
theorem own_form {w : World} {B : Nat} {v : Value} {l : List Int} (h : OwnI w B v l) (hl : 0 < l.length) : ∃ g c, v = .slice (some ⟨g, 0, none⟩) l.length c ∧ B ≤ g ∧ g < w.heap.size ∧ l.length ≤ c ∧ c ≤ maxLen := by
  have hlt := h.lt
  obtain ⟨a, c, hv, hc, hm⟩ := h.ints.form
  obtain ⟨hx, hv' | ⟨g, cap, cur, hv', hg, hh, r⟩⟩ := h
  · rw [hv] at hv'
    simp at hv'
    omega
  · rw [hv] at hv'
    injection hv' with h1 h2 h3
    subst h1 h3
    exact ⟨g, c, hv, hg, (hlt g (by rw [hv]; rfl)).2, hc, hm⟩
theorem MakeAt.setF0 {w wx : World} {n : Int} {tv nv cv : Value} (h : MakeAt w wx n tv nv cv) (y : Int) : MakeAt w (wx.setCell ⟨w.heap.size + 1, 0, none⟩ (.int .i64 y)) y tv nv cv :=
  ⟨by rw [heap_setCell_other _ _ _ _ (by simp)]; exact h.b0, by rw [heap_setCell_same wx (w.heap.size + 1) 0 _ _ _ h.b1]; rfl, h.bel.setCell (by simp) _⟩
theorem MakeAt.setF1 {w wx : World} {n : Int} {tv nv cv : Value} (h : MakeAt w wx n tv nv cv) (u : Value) : MakeAt w (wx.setCell ⟨w.heap.size + 1, 1, none⟩ u) n u nv cv :=
  ⟨by rw [heap_setCell_other _ _ _ _ (by simp)]; exact h.b0, by rw [heap_setCell_same wx (w.heap.size + 1) 1 _ _ _ h.b1]; rfl, h.bel.setCell (by simp) _⟩
theorem MakeAt.setF2 {w wx : World} {n : Int} {tv nv cv : Value} (h : MakeAt w wx n tv nv cv) (u : Value) : MakeAt w (wx.setCell ⟨w.heap.size + 1, 2, none⟩ u) n tv u cv :=
  ⟨by rw [heap_setCell_other _ _ _ _ (by simp)]; exact h.b0, by rw [heap_setCell_same wx (w.heap.size + 1) 2 _ _ _ h.b1]; rfl, h.bel.setCell (by simp) _⟩
theorem MakeAt.setF3 {w wx : World} {n : Int} {tv nv cv : Value} (h : MakeAt w wx n tv nv cv) (u : Value) : MakeAt w (wx.setCell ⟨w.heap.size + 1, 3, none⟩ u) n tv nv u :=
  ⟨by rw [heap_setCell_other _ _ _ _ (by simp)]; exact h.b0, by rw [heap_setCell_same wx (w.heap.size + 1) 3 _ _ _ h.b1]; rfl, h.bel.setCell (by simp) _⟩
theorem MakeAt.but {w wx wy : World} {n : Int} {tv nv cv : Value} (h : MakeAt w wx n tv nv cv) {g : Nat} (hb : ButRow g wx wy) (hg : w.heap.size + 2 ≤ g) : MakeAt w wy n tv nv cv :=
  ⟨(hb.block _ (by omega)).trans h.b0, (hb.block _ (by omega)).trans h.b1, ⟨hb.os.trans h.bel.os, hb.tape.trans h.bel.tape, hb.output.trans h.bel.output, by rw [hb.size]; exact h.bel.size, fun k hk => (hb.block k (by omega)).trans (h.bel.block k hk)⟩⟩
/-- A net of two darts, its rows laid down and stored whole. -/
theorem MakeAt.lits {w wx : World} {n : Int} {tv nv cv : Value} (h : MakeAt w wx n tv nv cv) (m a0 a1 b0 b1 c0 c1 : Int) (s s1 s2 : Nat) (hs : s = wx.heap.size) (hs1 : s1 = s + 1) (hs2 : s2 = s + 2) :
    ∀ X, X = ((((((wx.alloc (.cells #[.int .i64 a0, .int .i64 a1] 3)).alloc (.cells #[.int .i64 b0, .int .i64 b1] 3)).alloc (.cells #[.int .i64 c0, .int .i64 c1] 3)).setCell ⟨w.heap.size + 1, 0, none⟩ (.int .i64 m)).setCell ⟨w.heap.size + 1, 1, none⟩ (.slice (some ⟨s, 0, none⟩) 2 2)).setCell ⟨w.heap.size + 1, 2, none⟩ (.slice (some ⟨s1, 0, none⟩) 2 2)).setCell ⟨w.heap.size + 1, 3, none⟩ (.slice (some ⟨s2, 0, none⟩) 2 2) →
    NetV X (w.heap.size + 2) (.agg #[.int .i64 m, .slice (some ⟨s, 0, none⟩) 2 2, .slice (some ⟨s1, 0, none⟩) 2 2, .slice (some ⟨s2, 0, none⟩) 2 2]) ⟨m, [a0, a1], [b0, b1], [c0, c1]⟩ (.slice (some ⟨s, 0, none⟩) 2 2) (.slice (some ⟨s1, 0, none⟩) 2 2) (.slice (some ⟨s2, 0, none⟩) 2 2) ∧ MakeAt w X m (.slice (some ⟨s, 0, none⟩) 2 2) (.slice (some ⟨s1, 0, none⟩) 2 2) (.slice (some ⟨s2, 0, none⟩) 2 2) := by
  intro X hX
  subst hs hs1 hs2
  have hsz := h.size
  have o1 := own_lit wx (w.heap.size + 2) wx.heap.size 2 [a0, a1] rfl rfl (by omega) (by simp)
  have o2 := own_lit (wx.alloc (.cells #[.int .i64 a0, .int .i64 a1] 3)) (w.heap.size + 2) (wx.heap.size + 1) 2 [b0, b1] (by simp) rfl (by simp; omega) (by simp)
  have o3 := own_lit ((wx.alloc (.cells #[.int .i64 a0, .int .i64 a1] 3)).alloc (.cells #[.int .i64 b0, .int .i64 b1] 3)) (w.heap.size + 2) (wx.heap.size + 2) 2 [c0, c1] (by simp) rfl (by simp; omega) (by simp)
  have o2' := World.ownsRow.alloc o2 (.cells #[.int .i64 c0, .int .i64 c1] 3)
  have o1' := World.ownsRow.alloc (World.ownsRow.alloc o1 (.cells #[.int .i64 b0, .int .i64 b1] 3)) (.cells #[.int .i64 c0, .int .i64 c1] 3)
  have hbb : Below wx.heap.size wx (((wx.alloc (.cells #[.int .i64 a0, .int .i64 a1] 3)).alloc (.cells #[.int .i64 b0, .int .i64 b1] 3)).alloc (.cells #[.int .i64 c0, .int .i64 c1] 3)) := (((Below.refl _ _).alloc (Nat.le_refl _) _).alloc (by simp) _).alloc (by simp; omega) _
  have hM := (h.below hbb).set m (.slice (some ⟨wx.heap.size, 0, none⟩) 2 2) (.slice (some ⟨wx.heap.size + 1, 0, none⟩) 2 2) (.slice (some ⟨wx.heap.size + 2, 0, none⟩) 2 2)
  subst hX
  refine ⟨⟨rfl, four_own o1' (by omega) _ _ _ _, four_own o2' (by omega) _ _ _ _, four_own o3 (by omega) _ _ _ _, .inr ?_, .inr ?_, .inr ?_⟩, hM⟩
  all_goals
    simp only [Value.ownBlock, ne_eq, Option.some.injEq]
    omega
end Go.Proofs.Ytenffkplneimlab


