/- What the proof needs, part 5. -/
import Derived.Lib.SliceRun
import Derived.Test.YtoegjnolccabjabL4
/- The second law's plane nets as a function of the numbers; what each of them keeps. -/
namespace Go.Proofs.Ytoegjnolccabjab
open Go Go.RowKit

def Sp.sameL (f nx : List Int) (e a : Nat) : List Nat := (List.range a).filter fun x => f.getD (nx.getD x 0).toNat 0 == f.getD (nx.getD e 0).toNat 0
/-- A new edge whose first dart is laid behind e: to a new vertex, or across a face to where g begins. -/
def Sp.growN (q : Sp.Net) (e : Nat) (c d : Int) : Sp.Net := ⟨q.n + 1, q.tail ++ [q.tail.getD e 0, q.n], Sp.layIn (q.next ++ [(q.tail.length : Int), ((q.tail.length + 1 : Nat) : Int)]) e q.tail.length, q.cap ++ [c, d]⟩
def Sp.growF (q : Sp.Net) (e g : Nat) (c d : Int) : Sp.Net := ⟨q.n, q.tail ++ [q.tail.getD e 0, q.tail.getD g 0], Sp.layIn (Sp.layIn (q.next ++ [(q.tail.length : Int), ((q.tail.length + 1 : Nat) : Int)]) e q.tail.length) (if g = e then q.tail.length else g) (q.tail.length + 1), q.cap ++ [c, d]⟩
def Sp.planeE (q : Sp.Net) (k : Int) : Nat := (k / 5 % (q.tail.length : Int)).toNat
def Sp.planeS (q : Sp.Net) (k : Int) : List Nat := Sp.sameL (Sp.faces2 q).1 q.next (Sp.planeE q k) q.tail.length
def Sp.planeG (q : Sp.Net) (k : Int) : Nat := (Sp.planeS q k).getD (k / 1200 % ((Sp.planeS q k).length : Int)).toNat 0
def Sp.planeK (q : Sp.Net) (k : Int) : Sp.Net :=
  if q.tail.length = 0 then (if k % 5 = 0 then ⟨1, [0, 0], [1, 0], [Sp.capOf (k / 30), Sp.capOf (k / 7000)]⟩ else ⟨2, [0, 1], [0, 1], [Sp.capOf (k / 30), Sp.capOf (k / 7000)]⟩)
  else if k % 5 < 2 then Sp.growN q (Sp.planeE q k) (Sp.capOf (k / 30)) (Sp.capOf (k / 7000))
  else Sp.growF q (Sp.planeE q k) (Sp.planeG q k) (Sp.capOf (k / 30)) (Sp.capOf (k / 7000))
def Sp.planeN (ns : List Int) : Nat → Sp.Net
  | 0 => ⟨1, [], [], []⟩
  | i + 1 => Sp.planeK (Sp.planeN ns i) (ns.getD i 0 % 1125899906842624)
def Sp.plane (ns : List Int) : Sp.Net := Sp.planeN ns (min ns.length 24)
/-- Each dart's next one begins where it does. -/
def Sp.TurnsOK (T l : List Int) : Prop := ∀ i, i < l.length → T.getD (l.getD i 0).toNat 0 = T.getD i 0
structure Sp.PlaneQ (q : Sp.Net) (i : Nat) : Prop where
  ev : q.tail.length % 2 = 0
  le : q.tail.length ≤ 2 * i
  n0 : 1 ≤ q.n
  n1 : q.n ≤ (i : Int) + 1
  nx : q.next.length = q.tail.length
  cp : q.cap.length = q.tail.length
  pm : Sp.Perm q.next
  tb : ∀ x ∈ q.tail, 0 ≤ x ∧ x < q.n
  cb : ∀ x ∈ q.cap, 0 ≤ x ∧ x ≤ 2147483648
  tn : Sp.TurnsOK q.tail q.next
theorem getD_app0 (l : List Int) (x y : Int) (i : Nat) (h : i < l.length) : (l ++ [x, y]).getD i 0 = l.getD i 0 := by
  rw [List.getD_eq_getElem?_getD, List.getElem?_append_left h, ← List.getD_eq_getElem?_getD]
theorem getD_app1 (l : List Int) (x y : Int) : (l ++ [x, y]).getD l.length 0 = x := by simp [List.getD_eq_getElem?_getD]
theorem getD_app2 (l : List Int) (x y : Int) : (l ++ [x, y]).getD (l.length + 1) 0 = y := by simp [List.getD_eq_getElem?_getD]
theorem Sp.layIn_len (l : List Int) (bh d : Nat) : (Sp.layIn l bh d).length = l.length := by simp [Sp.layIn]
theorem Sp.layIn_get (l : List Int) (bh d i : Nat) (hb : bh < l.length) (hd : d < l.length) : (Sp.layIn l bh d).getD i 0 = if i = bh then (d : Int) else if i = d then l.getD bh 0 else l.getD i 0 := by
  unfold Sp.layIn
  rw [getD_set_eq _ _ _ _ (by rw [List.length_set]; exact hb), getD_set_eq _ _ _ _ hd]
theorem Sp.TurnsOK.lay {T l : List Int} (h : Sp.TurnsOK T l) (bh d : Nat) (hb : bh < l.length) (hd : d < l.length) (he : T.getD bh 0 = T.getD d 0) : Sp.TurnsOK T (Sp.layIn l bh d) := by
  intro i hi
  rw [Sp.layIn_len] at hi
  rw [Sp.layIn_get l bh d i hb hd]
  by_cases h1 : i = bh
  · rw [if_pos h1, Int.toNat_natCast, h1]; exact he.symm
  · rw [if_neg h1]
    by_cases h2 : i = d
    · rw [if_pos h2, h2, h bh hb]; exact he
    · rw [if_neg h2]; exact h i hi
theorem Sp.TurnsOK.add {T l : List Int} (h : Sp.TurnsOK T l) (hl : l.length = T.length) (hb : ∀ x ∈ l, 0 ≤ x ∧ x < (l.length : Int)) (x y : Int) : Sp.TurnsOK (T ++ [x, y]) (l ++ [(T.length : Int), ((T.length + 1 : Nat) : Int)]) := by
  intro i hi
  rw [List.length_append] at hi
  rcases Nat.lt_or_ge i l.length with h1 | h1
  · have hx := hb _ (Sp.getD_mem h1)
    rw [getD_app0 l _ _ i h1, getD_app0 T _ _ i (by omega), getD_app0 T _ _ _ (by omega)]
    exact h i h1
  · have : i = l.length ∨ i = l.length + 1 := by simp at hi; omega
    rcases this with rfl | rfl
    · rw [getD_app1, Int.toNat_natCast, hl]
    · rw [getD_app2, Int.toNat_natCast, hl]
theorem Sp.sameL_lt {f nx : List Int} {e a x : Nat} (h : x ∈ Sp.sameL f nx e a) : x < a := List.mem_range.1 (List.mem_filter.1 h).1
theorem Sp.sameL_self {f nx : List Int} {e a : Nat} (h : e < a) : e ∈ Sp.sameL f nx e a := List.mem_filter.2 ⟨List.mem_range.2 h, by simp⟩
theorem Sp.planeE_lt (q : Sp.Net) (k : Int) (h : 0 < q.tail.length) : Sp.planeE q k < q.tail.length := by
  have h0 : 0 ≤ k / 5 % (q.tail.length : Int) := Int.emod_nonneg _ (by omega)
  have h1 : k / 5 % (q.tail.length : Int) < q.tail.length := Int.emod_lt_of_pos _ (by omega)
  unfold Sp.planeE
  omega
theorem Sp.planeS_pos (q : Sp.Net) (k : Int) (h : 0 < q.tail.length) : 0 < (Sp.planeS q k).length := List.length_pos_of_mem (Sp.sameL_self (Sp.planeE_lt q k h))
theorem Sp.planeG_mem (q : Sp.Net) (k : Int) (h : 0 < q.tail.length) : Sp.planeG q k ∈ Sp.planeS q k := by
  have hp := Sp.planeS_pos q k h
  have h0 : 0 ≤ k / 1200 % ((Sp.planeS q k).length : Int) := Int.emod_nonneg _ (by omega)
  have h1 : k / 1200 % ((Sp.planeS q k).length : Int) < (Sp.planeS q k).length := Int.emod_lt_of_pos _ (by omega)
  have hl : (k / 1200 % ((Sp.planeS q k).length : Int)).toNat < (Sp.planeS q k).length := by omega
  unfold Sp.planeG
  rw [List.getD_eq_getElem?_getD, List.getElem?_eq_getElem hl]
  exact List.getElem_mem hl
theorem Sp.planeG_lt (q : Sp.Net) (k : Int) (h : 0 < q.tail.length) : Sp.planeG q k < q.tail.length := Sp.sameL_lt (Sp.planeG_mem q k h)
theorem Sp.PlaneQ.growN {q : Sp.Net} {i : Nat} (h : Sp.PlaneQ q i) (e : Nat) (he : e < q.tail.length) (c d : Int) (hc : 0 ≤ c ∧ c ≤ 2147483648) (hd : 0 ≤ d ∧ d ≤ 2147483648) : Sp.PlaneQ (Sp.growN q e c d) (i + 1) := by
  have hte := h.tb _ (Sp.getD_mem he)
  have hl1 : (q.next ++ [(q.tail.length : Int), ((q.tail.length + 1 : Nat) : Int)]).length = q.tail.length + 2 := by simp [h.nx]
  have hp1 : Sp.Perm (q.next ++ [(q.tail.length : Int), ((q.tail.length + 1 : Nat) : Int)]) := by have := h.pm.add; rw [h.nx] at this; exact this
  have hf1 : (q.next ++ [(q.tail.length : Int), ((q.tail.length + 1 : Nat) : Int)]).getD q.tail.length 0 = (q.tail.length : Int) := by have := getD_app1 q.next (q.tail.length : Int) ((q.tail.length + 1 : Nat) : Int); rw [h.nx] at this; exact this
  refine ⟨?_, ?_, ?_, ?_, ?_, ?_, ?_, ?_, ?_, ?_⟩
  · simp [Sp.growN, h.ev]
  · have := h.le; simp [Sp.growN]; omega
  · have := h.n0; simp [Sp.growN]; omega
  · have := h.n1; simp [Sp.growN]; omega
  · simp [Sp.growN, Sp.layIn_len, h.nx]
  · simp [Sp.growN, h.cp]
  · exact hp1.lay e q.tail.length (by omega) (by omega) hf1
  · intro x hx
    show 0 ≤ x ∧ x < q.n + 1
    rcases List.mem_append.1 hx with hx | hx
    · have := h.tb x hx; omega
    · simp only [List.mem_cons, List.not_mem_nil, or_false] at hx
      have := h.n0
      rcases hx with rfl | rfl <;> omega
  · intro x hx
    rcases List.mem_append.1 hx with hx | hx
    · exact h.cb x hx
    · simp only [List.mem_cons, List.not_mem_nil, or_false] at hx
      rcases hx with rfl | rfl
      · exact hc
      · exact hd
  · refine (h.tn.add h.nx h.pm.bd _ _).lay e q.tail.length (by omega) (by omega) ?_
    rw [getD_app0 _ _ _ _ he, getD_app1]
theorem Sp.PlaneQ.growF {q : Sp.Net} {i : Nat} (h : Sp.PlaneQ q i) (e g : Nat) (he : e < q.tail.length) (hg : g < q.tail.length) (c d : Int) (hc : 0 ≤ c ∧ c ≤ 2147483648) (hd : 0 ≤ d ∧ d ≤ 2147483648) : Sp.PlaneQ (Sp.growF q e g c d) (i + 1) := by
  have hte := h.tb _ (Sp.getD_mem he)
  have htg := h.tb _ (Sp.getD_mem hg)
  have hl1 : (q.next ++ [(q.tail.length : Int), ((q.tail.length + 1 : Nat) : Int)]).length = q.tail.length + 2 := by simp [h.nx]
  have hp1 : Sp.Perm (q.next ++ [(q.tail.length : Int), ((q.tail.length + 1 : Nat) : Int)]) := by have := h.pm.add; rw [h.nx] at this; exact this
  have hf1 : (q.next ++ [(q.tail.length : Int), ((q.tail.length + 1 : Nat) : Int)]).getD q.tail.length 0 = (q.tail.length : Int) := by have := getD_app1 q.next (q.tail.length : Int) ((q.tail.length + 1 : Nat) : Int); rw [h.nx] at this; exact this
  have hf2 : (q.next ++ [(q.tail.length : Int), ((q.tail.length + 1 : Nat) : Int)]).getD (q.tail.length + 1) 0 = ((q.tail.length + 1 : Nat) : Int) := by have := getD_app2 q.next (q.tail.length : Int) ((q.tail.length + 1 : Nat) : Int); rw [h.nx] at this; exact this
  have hp2 := hp1.lay e q.tail.length (by omega) (by omega) hf1
  have hg2 : (if g = e then q.tail.length else g) < q.tail.length + 2 := by split <;> omega
  refine ⟨?_, ?_, ?_, ?_, ?_, ?_, ?_, ?_, ?_, ?_⟩
  · simp [Sp.growF, h.ev]
  · have := h.le; simp [Sp.growF]; omega
  · exact h.n0
  · have := h.n1; show q.n ≤ ((i + 1 : Nat) : Int) + 1; omega
  · simp [Sp.growF, Sp.layIn_len, h.nx]
  · simp [Sp.growF, h.cp]
  · refine hp2.lay _ (q.tail.length + 1) (by rw [Sp.layIn_len, hl1]; exact hg2) (by rw [Sp.layIn_len, hl1]; omega) ?_
    rw [Sp.layIn_get _ _ _ _ (by omega) (by omega), if_neg (by omega), if_neg (by omega)]
    exact hf2
  · intro x hx
    show 0 ≤ x ∧ x < q.n
    rcases List.mem_append.1 hx with hx | hx
    · exact h.tb x hx
    · simp only [List.mem_cons, List.not_mem_nil, or_false] at hx
      rcases hx with rfl | rfl
      · exact hte
      · exact htg
  · intro x hx
    rcases List.mem_append.1 hx with hx | hx
    · exact h.cb x hx
    · simp only [List.mem_cons, List.not_mem_nil, or_false] at hx
      rcases hx with rfl | rfl
      · exact hc
      · exact hd
  · refine ((h.tn.add h.nx h.pm.bd _ _).lay e q.tail.length (by omega) (by omega) ?_).lay _ (q.tail.length + 1) (by rw [Sp.layIn_len, hl1]; exact hg2) (by rw [Sp.layIn_len, hl1]; omega) ?_
    · rw [getD_app0 _ _ _ _ he, getD_app1]
    · rw [getD_app2]
      by_cases hge : g = e
      · rw [if_pos hge, getD_app1, hge]
      · rw [if_neg hge, getD_app0 _ _ _ _ hg]
theorem Sp.PlaneQ.first (i : Nat) : Sp.PlaneQ ⟨1, [], [], []⟩ i := by
  refine ⟨rfl, Nat.zero_le _, Int.le_refl _, by show (1 : Int) ≤ (i : Int) + 1; omega, rfl, rfl, ⟨fun x hx => (List.not_mem_nil hx).elim, fun i j hi => (Nat.not_lt_zero _ hi).elim⟩, fun x hx => (List.not_mem_nil hx).elim, fun x hx => (List.not_mem_nil hx).elim, fun i hi => (Nat.not_lt_zero _ hi).elim⟩
theorem Sp.PlaneQ.step {q : Sp.Net} {i : Nat} (h : Sp.PlaneQ q i) (k : Int) : Sp.PlaneQ (Sp.planeK q k) (i + 1) := by
  unfold Sp.planeK
  have hc := Sp.capOf_bd (k / 30)
  have hd := Sp.capOf_bd (k / 7000)
  generalize Sp.capOf (k / 30) = c at *
  generalize Sp.capOf (k / 7000) = d at *
  have hcb : ∀ x ∈ [c, d], 0 ≤ x ∧ x ≤ 2147483648 := by
    intro x hx
    simp only [List.mem_cons, List.not_mem_nil, or_false] at hx
    rcases hx with rfl | rfl
    · exact hc
    · exact hd
  split
  · split
    · refine ⟨by show 2 % 2 = 0; decide, ?_, Int.le_refl _, by show (1 : Int) ≤ ((i + 1 : Nat) : Int) + 1; omega, rfl, rfl, ⟨?_, ?_⟩, ?_, hcb, ?_⟩
      · show 2 ≤ 2 * (i + 1); omega
      · intro x hx; simp only [List.mem_cons, List.not_mem_nil, or_false] at hx; rcases hx with rfl | rfl <;> simp
      · intro i j hi hj e
        have hi' : i < 2 := hi
        have hj' : j < 2 := hj
        have : (i = 0 ∨ i = 1) ∧ (j = 0 ∨ j = 1) := by omega
        rcases this with ⟨rfl | rfl, rfl | rfl⟩ <;> simp at e <;> rfl
      · intro x hx; simp only [List.mem_cons, List.not_mem_nil, or_false] at hx; rcases hx with rfl | rfl <;> simp
      · intro i hi
        have hi' : i < 2 := hi
        have : i = 0 ∨ i = 1 := by omega
        rcases this with rfl | rfl <;> rfl
    · refine ⟨by show 2 % 2 = 0; decide, ?_, by show (1 : Int) ≤ 2; omega, by show (2 : Int) ≤ ((i + 1 : Nat) : Int) + 1; omega, rfl, rfl, ⟨?_, ?_⟩, ?_, hcb, ?_⟩
      · show 2 ≤ 2 * (i + 1); omega
      · intro x hx; simp only [List.mem_cons, List.not_mem_nil, or_false] at hx; rcases hx with rfl | rfl <;> simp
      · intro i j hi hj e
        have hi' : i < 2 := hi
        have hj' : j < 2 := hj
        have : (i = 0 ∨ i = 1) ∧ (j = 0 ∨ j = 1) := by omega
        rcases this with ⟨rfl | rfl, rfl | rfl⟩ <;> simp at e <;> rfl
      · intro x hx; simp only [List.mem_cons, List.not_mem_nil, or_false] at hx; rcases hx with rfl | rfl <;> simp
      · intro i hi
        have hi' : i < 2 := hi
        have : i = 0 ∨ i = 1 := by omega
        rcases this with rfl | rfl <;> rfl
  · rename_i hne
    split
    · exact h.growN _ (Sp.planeE_lt q k (by omega)) _ _ hc hd
    · exact h.growF _ _ (Sp.planeE_lt q k (by omega)) (Sp.planeG_lt q k (by omega)) _ _ hc hd
theorem Sp.faces2Go_len (st : List Int) : ∀ f d of k, (Sp.faces2Go st f d of k).1.length = of.length
  | 0, _, _, _ => rfl
  | f + 1, d, of, k => by
    rw [Sp.faces2Go]
    split
    · exact Sp.faces2Go_len st f _ _ _
    · rw [Sp.faces2Go_len st f, Sp.paint_len]
theorem Sp.faces2_len (q : Sp.Net) : (Sp.faces2 q).1.length = q.tail.length := by
  unfold Sp.faces2
  rw [Sp.faces2Go_len, List.length_replicate]
theorem MakeAt.but {w wx wy : World} {n : Int} {tv nv cv : Value} (h : MakeAt w wx n tv nv cv) {g : Nat} (hb : ButRow g wx wy) (hg : w.heap.size + 2 ≤ g) : MakeAt w wy n tv nv cv :=
  ⟨(hb.block _ (by omega)).trans h.b0, (hb.block _ (by omega)).trans h.b1, ⟨hb.os.trans h.bel.os, hb.tape.trans h.bel.tape, hb.output.trans h.bel.output, by rw [hb.size]; exact h.bel.size, fun k hk => (hb.block k (by omega)).trans (h.bel.block k hk)⟩⟩
end Go.Proofs.Ytoegjnolccabjab


/- Package dual: a mesh's own questions. -/
namespace Go.Proofs.Ytoegjnolccabjab
open Go Go.RowKit

/-- A mesh. -/
structure MeshI (w : World) (v : Value) (q : Sp.Net) (F : List Int) (K : Nat) (tv nv cv fv : Value) : Prop where
  val : v = .agg #[.int .i64 q.n, tv, nv, cv, fv, .int .i64 (K : Int)]
  tail : Ints w tv q.tail
  next : Ints w nv q.next
  cap : Ints w cv q.cap
  of : Ints w fv F
theorem MeshI.below {w w' : World} {v : Value} {q : Sp.Net} {F : List Int} {K : Nat} {tv nv cv fv : Value} (h : MeshI w v q F K tv nv cv fv) (hb : Below w.heap.size w w') : MeshI w' v q F K tv nv cv fv :=
  ⟨h.val, h.tail.below hb, h.next.below hb, h.cap.below hb, h.of.below hb⟩
/-- A mesh in a block of its own. -/
theorem mesh_new (w : World) (n : Int) (a b c f : Value) (k : Int) (w' : World) (hb : Below (w.heap.size + 1) (w.alloc (.cells #[.int .i64 n, a, b, c, f, .int .i64 k] 68)) w') :
    w'.cell? ⟨w.heap.size, 0, none⟩ = some (.int .i64 n) ∧ w'.cell? ⟨w.heap.size, 1, none⟩ = some a ∧ w'.cell? ⟨w.heap.size, 2, none⟩ = some b ∧ w'.cell? ⟨w.heap.size, 3, none⟩ = some c ∧ w'.cell? ⟨w.heap.size, 4, none⟩ = some f ∧ w'.cell? ⟨w.heap.size, 5, none⟩ = some (.int .i64 k) ∧ w.heap.size + 1 ≤ w'.heap.size := by
  have hs := hb.size
  simp at hs
  refine ⟨(hb.cell (by show w.heap.size < _; omega)).trans ?_, (hb.cell (by show w.heap.size < _; omega)).trans ?_, (hb.cell (by show w.heap.size < _; omega)).trans ?_, (hb.cell (by show w.heap.size < _; omega)).trans ?_, (hb.cell (by show w.heap.size < _; omega)).trans ?_, (hb.cell (by show w.heap.size < _; omega)).trans ?_, hs⟩ <;>
    rw [cell_of_row _ _ _ _ _ _ (heap_alloc_new w _)] <;> rfl
set_option maxRecDepth 100000 in
set_option maxHeartbeats 1000000 in
theorem mbehind_any (q : Sp.Net) (F : List Int) (K : Nat) (v tv nv cv fv : Value) (d : Nat) (w : World) (hv : MeshI w v q F K tv nv cv fv) (hd : d < q.next.length) (hev : q.next.length % 2 = 0) (h240 : q.next.length ≤ 240) :
    Calls Try.prog 51 #[v, .int .i64 (d : Int)] w fun e w' => e = .returned (.int .i64 ((Sp.behindL q.next).getD d 0)) ∧ Below w.heap.size w w' := by
  have h4 := hv.next
  have hval := hv.val
  obtain ⟨ta, tc, rfl, -, -⟩ := hv.tail.form
  obtain ⟨na, nc, rfl, -, -⟩ := hv.next.form
  obtain ⟨ca, cc, rfl, -, -⟩ := hv.cap.form
  obtain ⟨fa, fc, rfl, -, -⟩ := hv.of.form
  subst hval
  have ho := oth_lt hd hev
  have hX := xor_oth ⟨d, by omega⟩
  obtain ⟨a, c, ha, -, -, HT⟩ := h4.all
  injection ha with ha1 ha2 ha3
  subst ha1 ha3
  obtain ⟨b, o, rfl, -, hcx⟩ := unhide HT _ ho
  have HF : Hid ((Sp.behindL q.next).getD d 0 = q.next[(Sp.oth d)]) := hide (by rw [Sp.behindL_get _ _ hd, Sp.getD_eq _ _ ho])
  have hb : ∀ ob, Below w.heap.size w (w.alloc ob) := fun ob => (Below.refl _ w).alloc (Nat.le_refl _) ob
  have HB := hide hb
  generalize q.next[(Sp.oth d)] = z at *
  have g := fun ob => hcx _ (hb ob)
  generalize (Sp.behindL q.next).getD d 0 = R at *
  simp only at hX
  generalize Sp.oth d = od at *
  have ho' : (od : Int) < q.next.length := by omega
  clear hcx hb HT hv h4
  go_enter Try.func51, Try.ntmps51
  go_wp2
  go_ret
  exact ⟨by rw [unhide HF]; rfl, unhide HB _⟩
end Go.Proofs.Ytoegjnolccabjab


/- The walks of slices.Index and of package rot: roundOf. -/
namespace Go.Proofs.Ytoegjnolccabjab
open Go Go.RowKit

set_option maxRecDepth 100000 in
set_option maxHeartbeats 1000000 in
theorem index_any (l : List Int) (g o m c : Nat) (d : Int) (w : World) (hl : l.length = m) (hm : m ≤ 240) (hc : ∀ j, (hj : j < l.length) → w.cell? ⟨g, o + j, none⟩ = some (.int .i64 l[j])) :
    Calls Try.prog 53 #[.slice (some ⟨g, o, none⟩) m c, .int .i64 d] w fun e w' => ((∃ i : Nat, ∃ hi : i < l.length, e = .returned (.int .i64 (i : Int)) ∧ l[i] = d ∧ ∀ j, (hj : j < l.length) → j < i → l[j] ≠ d) ∨ (e = .returned (.int .i64 (-1)) ∧ ¬ d ∈ l)) ∧ w' = w := by
  have HC := hide hc
  have Hl := hide hl
  clear hc hl
  obtain ⟨P, hP⟩ : ∃ P : Ending → World → Prop, P = fun e w' => ((∃ i : Nat, ∃ hi : i < l.length, e = .returned (.int .i64 (i : Int)) ∧ l[i] = d ∧ ∀ j, (hj : j < l.length) → j < i → l[j] ≠ d) ∨ (e = .returned (.int .i64 (-1)) ∧ ¬ d ∈ l)) ∧ w' = w := ⟨_, rfl⟩
  rw [← hP]
  have HP := hide hP
  clear hP
  go_enter Try.func53, Try.ntmps53
  go_wp2
  go_loop [8] (fun i => ∃ k : Nat, k ≤ m ∧ i = .int .i64 (k : Int) ∧ Hid (∀ j, (hj : j < l.length) → j < k → l[j] ≠ d)) (fun i => m - (intOf i).toNat)
  case atStart => exact ⟨0, by omega, rfl, hide (fun j _ h => by omega)⟩
  case round =>
    obtain ⟨k, hk, rfl, HA⟩ := hrel
    by_cases hlt : k < m
    · have hltI : (k : Int) < (m : Int) := by omega
      have hkl : k < l.length := by rw [unhide Hl]; exact hlt
      have c1 := unhide HC k hkl
      by_cases hd : l[k] = d
      · have HD := hide hd
        rw [hd] at c1
        have hkk : (d == d) = true := beq_self_eq_true _
        clear hd
        go_wp2
        rw [unhide HP]
        exact ⟨.inl ⟨k, hkl, rfl, unhide HD, unhide HA⟩, rfl⟩
      · have HN : Hid (∀ j, (hj : j < l.length) → j < k + 1 → l[j] ≠ d) := hide fun j hj h => by
          rcases Nat.lt_or_ge j k with h' | h'
          · exact unhide HA j hj h'
          · obtain rfl : j = k := by omega
            exact hd
        have hkk : (d == l[k]) = false := beq_eq_false_iff_ne.2 (fun h => hd h.symm)
        generalize l[k] = z at *
        clear hd
        go_wp2
        go_round
        case rel => exact ⟨k + 1, by omega, by go_num, HN⟩
        case measure => simp [intOf]; omega
    · have HN : Hid (¬ d ∈ l) := hide fun hm => by
        obtain ⟨j, hj, rfl⟩ := List.mem_iff_getElem.1 hm
        exact unhide HA j hj (by have := unhide Hl; omega) rfl
      go_wp2
      rw [unhide HP]
      exact ⟨.inr ⟨rfl, unhide HN⟩, rfl⟩
/-- A slice of the call's own, wherever it lies. -/
def Mine (w : World) (B : Nat) (v : Value) (l : List Int) : Prop :=
  (v = .slice none 0 0 ∧ l = []) ∨ ∃ g o c, v = .slice (some ⟨g, o, none⟩) l.length c ∧ B ≤ g ∧ g < w.heap.size ∧ l.length ≤ c ∧ c ≤ maxLen ∧ ∀ j, (hj : j < l.length) → w.cell? ⟨g, o + j, none⟩ = some (.int .i64 l[j]) ∧ w.frozen? ⟨g, o + j, none⟩ = false
theorem Mine.ints {w : World} {B : Nat} {v : Value} {l : List Int} (h : Mine w B v l) : Ints w v l := by
  rcases h with ⟨rfl, rfl⟩ | ⟨g, o, c, rfl, hB, hg, hc, hm, hcell⟩
  · exact ⟨none, 0, rfl, by simp, by unfold maxLen; omega, fun k hk => by simp at hk⟩
  · exact ⟨_, c, rfl, hc, hm, fun k hk => ⟨g, o, rfl, hg, (hcell k hk).1⟩⟩
theorem Mine.base {w : World} {B B' : Nat} {v : Value} {l : List Int} (h : Mine w B v l) (hb : B' ≤ B) : Mine w B' v l := by
  rcases h with h | ⟨g, o, c, hv, hB, r⟩
  · exact .inl h
  · exact .inr ⟨g, o, c, hv, by omega, r⟩
theorem Mine.below {w w' : World} {B : Nat} {v : Value} {l : List Int} (h : Mine w B v l) (hb : Below w.heap.size w w') : Mine w' B v l := by
  rcases h with h | ⟨g, o, c, hv, hB, hg, hc, hm, hcell⟩
  · exact .inl h
  · exact .inr ⟨g, o, c, hv, hB, Nat.lt_of_lt_of_le hg hb.size, hc, hm, fun j hj => ⟨(hb.cell (by exact hg)).trans (hcell j hj).1, (World.frozen?_of_block (hb.block g hg)).trans (hcell j hj).2⟩⟩
theorem run_app_grow (w : World) (g o k n c : Nat) (g2 o2 : Nat) (l1 l2 : List Int) (h1 : l1.length = k) (h2 : l2.length = n) (hn : 0 < n) (hbig : k + n ≤ 1000)
    (hc1 : ∀ j, (hj : j < l1.length) → w.cell? ⟨g, o + j, none⟩ = some (.int .i64 l1[j])) (hc2 : ∀ j, (hj : j < l2.length) → w.cell? ⟨g2, o2 + j, none⟩ = some (.int .i64 l2[j])) :
    ∃ c' w', (Builtin.append_ #[22, 22] 22 #[.slice (some ⟨g, o, none⟩) k k, .slice (some ⟨g2, o2, none⟩) n c]).run Try.prog w = .ok (.slice (some ⟨w.heap.size, 0, none⟩) (k + n) c') w' ∧ OwnI w' w.heap.size (.slice (some ⟨w.heap.size, 0, none⟩) (k + n) c') (l1 ++ l2) ∧ Below w.heap.size w w' := by
  obtain ⟨i0, hi, hz0, hz1, hz2⟩ := info_parts info3
  subst h1 h2
  have cellsOf : ∀ (g o : Nat) (l : List Int), (∀ j, (hj : j < l.length) → w.cell? ⟨g, o + j, none⟩ = some (.int .i64 l[j])) → ∀ j v, (l.map (Value.int .i64))[j]? = some v → w.cell? ((⟨g, o, none⟩ : Addr).add j) = some v := by
    intro g o l hc j v hj
    obtain ⟨hj1, hj2⟩ := List.getElem?_eq_some_iff.1 hj
    rw [List.length_map] at hj1
    rw [← hj2, List.getElem_map, Addr.add_lit]
    exact hc j hj1
  have hrun := run_append_grow (P := Try.prog) (w := w) 22 22 3 i0 (.int .i64 0) Try.underlying22 hi hz0 ⟨g, o, none⟩ l1.length l1.length (l1.map (Value.int .i64)) (by simp [hz1]) (cellsOf g o l1 hc1) ⟨g2, o2, none⟩ l2.length c (l2.map (Value.int .i64)) (by simp [hz1]) (cellsOf g2 o2 l2 hc2) (by omega) (by omega) (growslice_fits (by omega) (by rw [hz2]; omega))
  have hge := grownCap_ge w (l1.length + l2.length) l1.length 3
  have hcm := grownCap_le_maxLen w (l1.length + l2.length) l1.length 3 (by unfold maxLen; omega)
  refine ⟨_, _, hrun, ⟨by simp, .inr ⟨w.heap.size, _, _, by simp, Nat.le_refl _, heap_alloc_new w.drew _, by simpa using hge, hcm, ?_, ?_⟩⟩, (Below.refl _ w).drew.alloc (Nat.le_refl _) _⟩
  · simp [size_zeroCells, Value.cells]
    omega
  · simp only [Array.toList_append, List.map_append]
    rw [List.take_left' (by simp)]
/-- A round from d on. -/
def Sp.rot2 (l : List Int) (i : Nat) : List Int := l.drop i ++ l.take i
def Sp.ofGo (row : List Int) (d : Int) : List (Nat × Nat) → List Int
  | [] => []
  | p :: r => if d ∈ Sp.piece row p then Sp.rot2 (Sp.piece row p) ((Sp.piece row p).idxOf d) else Sp.ofGo row d r
theorem idxOf_of : ∀ (l : List Int) (d : Int) (i : Nat) (hi : i < l.length), l[i] = d → (∀ j, (hj : j < l.length) → j < i → l[j] ≠ d) → l.idxOf d = i
  | [], _, _, hi, _, _ => by simp at hi
  | x :: r, d, 0, _, h, _ => by
    simp only [List.getElem_cons_zero] at h
    have h2 : (x == d) = true := by rw [h]; exact beq_self_eq_true _
    rw [List.idxOf_cons, h2]
    rfl
  | x :: r, d, i + 1, hi, h, hn => by
    have h0 := hn 0 (by simp) (by omega)
    simp only [List.getElem_cons_zero] at h0
    simp only [List.getElem_cons_succ] at h
    have h1 := idxOf_of r d i (by simpa using hi) h (fun j hj hji => by
      have := hn (j + 1) (by simpa using hj) (by omega)
      simpa using this)
    have h2 : (x == d) = false := beq_eq_false_iff_ne.2 h0
    rw [List.idxOf_cons, h2, h1]
    rfl
def Sp.roundOf (st : List Int) (d : Int) : List Int := Sp.ofGo (Sp.rndsD st).1 d (Sp.rndsD st).2
theorem run_app_none (w : World) (g o k g2 o2 c : Nat) :
    (Builtin.append_ #[22, 22] 22 #[.slice (some ⟨g, o, none⟩) k k, .slice (some ⟨g2, o2, none⟩) 0 c]).run Try.prog w = .ok (.slice (some ⟨g, o, none⟩) k k) w := by
  obtain ⟨i0, hi, hz0, hz1, hz2⟩ := info_parts info3
  simp [Builtin.append_, run_underlying Try.underlying22, sizeOf, typeInfo, hi, Builtin.lenOf, Builtin.firstCells, storeCells, loadCells, loadCellsFrom]
theorem cell_lt {w : World} {a : Addr} {v : Value} (h : w.cell? a = some v) : a.block < w.heap.size := by
  rcases Nat.lt_or_ge a.block w.heap.size with h' | h'
  · exact h'
  · unfold World.cell? at h
    rw [Array.getElem?_eq_none h'] at h
    cases h
theorem own_mine {w : World} {B B' g n c : Nat} {l : List Int} (h : OwnI w B (.slice (some ⟨g, 0, none⟩) n c) l) (hl : n = l.length) (hb : B' ≤ B) : Mine w B' (.slice (some ⟨g, 0, none⟩) n c) l := by
  have h0 := h
  have hlt := h.lt g rfl
  obtain ⟨h1, ⟨h2, -⟩ | ⟨g', cap, cur, e, hg, hh, hnc, hcm, hsz, htk⟩⟩ := h
  · cases h2
  · injection e with e1 e2 e3
    subst e3
    refine .inr ⟨g, 0, c, by rw [hl], by omega, hlt.2, hnc, hcm, fun j hj => ?_⟩
    rw [Nat.zero_add]
    exact ⟨own_cell h0 j hj, own_frozen h0 j⟩
/-- An append whose run is known, as one step of a region that draws its order. -/
theorem step_run {w : World} {ops : Array Oper} {o : Oper} {a : Act} {K : Act → World → Prop} {Q : Exit → Act → World → Prop} {E : Prop} (hgd : o.guard = none) (s x : Operand)
    (ho : o.op = .call { callee := .builtin .append, args := #[s, x], argTypes := #[22, 22] }) (sv xv v' : Value) (w' : World) (hs : a.eval s = sv) (hx : a.eval x = xv)
    (hrun : (Builtin.append_ #[22, 22] o.type #[sv, xv]).run Try.prog w = .ok v' w') (h : K (a.put o.dst v') w') :
    if Region.wanted o (yielded ops a.tmps) = true then Oper.wp Try.prog o a w K Q else E := by
  have hw : Region.wanted o (yielded ops a.tmps) = true := by simp [Region.wanted, hgd]
  rw [if_pos hw]
  unfold Oper.wp execOp
  simp only [ho, resolve, invoke, builtin, Sem.run_bind, Sem.run_pure, Result.andThen_ok, List.map_toArray, List.map_cons, List.map_nil, hs, hx, hrun]
  exact h
end Go.Proofs.Ytoegjnolccabjab


/- Package dual: linked. -/
namespace Go.Proofs.Ytoegjnolccabjab
open Go Go.RowKit

theorem Ints.allG {w : World} {v : Value} {l : List Int} (h : Ints w v l) : ∃ (a : Option Addr) (c : Nat), v = .slice a l.length c ∧ l.length ≤ c ∧ c ≤ maxLen ∧ Hid (∀ k, k < l.length → ∃ b o, a = some ⟨b, o, none⟩ ∧ b < w.heap.size ∧ ∀ w', Below w.heap.size w w' → w'.cell? ⟨b, o + k, none⟩ = some (.int .i64 (l.getD k 0))) := by
  obtain ⟨a, c, e, h1, h2, h3⟩ := h.all
  refine ⟨a, c, e, h1, h2, hide fun k hk => ?_⟩
  obtain ⟨b, o, e1, e2, e3⟩ := unhide h3 k hk
  exact ⟨b, o, e1, e2, fun w' hb => by rw [e3 w' hb, Sp.getD_eq _ _ hk]⟩
end Go.Proofs.Ytoegjnolccabjab


/- Package dual: each. -/
namespace Go.Proofs.Ytoegjnolccabjab
open Go Go.RowKit

theorem map_fill (G : Nat → Int) (n j : Nat) (hj : j < n) : ((List.range j).map G ++ List.replicate (n - j) 0).set j (G j) = (List.range (j + 1)).map G ++ List.replicate (n - (j + 1)) 0 := by
  rw [List.set_append_right _ _ (by simp), List.range_succ, List.map_append, List.append_assoc]
  congr 1
  obtain ⟨m, hm⟩ : ∃ m, n - j = m + 1 := ⟨n - j - 1, by omega⟩
  rw [hm, show n - (j + 1) = m by omega, List.replicate_succ]
  simp
end Go.Proofs.Ytoegjnolccabjab


/- rim: rise, each. -/
namespace Go.Proofs.Ytoegjnolccabjab
open Go Go.RowKit

/-- How much higher it is behind a dart. -/
def Sp.rise (F P : List Int) (d : Nat) : Int := P.getD (F.getD (Sp.oth d) 0).toNat 0 - P.getD (F.getD d 0).toNat 0
theorem land_new (w : World) (a b c : Value) : ∀ w', Below (w.heap.size + 1) (w.alloc (.cells #[a, b, c] 44)) w' → Below w.heap.size w w' ∧ w'.cell? ⟨w.heap.size, 0, none⟩ = some a ∧ w'.cell? ⟨w.heap.size, 1, none⟩ = some b ∧ w'.cell? ⟨w.heap.size, 2, none⟩ = some c := fun w' hb => by
  have hs : (w.alloc (.cells #[a, b, c] 44)).heap.size = w.heap.size + 1 := by simp
  refine ⟨((Below.refl _ w).alloc (Nat.le_refl _) _).trans (hb.mono (by omega)), ?_, ?_, ?_⟩
  · exact (hb.cell (p := ⟨w.heap.size, 0, none⟩) (by show w.heap.size < _; omega)).trans (by rw [cell_of_row _ _ _ _ _ _ (heap_alloc_new w _)]; rfl)
  · exact (hb.cell (p := ⟨w.heap.size, 1, none⟩) (by show w.heap.size < _; omega)).trans (by rw [cell_of_row _ _ _ _ _ _ (heap_alloc_new w _)]; rfl)
  · exact (hb.cell (p := ⟨w.heap.size, 2, none⟩) (by show w.heap.size < _; omega)).trans (by rw [cell_of_row _ _ _ _ _ _ (heap_alloc_new w _)]; rfl)
set_option maxRecDepth 100000 in
set_option maxHeartbeats 4000000 in
theorem rmrise_any (F P : List Int) (fv pv : Value) (b0 : Int) (m k d : Nat) (w : World) (hF : Ints w fv F) (hP : Ints w pv P) (hFl : F.length = m) (hPl : P.length = k) (hev : m % 2 = 0) (hm : m ≤ 999) (hd : d < m) (hFn : ∀ d, d < m → 0 ≤ F.getD d 0 ∧ F.getD d 0 < k) (hPb : ∀ j, j < k → 0 ≤ P.getD j 0 ∧ P.getD j 0 ≤ 1152921504606846976) :
    Calls Try.prog 20 #[.agg #[fv, pv, .int .i64 b0], .int .i64 (d : Int)] w fun e w' => e = .returned (.int .i64 (Sp.rise F P d)) ∧ Below w.heap.size w w' := by
  obtain ⟨fa, fc, hfe, -, -, HFa⟩ := hF.allA
  obtain ⟨pa, pc, hpe, -, -, HPa⟩ := hP.allA
  rw [hFl] at hfe HFa
  rw [hPl] at hpe HPa
  subst hfe hpe
  have ho := oth_lt hd hev
  have hoI : ((Sp.oth d : Nat) : Int) < (m : Int) := by omega
  have hdI : (d : Int) < (m : Int) := by omega
  have HO := hide (fun w' => rmother_any d w' (by omega))
  have h1 := hFn d hd
  have h2 := hFn _ ho
  have hRi : Sp.rise F P d = P.getD (F.getD (Sp.oth d) 0).toNat 0 - P.getD (F.getD d 0).toNat 0 := rfl
  obtain ⟨x, hx⟩ : ∃ x : Nat, F.getD d 0 = (x : Int) := ⟨_, (Int.toNat_of_nonneg h1.1).symm⟩
  obtain ⟨y, hy⟩ : ∃ y : Nat, F.getD (Sp.oth d) 0 = (y : Int) := ⟨_, (Int.toNat_of_nonneg h2.1).symm⟩
  rw [hx] at h1
  rw [hy] at h2
  have hxk : x < k := by omega
  have hyk : y < k := by omega
  have hxI : (x : Int) < (k : Int) := by omega
  have hyI : (y : Int) < (k : Int) := by omega
  obtain ⟨b1, o1, rfl, -, hc1⟩ := unhide HFa d hd
  obtain ⟨b2, o2, e2, -, hc2⟩ := unhide HFa _ ho
  injection e2 with e2
  injection e2 with q1 q2
  subst q1 q2
  obtain ⟨b3, o3, rfl, -, hc3⟩ := unhide HPa x hxk
  obtain ⟨b4, o4, e4, -, hc4⟩ := unhide HPa y hyk
  injection e4 with e4
  injection e4 with q3 q4
  subst q3 q4
  have p1 := hPb x hxk
  have p2 := hPb y hyk
  rw [hx] at hc1 hRi
  rw [hy] at hc2 hRi
  rw [Int.toNat_natCast, Int.toNat_natCast] at hRi
  generalize P.getD x 0 = px at *
  generalize P.getD y 0 = py at *
  obtain ⟨W1, hW1⟩ : ∃ W1, W1 = w.alloc (.cells #[.slice (some ⟨b1, o1, none⟩) m fc, .slice (some ⟨b3, o3, none⟩) k pc, .int .i64 b0] 44) := ⟨_, rfl⟩
  have HB : Hid (∀ w', Below W1.heap.size W1 w' → Below w.heap.size w w') := hide fun w' hb => by
    have hs : W1.heap.size = w.heap.size + 1 := by rw [hW1]; simp
    rw [hs] at hb
    rw [hW1] at hb
    exact (land_new w _ _ _ w' hb).1
  obtain ⟨hbw, x0, x1, -⟩ := land_new w (.slice (some ⟨b1, o1, none⟩) m fc) (.slice (some ⟨b3, o3, none⟩) k pc) (.int .i64 b0) W1 (by rw [hW1]; exact Below.refl _ _)
  have k1 := hc1 _ hbw
  have k2 := hc2 _ hbw
  have k3 := hc3 _ hbw
  have k4 := hc4 _ hbw
  have HR := hide hRi
  clear hRi hx hy h1 h2 ho hev hFn hPb hc1 hc2 hc3 hc4 HFa HPa hF hP hFl hPl hbw hd
  generalize Sp.rise F P d = R at *
  generalize Sp.oth d = od at *
  go_enter Try.func20, Try.ntmps20
  go_upto_region 1 with fail
  rw [← hW1]
  clear hW1
  go_quiet ((go_at_call 33; exact Calls.quiet_of_same (unhide HO _)))
  go_wp2
  go_ret
  refine ⟨?_, unhide HB _ (below_dn (Below.refl _ _) _)⟩
  rw [unhide HR]
  go_num
set_option maxRecDepth 100000 in
set_option maxHeartbeats 4000000 in
theorem rmeach_any (F P : List Int) (fv pv : Value) (b0 : Int) (m k : Nat) (w : World) (hF : Ints w fv F) (hP : Ints w pv P) (hFl : F.length = m) (hPl : P.length = k) (hev : m % 2 = 0) (hm : m ≤ 240) (hFn : ∀ d, d < m → 0 ≤ F.getD d 0 ∧ F.getD d 0 < k) (hPb : ∀ j, j < k → 0 ≤ P.getD j 0 ∧ P.getD j 0 ≤ 1152921504606846976) :
    Calls Try.prog 19 #[.agg #[fv, pv, .int .i64 b0], .func (.func 20) #[.agg #[fv, pv, .int .i64 b0]] #[]] w fun e w' => ∃ lv, e = .returned lv ∧ OwnI w' w.heap.size lv ((List.range m).map (Sp.rise F P)) ∧ Below w.heap.size w w' := by
  have HG : Hid (∀ (w' : World) (d : Nat), Below w.heap.size w w' → d < m → Calls Try.prog 20 #[.agg #[fv, pv, .int .i64 b0], .int .i64 (d : Int)] w' fun e w'' => e = .returned (.int .i64 (Sp.rise F P d)) ∧ Below w'.heap.size w' w'') := hide fun w' d hb hd => rmrise_any F P fv pv b0 m k d w' (hF.below hb) (hP.below hb) hFl hPl hev (by omega) hd hFn hPb
  obtain ⟨fa, fc, hfe, -, -⟩ := hF.form
  obtain ⟨pa, pc, hpe, -, -⟩ := hP.form
  rw [hFl] at hfe
  rw [hPl] at hpe
  subst hfe hpe
  generalize Sp.rise F P = G at *
  obtain ⟨W1, hW1⟩ : ∃ W1, W1 = w.alloc (.cells #[.slice fa m fc, .slice pa k pc, .int .i64 b0] 44) := ⟨_, rfl⟩
  have HBX : Hid (∀ w', Below (w.heap.size + 1) W1 w' → Below w.heap.size w w' ∧ w'.cell? ⟨w.heap.size, 0, none⟩ = some (.slice fa m fc)) := hide fun w' hb => by
    rw [hW1] at hb
    have h := land_new w _ _ _ w' hb
    exact ⟨h.1, h.2.1⟩
  have hs1 : W1.heap.size = w.heap.size + 1 := by rw [hW1]; simp
  obtain ⟨Q, hQ⟩ : ∃ Q : Ending → World → Prop, Q = fun e w' => ∃ lv, e = .returned lv ∧ OwnI w' w.heap.size lv ((List.range m).map G) ∧ Below w.heap.size w w' := ⟨_, rfl⟩
  rw [← hQ]
  have HQ := hide hQ
  obtain ⟨-, x0⟩ := unhide HBX W1 (Below.refl _ _)
  clear hs1 hQ hF hP hFl hPl hFn hPb
  subst hW1
  go_enter Try.func19, Try.ntmps19
  go_wp2_with (at_make; refine wpList_mk rfl _ _ rfl (w.heap.size + 1) m rfl rfl (by omega) (by simp) ?_)
  intro w5 hown5 hb5 hlt5
  clear x0
  generalize w.alloc (.cells #[.slice fa m fc, .slice pa k pc, .int .i64 b0] 44) = W1 at *
  have HK0 : Hid (PKeep (w.heap.size + 1) (w.heap.size + 1) m W1 w5 (List.replicate m 0)) := hide ⟨List.length_replicate, hown5, hb5, by have := (hown5.lt (w.heap.size + 1) rfl).2; exact this, Nat.le_refl _⟩
  clear hown5 hb5 hlt5
  go_wp2
  go_loopg [13] m (fun g i wr => ∃ j : Nat, j + g = m ∧ i = .int .i64 (j : Int) ∧ Hid (PKeep (w.heap.size + 1) (w.heap.size + 1) m W1 wr ((List.range j).map G ++ List.replicate (m - j) 0)))
  case atStart => exact ⟨0, by omega, rfl, by simpa using HK0⟩
  case round =>
    clear HK0
    obtain ⟨j, hjg, rfl, HI⟩ := hrel
    cases gk with
    | succ g' =>
      have hlt : j < m := by omega
      have hltI : (j : Int) < (m : Int) := by omega
      go_wp2_with fail
      go_at_call 20
      refine (unhide HG wr j (unhide HBX _ (unhide HI).bel).1 hlt).mono ?_
      rintro e w6 ⟨rfl, hl6⟩
      have HI6 := hide ((unhide HI).below hl6)
      have c1 := own_cell (unhide HI6).own j (by rw [(unhide HI6).len]; exact hlt)
      have f1 := own_frozen (unhide HI6).own j
      have HN : Hid (PKeep (w.heap.size + 1) (w.heap.size + 1) m W1 (w6.setCell ⟨w.heap.size + 1, j, none⟩ (.int .i64 (G j))) ((List.range (j + 1)).map G ++ List.replicate (m - (j + 1)) 0)) := by
        have h := (unhide HI6).set j (G j)
        rw [map_fill G m j hlt] at h
        exact hide h
      generalize ((List.range j).map G ++ List.replicate (m - j) 0)[j]'_ = z at *
      clear HI HI6 hl6
      go_wp2
      go_roundg g'
      case rel => exact ⟨j + 1, by omega, by go_num, HN⟩
      case measure => omega
    | zero =>
      obtain rfl : j = m := by omega
      have HK1 : Hid (PKeep (w.heap.size + 1) (w.heap.size + 1) j W1 wr ((List.range j).map G)) := by simpa using HI
      clear HI
      go_wp2
      rw [unhide HQ]
      exact ⟨_, rfl, own_base (unhide HK1).own (by omega), (unhide HBX _ (unhide HK1).bel).1⟩
end Go.Proofs.Ytoegjnolccabjab


/- The walk of package rot: roundOf. -/
namespace Go.Proofs.Ytoegjnolccabjab
open Go Go.RowKit

set_option maxRecDepth 100000 in
set_option maxHeartbeats 2000000 in
theorem roundOf_any (st : List Int) (sv : Value) (d : Int) (w : World) (hv : Ints w sv st) (hn : st.length ≤ 240) (hx : ∀ x ∈ st, 0 ≤ x ∧ x < (st.length : Int)) :
    Calls Try.prog 80 #[sv, .int .i64 d] w fun e w' => ∃ rv, e = .returned rv ∧ Mine w' w.heap.size rv (Sp.roundOf st d) ∧ Below w.heap.size w w' := by
  have HC := hide (rounds_any st sv w hv hn hx)
  have HX := hide hx
  obtain ⟨sa, sc, rfl, hsc, hsm⟩ := hv.form
  have HR : Hid (Sp.roundOf st d = Sp.ofGo (Sp.rndsD st).1 d (Sp.rndsD st).2) := hide rfl
  generalize Sp.roundOf st d = R at *
  obtain ⟨P, hP⟩ : ∃ P : Ending → World → Prop, P = fun e w' => ∃ rv, e = .returned rv ∧ Mine w' w.heap.size rv R ∧ Below w.heap.size w w' := ⟨_, rfl⟩
  rw [← hP]
  have HP := hide hP
  clear hP hx hv
  go_enter Try.func80, Try.ntmps80
  go_wp2_with fail
  go_at_call 88
  refine (unhide HC).mono ?_
  clear HC
  intro e w2 hpost
  obtain ⟨lv, rfl, hb2, hpl, hpo, hls, hcells⟩ := hpost.one (unhide HX)
  clear hpost
  generalize (Sp.rndsD st).1 = row at *
  generalize (Sp.rndsD st).2 = ps at *
  generalize (Sp.rnds st).isSome = is at *
  have Hb2 := hide hb2
  obtain ⟨la, lc, rfl, hlc, hlm, HL⟩ := owns_all hls
  have HPO := hide hpo
  have HCE := hide hcells
  clear hls hpo hcells hb2
  go_wp2
  go_loop [17] (fun i => ∃ k : Nat, k ≤ ps.length ∧ i = .int .i64 (k : Int) ∧ Hid (R = Sp.ofGo row d (ps.drop k))) (fun i => ps.length - (intOf i).toNat)
  case atStart => exact ⟨0, by omega, rfl, HR⟩
  case round =>
    obtain ⟨k, hk, rfl, HI⟩ := hrel
    by_cases hlt : k < ps.length
    · have hltI : (k : Int) < (ps.length : Int) := by omega
      have hpk := (unhide HPO).ok ps[k] (List.getElem_mem hlt)
      have HTG : Hid (R = if d ∈ Sp.piece row ps[k] then Sp.rot2 (Sp.piece row ps[k]) ((Sp.piece row ps[k]).idxOf d) else Sp.ofGo row d (ps.drop (k + 1))) := hide (by
        have h := unhide HI
        rw [List.drop_eq_getElem_cons hlt, Sp.ofGo] at h
        exact h)
      obtain ⟨lb, hla, hlbs, -, hlcell⟩ := unhide HL k (by simpa using hlt)
      subst hla
      have hlc1 := hlcell w2 (Below.refl _ _)
      rw [List.getElem_map] at hlc1
      generalize ps[k] = pp at *
      obtain ⟨b, e⟩ := pp
      obtain ⟨hbe, herow⟩ := hpk
      simp only at hbe herow
      have hlc2 : w2.cell? ⟨lb, k, none⟩ = some (.slice (some ⟨w.heap.size, b, none⟩) (e - b) (e - b)) := hlc1
      have he240 : e ≤ 240 := by have := (unhide HPO).fit.le; omega
      have HPL : Hid ((Sp.piece row (b, e)).length = e - b) := hide (Sp.piece_len herow)
      have HPC : Hid (∀ w', Below w2.heap.size w2 w' → ∀ j, (hj : j < (Sp.piece row (b, e)).length) → w'.cell? ⟨w.heap.size, b + j, none⟩ = some (.int .i64 (Sp.piece row (b, e))[j]) ∧ w'.frozen? ⟨w.heap.size, b + j, none⟩ = false) := hide fun w' hb' j hj => by
        rw [Sp.piece_get herow]
        exact unhide HCE (b + j) (by rw [unhide HPL] at hj; omega) w' hb'
      have HC5 := hide (index_any (Sp.piece row (b, e)) w.heap.size b (e - b) (e - b) d w2 (unhide HPL) (by omega) fun j hj => (unhide HPC w2 (Below.refl _ _) j hj).1)
      generalize Sp.piece row (b, e) = pc at *
      clear hlc1 hlcell
      go_wp2_with fail
      go_at_call 53
      refine (unhide HC5).mono ?_
      clear HC5
      rintro e5 w5 ⟨⟨i, hi, rfl, hid, hbef⟩ | ⟨rfl, hnm⟩, rfl⟩
      · have HI5 : Hid (R = Sp.rot2 pc i) := by
          have h := unhide HTG
          rw [if_pos (hid ▸ List.getElem_mem hi), idxOf_of pc d i hi hid hbef] at h
          exact hide h
        have hi2 : i < e - b := by rw [← unhide HPL]; exact hi
        have h0i : (0 : Int) ≤ (i : Int) := by omega
        clear hid hbef hi HTG
        by_cases hi0 : i = 0
        · subst hi0
          have hrun := run_app_none w5.drew w.heap.size b (e - b) w.heap.size b (e - b)
          go_wp2
          go_region
          go_wp2
          rw [unhide HP]
          refine ⟨_, rfl, ?_, (unhide Hb2).trans ((Below.refl _ _).drew.mono (unhide Hb2).size)⟩
          rw [unhide HI5]
          show Mine _ _ (.slice (some ⟨w.heap.size, b, none⟩) (e - b) (e - b)) (Sp.rot2 pc 0)
          have hr0 : Sp.rot2 pc 0 = pc := by simp [Sp.rot2]
          rw [hr0]
          refine .inr ⟨w.heap.size, b, e - b, by rw [unhide HPL], Nat.le_refl _, ?_, by rw [unhide HPL]; exact Nat.le_refl _, by unfold maxLen; omega, fun j hj => unhide HPC _ (Below.refl _ _).drew j hj⟩
          exact cell_lt (a := ⟨w.heap.size, b + 0, none⟩) (unhide HPC w5.drew (Below.refl _ _).drew 0 (by rw [unhide HPL]; omega)).1
        · have HD1 : Hid ((pc.drop i).length = e - b - i) := hide (by rw [List.length_drop, unhide HPL])
          have HD2 : Hid ((pc.take i).length = i) := hide (by rw [List.length_take, unhide HPL]; omega)
          obtain ⟨c6, w6, hrun, hown6, hb6⟩ := run_app_grow w5.drew w.heap.size (b + i) (e - b - i) i (e - b) w.heap.size b (pc.drop i) (pc.take i) (unhide HD1) (unhide HD2) (by omega) (by omega)
            (fun j hj => by rw [List.getElem_drop, Nat.add_assoc]; exact (unhide HPC w5.drew (Below.refl _ _).drew (i + j) (by rw [List.length_drop] at hj; omega)).1)
            (fun j hj => by rw [List.getElem_take]; exact (unhide HPC w5.drew (Below.refl _ _).drew j (by rw [List.length_take] at hj; omega)).1)
          have hsum : e - b - i + i = e - b := by omega
          rw [hsum] at hrun hown6
          have Hrun := hide hrun
          have hne1 : ¬ e - b = i := by omega
          have hle1 : i ≤ e - b := by omega
          have hle2 : (i : Int) ≤ ((e - b : Nat) : Int) := by omega
          clear hrun
          go_wp2
          go_region_law (refine step_run rfl (.tmp 28) (.tmp 31) rfl _ _ _ _ rfl rfl (unhide Hrun) ?_)
          go_wp2
          go_ret
          rw [unhide HP]
          have hl6 : e - b = (Sp.rot2 pc i).length := by
            unfold Sp.rot2
            rw [List.length_append, unhide HD1, unhide HD2, hsum]
          have hb7 : Below w.heap.size w w6 := (unhide Hb2).trans (((Below.refl _ w5).drew.trans hb6).mono (unhide Hb2).size)
          refine ⟨_, rfl, ?_, hb7⟩
          rw [unhide HI5]
          have hown7 : OwnI w6 w5.heap.size (.slice (some ⟨w5.heap.size, 0, none⟩) (e - b) c6) (Sp.rot2 pc i) := hown6
          show Mine _ _ (.slice (some ⟨w5.heap.size, 0, none⟩) (e - b) c6) (Sp.rot2 pc i)
          exact own_mine hown7 hl6 (unhide Hb2).size
      · have HN : Hid (R = Sp.ofGo row d (ps.drop (k + 1))) := by
          have h := unhide HTG
          rw [if_neg hnm] at h
          exact hide h
        clear hnm
        go_wp2
        go_round
        case rel => exact ⟨k + 1, by omega, by go_num, HN⟩
        case measure => simp [intOf]; omega
    · have HF : Hid (R = []) := by
        have h := unhide HI
        rw [List.drop_eq_nil_of_le (by omega), Sp.ofGo] at h
        exact hide h
      go_wp2
      rw [unhide HP]
      exact ⟨_, rfl, .inl ⟨rfl, unhide HF⟩, unhide Hb2⟩
end Go.Proofs.Ytoegjnolccabjab


/- The walks of package rot: About, Face. -/
namespace Go.Proofs.Ytoegjnolccabjab
open Go Go.RowKit

set_option maxRecDepth 100000 in
set_option maxHeartbeats 1000000 in
theorem face_any (q : Sp.Net) (v tv nv cv : Value) (d : Int) (w : World) (hv : NetI w v q tv nv cv) (hw : Sp.walkB q = true) :
    Calls Try.prog 52 #[v, .int .i64 d] w fun e w' => ∃ rv, e = .returned rv ∧ Mine w' w.heap.size rv (Sp.roundOf (Sp.behindL q.next) d) ∧ Below w.heap.size w w' := by
  have hq := walkQ hw
  have hv' := hv
  obtain ⟨rfl, h1, h2, h3⟩ := hv
  obtain ⟨ta, tc, rfl, -, -⟩ := h1.form
  obtain ⟨na, nc, rfl, -, -⟩ := h2.form
  obtain ⟨ca, cc, rfl, -, -⟩ := h3.form
  clear h1 h2 h3
  have HBX := hide (box_new w q.n (.slice ta q.tail.length tc) (.slice na q.next.length nc) (.slice ca q.cap.length cc))
  obtain ⟨W1, hW1⟩ : ∃ W1, W1 = w.alloc (.cells #[.int .i64 q.n, .slice ta q.tail.length tc, .slice na q.next.length nc, .slice ca q.cap.length cc] 26) := ⟨_, rfl⟩
  rw [← hW1] at HBX
  have hb1 : Below w.heap.size w W1 := by rw [hW1]; exact (Below.refl _ w).alloc (Nat.le_refl _) _
  have hs1 : W1.heap.size = w.heap.size + 1 := by rw [hW1]; simp
  have HW : Hid (∀ w', Below (w.heap.size + 1) W1 w' → Below w.heap.size w w') := hide fun w' hb => hb1.trans (hb.mono (by omega))
  have HS1 := hide hs1
  have HV : Hid (∀ w', Below (w.heap.size + 1) W1 w' → NetI w' (.agg #[.int .i64 q.n, .slice ta q.tail.length tc, .slice na q.next.length nc, .slice ca q.cap.length cc]) q (.slice ta q.tail.length tc) (.slice na q.next.length nc) (.slice ca q.cap.length cc)) := hide fun w' hb => hv'.below (unhide HW _ hb)
  have HC1 := hide (rwalkable_any q _ _ _ _ W1 (unhide HV W1 (Below.refl _ _)))
  rw [hw] at HC1
  have HQ := hide hq
  generalize hR : Sp.roundOf (Sp.behindL q.next) d = R
  have HR := hide hR
  obtain ⟨P, hP⟩ : ∃ P : Ending → World → Prop, P = fun e w' => ∃ rv, e = .returned rv ∧ Mine w' w.heap.size rv R ∧ Below w.heap.size w w' := ⟨_, rfl⟩
  rw [← hP]
  have HP := hide hP
  obtain ⟨x0, x1, x2, x3, -⟩ := unhide HBX W1 (Below.refl _ _)
  clear hb1 hs1 hv' hw hq hP hR
  subst hW1
  go_enter Try.func52, Try.ntmps52
  go_wp2_with fail
  go_at_call 79
  refine (unhide HC1).mono ?_
  clear HC1 x0 x1 x2 x3
  generalize w.alloc (.cells #[.int .i64 q.n, .slice ta q.tail.length tc, .slice na q.next.length nc, .slice ca q.cap.length cc] 26) = W1 at *
  rintro e w2 ⟨rfl, hb2⟩
  rw [unhide HS1] at hb2
  obtain ⟨x0, x1, x2, x3, hsz2⟩ := unhide HBX w2 hb2
  have HC2 := hide (behind_any q _ _ _ _ w2 (unhide HV w2 hb2) (by rw [(unhide HQ).nx]; exact (unhide HQ).ev) (by rw [(unhide HQ).nx]; exact (unhide HQ).big))
  have Hb2 := hide hb2
  clear hb2
  go_wp2_with fail
  go_at_call 81
  refine (unhide HC2).mono ?_
  clear HC2
  rintro e w3 ⟨sv, rfl, hown3, hb3⟩
  have hown3' : OwnI w3 w2.heap.size sv (Sp.behindL q.next) := hown3
  have HC3 := hide (roundOf_any (Sp.behindL q.next) sv d w3 hown3'.ints (by rw [Sp.behindL_len, (unhide HQ).nx]; exact (unhide HQ).big) (by rw [Sp.behindL_len]; exact Sp.behindL_bd q.next (by rw [(unhide HQ).nx]; exact (unhide HQ).ev) (unhide HQ).nb))
  rw [unhide HR] at HC3
  have Hb3 : Hid (Below (w.heap.size + 1) W1 w3) := hide ((unhide Hb2).trans (hb3.mono hsz2))
  have hsz3 := Nat.le_trans hsz2 hb3.size
  clear hown3 hown3' hb3 x0 x1 x2 x3
  go_wp2_with fail
  go_at_call 80
  refine (unhide HC3).mono ?_
  clear HC3
  rintro e w4 ⟨rv, rfl, hm4, hb4⟩
  have HM : Hid (Mine w4 w.heap.size rv R) := hide (hm4.base (by omega))
  have HB : Hid (Below w.heap.size w w4) := hide (unhide HW _ ((unhide Hb3).trans (hb4.mono hsz3)))
  clear hm4 hb4
  go_wp2
  rw [unhide HP]
  exact ⟨_, rfl, unhide HM, unhide HB⟩
end Go.Proofs.Ytoegjnolccabjab


/- The walks of slices.Clone and of package rot: Turn. -/
namespace Go.Proofs.Ytoegjnolccabjab
open Go Go.RowKit

theorem make_runs (n : Nat) (hn : n ≤ 240) : ∃ F : World → World, ∀ w, (Instr.makeSlice 22 (.int .i64 (n : Int)) (.int .i64 (n : Int))).run Try.prog w = .ok (.slice (some ⟨w.heap.size, 0, none⟩) n n) (F w) ∧ OwnI (F w) w.heap.size (.slice (some ⟨w.heap.size, 0, none⟩) n n) (List.replicate n 0) ∧ Below w.heap.size w (F w) := by
  obtain ⟨i0, hi, hz0, hz1, hz2⟩ := info_parts info3
  have h : ∀ w : World, ∃ w', (Instr.makeSlice 22 (.int .i64 (n : Int)) (.int .i64 (n : Int))).run Try.prog w = .ok (.slice (some ⟨w.heap.size, 0, none⟩) n n) w' ∧ OwnI w' w.heap.size (.slice (some ⟨w.heap.size, 0, none⟩) n n) (List.replicate n 0) ∧ Below w.heap.size w w' := fun w => by
    obtain ⟨w', hrun, r1, r2⟩ := run_make_full (P := Try.prog) w w.heap.size 22 3 i0 (.int .i64 0) 1 Try.underlying22 hi hz0 hz1 .i64 .i64 n (by rw [hz2]; omega) (by unfold maxLen; omega) (Nat.le_refl _)
    rw [made_ints] at r1
    refine ⟨w', hrun, ?_, (Below.refl _ _).grown r2 (Nat.le_refl _) (by simp)⟩
    unfold OwnI
    rw [List.length_replicate]
    exact r1
  exact ⟨fun w => Classical.choose (h w), fun w => Classical.choose_spec (h w)⟩
def Sp.invGo (nx : List Int) : Nat → Nat → List Int → List Int
  | 0, _, L => L
  | c + 1, d, L => Sp.invGo nx c (d + 1) (L.set (nx.getD d 0).toNat (d : Int))
/-- The next ones seen from behind. -/
def Sp.turnL (nx : List Int) : List Int := Sp.invGo nx nx.length 0 (List.replicate nx.length 0)
/-- The net that Turn builds, in a block of its own; its result's block is still empty. -/
structure TurnAt (w wx : World) (g gn : Nat) (q : Sp.Net) (tv nv cv vT vC : Value) (L : List Int) : Prop where
  box : BoxAt w wx q.n tv nv cv
  ob : wx.heap[g]? = some (.cells #[.int .i64 q.n, vT, .slice (some ⟨gn, 0, none⟩) q.next.length q.next.length, vC] 26 (0, 0))
  far : w.heap.size + 2 ≤ g
  own : OwnI wx (w.heap.size + 2) (.slice (some ⟨gn, 0, none⟩) q.next.length q.next.length) L
  ne : gn ≠ g
  ot : OwnI wx (w.heap.size + 2) vT q.tail
  oc : OwnI wx (w.heap.size + 2) vC q.cap
  nt : vT.ownBlock ≠ some gn
  nc : vC.ownBlock ≠ some gn
theorem own_but {w w' : World} {B g : Nat} {v : Value} {l : List Int} (h : OwnI w B v l) (hb : ButRow g w w') (hne : v.ownBlock ≠ some g) : OwnI w' B v l := by
  obtain ⟨hx, hv | ⟨k, cap, cur, hv, hg, hh, r⟩⟩ := h
  · exact ⟨hx, .inl hv⟩
  · refine ⟨hx, .inr ⟨k, cap, cur, hv, hg, ?_, r⟩⟩
    rw [hb.block k (fun e => hne (by rw [hv, e]; rfl))]
    exact hh
theorem four_cells {X : World} {g : Nat} (h : X.heap[g]? = some (.cells #[.int .i64 0, .slice none 0 0, .slice none 0 0, .slice none 0 0] 26 (0, 0))) (n' : Int) (a b c : Value) : ((((X.setCell ⟨g, 0, none⟩ (.int .i64 n')).setCell ⟨g, 1, none⟩ a).setCell ⟨g, 2, none⟩ b).setCell ⟨g, 3, none⟩ c).heap[g]? = some (.cells #[.int .i64 n', a, b, c] 26 (0, 0)) := by
  have h0 := heap_setCell_same X g 0 _ _ (.int .i64 n') h
  have h1 := heap_setCell_same _ g 1 _ _ a h0
  have h2 := heap_setCell_same _ g 2 _ _ b h1
  have h3 := heap_setCell_same _ g 3 _ _ c h2
  rw [h3]; rfl
theorem TurnAt.put {w wx : World} {g gn : Nat} {q : Sp.Net} {tv nv cv vT vC : Value} {L : List Int} (h : TurnAt w wx g gn q tv nv cv vT vC L) (x : Nat) (d : Int) : TurnAt w (wx.setCell ⟨gn, x, none⟩ (.int .i64 d)) g gn q tv nv cv vT vC (L.set x d) := by
  have hbut : ButRow gn wx (wx.setCell ⟨gn, x, none⟩ (.int .i64 d)) := (ButRow.refl gn wx).setCell x _
  have hgn := (h.own.lt gn rfl).1
  exact ⟨h.box.other gn x (by omega) _, (hbut.block g (Ne.symm h.ne)).trans h.ob, h.far, own_setCell h.own x d, h.ne, own_but h.ot hbut h.nt, own_but h.oc hbut h.nc, h.nt, h.nc⟩
end Go.Proofs.Ytoegjnolccabjab


/- Rounds of a function, by labels: how many there are; what a new place, and two images exchanged, do to them. -/
namespace Go.Proofs.Ytoegjnolccabjab
open Go Go.RowKit

def itf (f : Nat → Nat) (i : Nat) : Nat → Nat
  | 0 => i
  | m + 1 => f (itf f i m)
theorem itf_add (f : Nat → Nat) (i m : Nat) : ∀ n, itf f i (m + n) = itf f (itf f i m) n
  | 0 => rfl
  | n + 1 => by show f (itf f i (m + n)) = f (itf f (itf f i m) n); rw [itf_add f i m n]
theorem itf_one (f : Nat → Nat) (i n : Nat) : itf f i (n + 1) = itf f (f i) n := by
  rw [Nat.add_comm, itf_add]; rfl
def OrbF (f : Nat → Nat) (i j : Nat) : Prop := ∃ m, itf f i m = j
theorem OrbF.refl (f : Nat → Nat) (i : Nat) : OrbF f i i := ⟨0, rfl⟩
theorem OrbF.trans {f : Nat → Nat} {i j k : Nat} (h1 : OrbF f i j) (h2 : OrbF f j k) : OrbF f i k := by
  obtain ⟨a, rfl⟩ := h1
  obtain ⟨b, rfl⟩ := h2
  exact ⟨a + b, itf_add f i a b⟩
theorem OrbF.one (f : Nat → Nat) (i : Nat) : OrbF f i (f i) := ⟨1, rfl⟩
structure PermF (L : Nat) (f : Nat → Nat) : Prop where
  mp : ∀ i, i < L → f i < L
  inj : ∀ i j, i < L → j < L → f i = f j → i = j
theorem PermF.it {L : Nat} {f : Nat → Nat} (h : PermF L f) {i : Nat} (hi : i < L) : ∀ m, itf f i m < L
  | 0 => hi
  | m + 1 => h.mp _ (h.it hi m)
/-- Labels that tell a function's rounds apart, k of them. -/
structure Cls (L : Nat) (f lab : Nat → Nat) (k : Nat) : Prop where
  lt : ∀ i, i < L → lab i < k
  on : ∀ c, c < k → ∃ i, i < L ∧ lab i = c
  inv : ∀ i, i < L → lab (f i) = lab i
  sep : ∀ i j, i < L → j < L → lab i = lab j → OrbF f i j
theorem Cls.along {L : Nat} {f lab : Nat → Nat} {k : Nat} (h : Cls L f lab k) (hp : ∀ i, i < L → f i < L) {i : Nat} (hi : i < L) : ∀ m, itf f i m < L ∧ lab (itf f i m) = lab i
  | 0 => ⟨hi, rfl⟩
  | m + 1 => by
    obtain ⟨h1, h2⟩ := h.along hp hi m
    exact ⟨hp _ h1, by show lab (f (itf f i m)) = _; rw [h.inv _ h1, h2]⟩
theorem Cls.orb {L : Nat} {f lab : Nat → Nat} {k : Nat} (h : Cls L f lab k) (hp : ∀ i, i < L → f i < L) {i j : Nat} (hi : i < L) (ho : OrbF f i j) : lab i = lab j := by
  obtain ⟨m, rfl⟩ := ho
  exact (h.along hp hi m).2.symm
theorem Cls.le {L : Nat} {f lab lab' : Nat → Nat} {k k' : Nat} (hp : ∀ i, i < L → f i < L) (h : Cls L f lab k) (h' : Cls L f lab' k') : k ≤ k' := by
  have hc : ∀ c, ∃ i, c < k → i < L ∧ lab i = c := fun c => by
    by_cases h0 : c < k
    · obtain ⟨i, h1⟩ := h.on c h0
      exact ⟨i, fun _ => h1⟩
    · exact ⟨0, fun h1 => absurd h1 h0⟩
  obtain ⟨g, hg⟩ := Classical.axiomOfChoice hc
  have := nodup_le k' ((List.range k).map fun c => ((lab' (g c) : Nat) : Int)) (by
    unfold List.Nodup
    rw [List.pairwise_map, List.pairwise_iff_getElem]
    intro i j hi hj hij e
    rw [List.length_range] at hi hj
    rw [List.getElem_range, List.getElem_range] at e
    obtain ⟨a1, a2⟩ := hg i hi
    obtain ⟨b1, b2⟩ := hg j hj
    have h3 := h.orb hp a1 (h'.sep _ _ a1 b1 (by omega))
    omega) (fun x hx => by
    obtain ⟨c, h1, rfl⟩ := List.mem_map.1 hx
    have h2 := h'.lt _ (hg c (List.mem_range.1 h1)).1
    exact ⟨by omega, by omega⟩)
  rw [List.length_map, List.length_range] at this
  exact this
theorem Cls.count {L : Nat} {f lab lab' : Nat → Nat} {k k' : Nat} (hp : ∀ i, i < L → f i < L) (h : Cls L f lab k) (h' : Cls L f lab' k') : k = k' := Nat.le_antisymm (h.le hp h') (h'.le hp h)
theorem Cls.congr {L : Nat} {f f' lab lab' : Nat → Nat} {k : Nat} (h : Cls L f lab k) (hp : ∀ i, i < L → f i < L) (hf : ∀ i, i < L → f' i = f i) (hl : ∀ i, i < L → lab' i = lab i) : Cls L f' lab' k := by
  refine ⟨fun i hi => by rw [hl i hi]; exact h.lt i hi, fun c hc => ?_, fun i hi => by rw [hf i hi, hl i hi, hl _ (hp i hi)]; exact h.inv i hi, fun i j hi hj e => ?_⟩
  · obtain ⟨i, h1, h2⟩ := h.on c hc
    exact ⟨i, h1, by rw [hl i h1]; exact h2⟩
  · rw [hl i hi, hl j hj] at e
    obtain ⟨m, hm⟩ := h.sep i j hi hj e
    refine ⟨m, ?_⟩
    rw [← hm]
    clear hm
    induction m with
    | zero => rfl
    | succ m ih =>
      show f' (itf f' i m) = f (itf f i m)
      rw [ih]
      exact hf _ (h.along hp hi m).1
/-- A new place behind u. -/
def insF (L u : Nat) (f : Nat → Nat) (x : Nat) : Nat := if x = u then L else if x = L then f u else f x
theorem insF_perm {L u : Nat} {f : Nat → Nat} (h : PermF L f) (hu : u < L) : PermF (L + 1) (insF L u f) := by
  refine ⟨fun i hi => ?_, fun i j hi hj e => ?_⟩
  · unfold insF
    have := h.mp u hu
    split
    · omega
    · split
      · omega
      · have := h.mp i (by omega); omega
  · unfold insF at e
    have h0 := h.mp u hu
    by_cases h1 : i = u <;> by_cases h2 : j = u
    · omega
    · rw [if_pos h1, if_neg h2] at e
      by_cases h3 : j = L
      · rw [if_pos h3] at e; omega
      · rw [if_neg h3] at e; have := h.mp j (by omega); omega
    · rw [if_neg h1, if_pos h2] at e
      by_cases h3 : i = L
      · rw [if_pos h3] at e; omega
      · rw [if_neg h3] at e; have := h.mp i (by omega); omega
    · rw [if_neg h1, if_neg h2] at e
      by_cases h3 : i = L <;> by_cases h4 : j = L
      · omega
      · rw [if_pos h3, if_neg h4] at e; have := h.inj u j hu (by omega) e; omega
      · rw [if_neg h3, if_pos h4] at e; have := h.inj i u (by omega) hu e; omega
      · rw [if_neg h3, if_neg h4] at e; exact h.inj i j (by omega) (by omega) e
theorem insF_orb {L u : Nat} {f : Nat → Nat} (hp : ∀ i, i < L → f i < L) (hu : u < L) {i : Nat} (hi : i < L) : ∀ m, OrbF (insF L u f) i (itf f i m)
  | 0 => OrbF.refl _ _
  | m + 1 => by
    refine (insF_orb hp hu hi m).trans ?_
    have hb : itf f i m < L := by
      induction m with
      | zero => exact hi
      | succ m ih => exact hp _ ih
    show OrbF _ _ (f (itf f i m))
    generalize itf f i m = x at *
    by_cases hx : x = u
    · refine ⟨2, ?_⟩
      show insF L u f (insF L u f x) = f x
      have e1 : insF L u f x = L := by unfold insF; rw [if_pos hx]
      rw [e1]
      unfold insF
      rw [if_neg (by omega), if_pos rfl, hx]
    · refine ⟨1, ?_⟩
      show insF L u f x = f x
      unfold insF
      rw [if_neg hx, if_neg (by omega)]
theorem Cls.ins {L u : Nat} {f lab : Nat → Nat} {k : Nat} (h : Cls L f lab k) (hp : ∀ i, i < L → f i < L) (hu : u < L) : Cls (L + 1) (insF L u f) (fun x => if x = L then lab u else lab x) k := by
  have hlab : ∀ x, x < L → (if x = L then lab u else lab x) = lab x := fun x hx => if_neg (by omega)
  have o1 : ∀ i j, i < L → j < L → lab i = lab j → OrbF (insF L u f) i j := fun i j hi hj e => by
    obtain ⟨m, rfl⟩ := h.sep i j hi hj e
    exact insF_orb hp hu hi m
  have oL : OrbF (insF L u f) L (f u) := ⟨1, by show insF L u f L = _; unfold insF; rw [if_neg (by omega), if_pos rfl]⟩
  have ou : OrbF (insF L u f) u L := ⟨1, by show insF L u f u = _; unfold insF; rw [if_pos rfl]⟩
  have hfu := hp u hu
  refine ⟨fun i hi => ?_, fun c hc => ?_, fun i hi => ?_, fun i j hi hj e => ?_⟩
  · show (if i = L then lab u else lab i) < k
    split
    · exact h.lt u hu
    · exact h.lt i (by omega)
  · obtain ⟨i, h1, h2⟩ := h.on c hc
    exact ⟨i, by omega, (hlab i h1).trans h2⟩
  · show (if insF L u f i = L then lab u else lab (insF L u f i)) = if i = L then lab u else lab i
    by_cases h1 : i = u
    · have e1 : insF L u f i = L := by unfold insF; rw [if_pos h1]
      rw [e1, if_pos rfl, if_neg (by omega), h1]
    · by_cases h2 : i = L
      · have e1 : insF L u f i = f u := by unfold insF; rw [if_neg h1, if_pos h2]
        rw [e1, if_neg (by omega), if_pos h2, h.inv u hu]
      · have e1 : insF L u f i = f i := by unfold insF; rw [if_neg h1, if_neg h2]
        have := hp i (by omega)
        rw [e1, if_neg (by omega), if_neg h2, h.inv i (by omega)]
  · have e' : (if i = L then lab u else lab i) = if j = L then lab u else lab j := e
    by_cases h1 : i = L <;> by_cases h2 : j = L
    · rw [h1, h2]; exact OrbF.refl _ _
    · rw [if_pos h1, if_neg h2] at e'
      rw [h1]
      exact oL.trans (o1 _ _ hfu (by omega) (by rw [h.inv u hu]; exact e'))
    · rw [if_neg h1, if_pos h2] at e'
      rw [h2]
      exact (o1 _ _ (by omega) hu e').trans ou
    · rw [if_neg h1, if_neg h2] at e'
      exact o1 _ _ (by omega) (by omega) e'
/-- A new place that is its own next one. -/
def fixF (L : Nat) (f : Nat → Nat) (x : Nat) : Nat := if x = L then L else f x
theorem Cls.fix {L : Nat} {f lab : Nat → Nat} {k : Nat} (h : Cls L f lab k) (hp : ∀ i, i < L → f i < L) : Cls (L + 1) (fixF L f) (fun x => if x = L then k else lab x) (k + 1) := by
  have it : ∀ i, i < L → ∀ m, itf (fixF L f) i m = itf f i m := by
    intro i hi m
    induction m with
    | zero => rfl
    | succ m ih =>
      show fixF L f (itf (fixF L f) i m) = f (itf f i m)
      rw [ih]
      unfold fixF
      rw [if_neg (by have := (h.along hp hi m).1; omega)]
  refine ⟨fun i hi => ?_, fun c hc => ?_, fun i hi => ?_, fun i j hi hj e => ?_⟩
  · show (if i = L then k else lab i) < k + 1
    split
    · omega
    · have := h.lt i (by omega); omega
  · by_cases hk : c = k
    · exact ⟨L, by omega, by show (if L = L then k else lab L) = c; rw [if_pos rfl, hk]⟩
    · obtain ⟨i, h1, h2⟩ := h.on c (by omega)
      exact ⟨i, by omega, by show (if i = L then k else lab i) = c; rw [if_neg (by omega)]; exact h2⟩
  · show (if fixF L f i = L then k else lab (fixF L f i)) = if i = L then k else lab i
    by_cases h2 : i = L
    · have e1 : fixF L f i = L := by unfold fixF; rw [if_pos h2]
      rw [e1, if_pos rfl, if_pos h2]
    · have e1 : fixF L f i = f i := by unfold fixF; rw [if_neg h2]
      have := hp i (by omega)
      rw [e1, if_neg (by omega), if_neg h2, h.inv i (by omega)]
  · have e' : (if i = L then k else lab i) = if j = L then k else lab j := e
    by_cases h1 : i = L <;> by_cases h2 : j = L
    · rw [h1, h2]; exact OrbF.refl _ _
    · rw [if_pos h1, if_neg h2] at e'; have := h.lt j (by omega); omega
    · rw [if_neg h1, if_pos h2] at e'; have := h.lt i (by omega); omega
    · rw [if_neg h1, if_neg h2] at e'
      obtain ⟨m, hm⟩ := h.sep i j (by omega) (by omega) e'
      exact ⟨m, by rw [it i (by omega)]; exact hm⟩
end Go.Proofs.Ytoegjnolccabjab


/- Two images of one round exchanged: the round falls in two. -/
namespace Go.Proofs.Ytoegjnolccabjab
open Go Go.RowKit

def swpF (u v : Nat) (f : Nat → Nat) (x : Nat) : Nat := if x = u then f v else if x = v then f u else f x
theorem swpF_perm {L u v : Nat} {f : Nat → Nat} (h : PermF L f) (hu : u < L) (hv : v < L) : PermF L (swpF u v f) := by
  have key : ∀ x, swpF u v f x = f (if x = u then v else if x = v then u else x) := fun x => by
    unfold swpF
    by_cases h1 : x = u
    · rw [if_pos h1, if_pos h1]
    · rw [if_neg h1, if_neg h1]
      by_cases h2 : x = v
      · rw [if_pos h2, if_pos h2]
      · rw [if_neg h2, if_neg h2]
  have kb : ∀ x, x < L → (if x = u then v else if x = v then u else x) < L := fun x hx => by split <;> (try split) <;> assumption
  refine ⟨fun i hi => by rw [key]; exact h.mp _ (kb i hi), fun i j hi hj e => ?_⟩
  rw [key, key] at e
  have := h.inj _ _ (kb i hi) (kb j hj) e
  split at this <;> split at this <;> (try split at this) <;> (try split at this) <;> omega
theorem Cls.split {L u v : Nat} {f lab : Nat → Nat} {k : Nat} (h : Cls L f lab k) (hp : PermF L f) (hu : u < L) (hv : v < L) (huv : u ≠ v) (ho : OrbF f u v) :
    ∃ lab', Cls L (swpF u v f) lab' (k + 1) := by
  obtain ⟨m, hm⟩ := ho
  obtain ⟨m1, hm1⟩ : ∃ m1, itf f (f u) m1 = v := by
    cases m with
    | zero => exact absurd hm huv
    | succ m => exact ⟨m, by rw [← itf_one]; exact hm⟩
  obtain ⟨m0, h0, hmin⟩ := least_of (p := fun m => itf f (f u) m = v) ⟨m1, hm1⟩
  clear hm hm1 m m1
  have hfu := hp.mp u hu
  have hfv := hp.mp v hv
  -- u is not on the way
  have huB : ∀ m, m ≤ m0 → itf f (f u) m ≠ u := fun m hm e => by
    have hlt : m < m0 := by
      rcases Nat.lt_or_ge m m0 with h1 | h1
      · exact h1
      · have : m = m0 := by omega
        rw [this, h0] at e; omega
    have e2 : itf f (f u) (m + 1) = f u := by show f (itf f (f u) m) = _; rw [e]
    have e3 : itf f (f u) (m0 - m - 1) = v := by
      rw [← h0]
      have : m0 = (m + 1) + (m0 - m - 1) := by omega
      conv => rhs; rw [this, itf_add, e2]
    have := hmin _ e3
    omega
  have hvB : ∀ m, m < m0 → itf f (f u) m ≠ v := fun m hm e => by have := hmin _ e; omega
  let B : Nat → Prop := fun x => ∃ m, m ≤ m0 ∧ itf f (f u) m = x
  have bu : ¬ B u := fun ⟨m, h1, h2⟩ => huB m h1 h2
  have bv : B v := ⟨m0, Nat.le_refl _, h0⟩
  have bfu : B (f u) := ⟨0, Nat.zero_le _, rfl⟩
  have bL : ∀ x, B x → x < L := fun x ⟨m, _, h2⟩ => by rw [← h2]; exact hp.it hfu m
  have bfwd : ∀ x, B x → x ≠ v → B (f x) := fun x ⟨m, h1, h2⟩ hx => by
    have : m ≠ m0 := fun e => by rw [e, h0] at h2; exact hx h2.symm
    exact ⟨m + 1, by omega, by show f (itf f (f u) m) = _; rw [h2]⟩
  have bback : ∀ x, x < L → x ≠ u → B (f x) → B x ∧ x ≠ v := fun x hx hxu ⟨m, h1, h2⟩ => by
    cases m with
    | zero => exact absurd (hp.inj x u hx hu h2.symm) hxu
    | succ m =>
      have e : itf f (f u) m = x := hp.inj _ _ (hp.it hfu m) hx h2
      exact ⟨⟨m, by omega, e⟩, fun ex => hvB m (by omega) (by rw [e, ex])⟩
  have bfv : ¬ B (f v) := fun hb => (bback v hv huv.symm hb).2 rfl
  have blab : ∀ x, B x → lab x = lab u := fun x ⟨m, _, h2⟩ => by
    rw [← h2, (h.along hp.mp hfu m).2, h.inv u hu]
  have su : swpF u v f u = f v := by unfold swpF; rw [if_pos rfl]
  have sv : swpF u v f v = f u := by unfold swpF; rw [if_neg huv.symm, if_pos rfl]
  have so : ∀ x, x ≠ u → x ≠ v → swpF u v f x = f x := fun x h1 h2 => by unfold swpF; rw [if_neg h1, if_neg h2]
  -- along B the two functions go the same way
  have same : ∀ m, m ≤ m0 → itf (swpF u v f) (f u) m = itf f (f u) m := by
    intro m
    induction m with
    | zero => intro _; rfl
    | succ m ih =>
      intro hm
      show swpF u v f (itf (swpF u v f) (f u) m) = f (itf f (f u) m)
      rw [ih (by omega)]
      exact so _ (huB m (by omega)) (hvB m (by omega))
  have inB : ∀ x y, B x → B y → OrbF (swpF u v f) x y := fun x y ⟨a, ha, hx⟩ ⟨b, hb, hy⟩ => by
    have o1 : OrbF (swpF u v f) x v := ⟨m0 - a, by
      have e1 : itf (swpF u v f) (f u) a = x := by rw [same a ha, hx]
      rw [← e1, ← itf_add, show a + (m0 - a) = m0 by omega, same m0 (Nat.le_refl _), h0]⟩
    have o2 : OrbF (swpF u v f) v (f u) := ⟨1, sv⟩
    have o3 : OrbF (swpF u v f) (f u) y := ⟨b, by rw [same b hb, hy]⟩
    exact (o1.trans o2).trans o3
  have outB : ∀ n x, x < L → ¬ B x → ¬ B (itf f x n) → OrbF (swpF u v f) x (itf f x n) := by
    intro n
    induction n using Nat.strongRecOn with
    | _ n ih =>
      intro x hx hbx hbn
      cases n with
      | zero => exact OrbF.refl _ _
      | succ n =>
        rw [itf_one] at hbn ⊢
        have hxv : x ≠ v := fun e => hbx (e ▸ bv)
        by_cases hxu : x = u
        · subst hxu
          have hn : m0 < n := by
            rcases Nat.lt_or_ge m0 n with h1 | h1
            · exact h1
            · exact absurd ⟨n, h1, rfl⟩ hbn
          have e1 : itf f (f x) n = itf f (f v) (n - m0 - 1) := by
            have : n = (m0 + 1) + (n - m0 - 1) := by omega
            conv => lhs; rw [this, itf_add]
            show itf f (f (itf f (f x) m0)) (n - m0 - 1) = _
            rw [h0]
          rw [e1] at hbn ⊢
          exact OrbF.trans ⟨1, su⟩ (ih (n - m0 - 1) (by omega) (f v) hfv bfv hbn)
        · have hbf : ¬ B (f x) := fun hb => hbx (bback x hx hxu hb).1
          exact OrbF.trans ⟨1, so x hxu hxv⟩ (ih n (by omega) (f x) (hp.mp x hx) hbf hbn)
  classical
  refine ⟨fun x => if B x then k else lab x, fun i hi => ?_, fun c hc => ?_, fun i hi => ?_, fun i j hi hj e => ?_⟩
  · show (if B i then k else lab i) < k + 1
    split
    · omega
    · have := h.lt i hi; omega
  · by_cases hk : c = k
    · exact ⟨v, hv, by show (if B v then k else lab v) = c; rw [if_pos bv, hk]⟩
    · obtain ⟨i, h1, h2⟩ := h.on c (by omega)
      by_cases hb : B i
      · exact ⟨u, hu, by show (if B u then k else lab u) = c; rw [if_neg bu, ← blab i hb]; exact h2⟩
      · exact ⟨i, h1, by show (if B i then k else lab i) = c; rw [if_neg hb]; exact h2⟩
  · show (if B (swpF u v f i) then k else lab (swpF u v f i)) = if B i then k else lab i
    by_cases h1 : i = u
    · rw [h1, su, if_neg bfv, if_neg bu, h.inv v hv, blab v bv]
    · by_cases h2 : i = v
      · rw [h2, sv, if_pos bfu, if_pos bv]
      · rw [so i h1 h2]
        by_cases hb : B i
        · rw [if_pos hb, if_pos (bfwd i hb h2)]
        · rw [if_neg hb, if_neg (fun hb' => hb (bback i hi h1 hb').1), h.inv i hi]
  · have e' : (if B i then k else lab i) = if B j then k else lab j := e
    by_cases h1 : B i <;> by_cases h2 : B j
    · exact inB i j h1 h2
    · rw [if_pos h1, if_neg h2] at e'; have := h.lt j hj; omega
    · rw [if_neg h1, if_pos h2] at e'; have := h.lt i hi; omega
    · rw [if_neg h1, if_neg h2] at e'
      obtain ⟨n, rfl⟩ := h.sep i j hi hj e'
      exact outB n i hi h1 h2
end Go.Proofs.Ytoegjnolccabjab


