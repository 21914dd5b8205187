/- What the proof needs, part 18. -/
import Derived.Test.YtoegjnolccabjabL17
/- The law RimKnown, walked. -/
namespace Go.Proofs.Ytoegjnolccabjab
open Go Go.RowKit

/-- A round's darts. -/
def Sp.knT (k : Nat) : Nat → List Int
  | 0 => List.replicate (2 * k) 0
  | e + 1 => ((Sp.knT k e).set (2 * e) (e : Int)).set (2 * e + 1) (((e + 1) % k : Nat) : Int)
def Sp.knX (k : Nat) : Nat → List Int
  | 0 => List.replicate (2 * k) 0
  | v + 1 => ((Sp.knX k v).set (2 * v) ((2 * ((v + k - 1) % k) + 1 : Nat) : Int)).set (2 * ((v + k - 1) % k) + 1) ((2 * v : Nat) : Int)
theorem Sp.knT_len (k : Nat) : ∀ e, (Sp.knT k e).length = 2 * k
  | 0 => by simp [Sp.knT]
  | e + 1 => by simp [Sp.knT, Sp.knT_len k e]
theorem Sp.knX_len (k : Nat) : ∀ e, (Sp.knX k e).length = 2 * k
  | 0 => by simp [Sp.knX]
  | e + 1 => by simp [Sp.knX, Sp.knX_len k e]
/-- A net in a block of its own, its three rows in theirs. -/
structure KnAt (B : Nat) (w0 : World) (g g1 g2 g3 K M : Nat) (wx : World) (T X Z : List Int) : Prop where
  bel : Below B w0 wx
  ob : wx.heap[g]? = some (.cells #[.int .i64 (K : Int), .slice (some ⟨g1, 0, none⟩) M M, .slice (some ⟨g2, 0, none⟩) M M, .slice (some ⟨g3, 0, none⟩) M M] 26 (0, 0))
  o1 : OwnI wx B (.slice (some ⟨g1, 0, none⟩) M M) T
  o2 : OwnI wx B (.slice (some ⟨g2, 0, none⟩) M M) X
  o3 : OwnI wx B (.slice (some ⟨g3, 0, none⟩) M M) Z
  n : g ≠ g1 ∧ g ≠ g2 ∧ g ≠ g3 ∧ g1 ≠ g2 ∧ g1 ≠ g3 ∧ g2 ≠ g3
  b : B ≤ g ∧ B ≤ g1 ∧ B ≤ g2 ∧ B ≤ g3
theorem kn_own {g g' : Nat} {w w' : World} {B n c : Nat} {l : List Int} (h : OwnI w B (.slice (some ⟨g', 0, none⟩) n c) l) (hb : ButRow g w w') (hne : g' ≠ g) : OwnI w' B (.slice (some ⟨g', 0, none⟩) n c) l :=
  own_but h hb (by simpa [Value.ownBlock] using hne)
theorem kn_met {K M B g g1 g2 g3 : Nat} {w0 X : World} {l1 l2 l3 : List Int} (hA : X.heap[g]? = some (.cells #[.int .i64 0, .slice none 0 0, .slice none 0 0, .slice none 0 0] 26)) (o1 : OwnI X B (.slice (some ⟨g1, 0, none⟩) M M) l1) (o2 : OwnI X B (.slice (some ⟨g2, 0, none⟩) M M) l2) (o3 : OwnI X B (.slice (some ⟨g3, 0, none⟩) M M) l3)
    (n1 : g ≠ g1) (n2 : g ≠ g2) (n3 : g ≠ g3) (n4 : g1 ≠ g2) (n5 : g1 ≠ g3) (n6 : g2 ≠ g3) (hb : Below B w0 X) (b0 : B ≤ g) (b1 : B ≤ g1) (b2 : B ≤ g2) (b3 : B ≤ g3) :
    KnAt B w0 g g1 g2 g3 K M ((((X.setCell ⟨g, 0, none⟩ (.int .i64 (K : Int))).setCell ⟨g, 1, none⟩ (.slice (some ⟨g1, 0, none⟩) M M)).setCell ⟨g, 2, none⟩ (.slice (some ⟨g2, 0, none⟩) M M)).setCell ⟨g, 3, none⟩ (.slice (some ⟨g3, 0, none⟩) M M)) l1 l2 l3 := by
  have hbut : ButRow g X ((((X.setCell ⟨g, 0, none⟩ (.int .i64 (K : Int))).setCell ⟨g, 1, none⟩ (.slice (some ⟨g1, 0, none⟩) M M)).setCell ⟨g, 2, none⟩ (.slice (some ⟨g2, 0, none⟩) M M)).setCell ⟨g, 3, none⟩ (.slice (some ⟨g3, 0, none⟩) M M)) := ((((ButRow.refl g X).setCell 0 _).setCell 1 _).setCell 2 _).setCell 3 _
  exact ⟨(((hb.setCell (by exact b0) _).setCell (by exact b0) _).setCell (by exact b0) _).setCell (by exact b0) _, four_cells hA _ _ _ _, kn_own o1 hbut n1.symm, kn_own o2 hbut n2.symm, kn_own o3 hbut n3.symm, ⟨n1, n2, n3, n4, n5, n6⟩, ⟨b0, b1, b2, b3⟩⟩
/-- Rows, and a block, that were laid one behind the other. -/
structure KR (B M : Nat) (w0 w : World) (gs A : List Nat) : Prop where
  bel : Below B w0 w
  le : B ≤ w.heap.size
  own : ∀ g ∈ gs, OwnI w B (.slice (some ⟨g, 0, none⟩) M M) (List.replicate M 0) ∧ B ≤ g ∧ g < w.heap.size
  ob : ∀ g ∈ A, w.heap[g]? = some (.cells #[.int .i64 0, .slice none 0 0, .slice none 0 0, .slice none 0 0] 26) ∧ B ≤ g ∧ g < w.heap.size
  nd : (A ++ gs).Nodup
theorem KR.start (B M : Nat) (w : World) (h : B ≤ w.heap.size) : KR B M w w [] [] := ⟨(Below.refl _ _).mono h, h, fun g h => (by cases h), fun g h => (by cases h), List.nodup_nil⟩
theorem KR.fresh {B M : Nat} {w0 w : World} {gs A : List Nat} (h : KR B M w0 w gs A) : w.heap.size ∉ A ++ gs := fun hm => by
  rcases List.mem_append.1 hm with hm | hm
  · have := (h.ob _ hm).2.2; omega
  · have := (h.own _ hm).2.2; omega
theorem KR.make {B M : Nat} {w0 w w' : World} {gs A : List Nat} (h : KR B M w0 w gs A) (ho : OwnI w' w.heap.size (.slice (some ⟨w.heap.size, 0, none⟩) M M) (List.replicate M 0)) (hl : Below w.heap.size w w') : KR B M w0 w' (w.heap.size :: gs) A := by
  have hBs := h.le
  refine ⟨h.bel.trans (hl.mono hBs), Nat.le_trans hBs hl.size, fun g hg => ?_, fun g hg => ?_, ?_⟩
  · rcases List.mem_cons.1 hg with e | hg
    · subst e; exact ⟨own_base ho hBs, hBs, (ho.lt _ rfl).2⟩
    · obtain ⟨a, b, c⟩ := h.own g hg
      exact ⟨own_below a hl, b, Nat.lt_of_lt_of_le c hl.size⟩
  · obtain ⟨a, b, c⟩ := h.ob g hg
    exact ⟨(hl.block _ c).trans a, b, Nat.lt_of_lt_of_le c hl.size⟩
  · obtain ⟨n1, n2, n3⟩ := List.nodup_append.1 h.nd
    refine List.nodup_append.2 ⟨n1, List.nodup_cons.2 ⟨fun hm => h.fresh (List.mem_append.2 (.inr hm)), n2⟩, fun a ha b hb e => ?_⟩
    rcases List.mem_cons.1 hb with e2 | hb
    · exact h.fresh (List.mem_append.2 (.inl (by rw [← e2, ← e]; exact ha)))
    · exact n3 a ha b hb e
theorem KR.alloc {B M : Nat} {w0 w : World} {gs A : List Nat} (h : KR B M w0 w gs A) : KR B M w0 (w.alloc (.cells #[.int .i64 0, .slice none 0 0, .slice none 0 0, .slice none 0 0] 26)) gs (w.heap.size :: A) := by
  have hl : Below w.heap.size w (w.alloc (.cells #[.int .i64 0, .slice none 0 0, .slice none 0 0, .slice none 0 0] 26)) := (Below.refl _ _).alloc (Nat.le_refl _) _
  have hA := heap_alloc_new w (.cells #[.int .i64 0, .slice none 0 0, .slice none 0 0, .slice none 0 0] 26)
  have hBs := h.le
  refine ⟨h.bel.trans (hl.mono hBs), Nat.le_trans hBs hl.size, fun g hg => ?_, fun g hg => ?_, List.nodup_cons.2 ⟨h.fresh, h.nd⟩⟩
  · obtain ⟨a, b, c⟩ := h.own g hg
    exact ⟨own_below a hl, b, Nat.lt_of_lt_of_le c hl.size⟩
  · rcases List.mem_cons.1 hg with e | hg
    · subst e; exact ⟨hA, hBs, heap_lt hA⟩
    · obtain ⟨a, b, c⟩ := h.ob g hg
      exact ⟨(hl.block _ c).trans a, b, Nat.lt_of_lt_of_le c hl.size⟩
theorem KR.met {K M B g g1 g2 g3 : Nat} {w0 X : World} {gs : List Nat} (h : KR B M w0 X gs [g]) (m1 : g1 ∈ gs) (m2 : g2 ∈ gs) (m3 : g3 ∈ gs) (n4 : g1 ≠ g2) (n5 : g1 ≠ g3) (n6 : g2 ≠ g3) :
    KnAt B w0 g g1 g2 g3 K M ((((X.setCell ⟨g, 0, none⟩ (.int .i64 (K : Int))).setCell ⟨g, 1, none⟩ (.slice (some ⟨g1, 0, none⟩) M M)).setCell ⟨g, 2, none⟩ (.slice (some ⟨g2, 0, none⟩) M M)).setCell ⟨g, 3, none⟩ (.slice (some ⟨g3, 0, none⟩) M M)) (List.replicate M 0) (List.replicate M 0) (List.replicate M 0) := by
  obtain ⟨hA, bA, -⟩ := h.ob g (by simp)
  obtain ⟨o1, b1, -⟩ := h.own g1 m1
  obtain ⟨o2, b2, -⟩ := h.own g2 m2
  obtain ⟨o3, b3, -⟩ := h.own g3 m3
  have hn := (List.nodup_cons.1 (show (g :: gs).Nodup from h.nd)).1
  have ne : ∀ x, x ∈ gs → g ≠ x := fun x hx e => hn (by rw [e]; exact hx)
  exact kn_met hA o1 o2 o3 (ne _ m1) (ne _ m2) (ne _ m3) n4 n5 n6 h.bel bA b1 b2 b3
theorem KnAt.below {B g g1 g2 g3 K M : Nat} {w0 wx w5 : World} {T X Z : List Int} (h : KnAt B w0 g g1 g2 g3 K M wx T X Z) (hb : Below wx.heap.size wx w5) : KnAt B w0 g g1 g2 g3 K M w5 T X Z :=
  ⟨h.bel.trans (hb.mono (by have := heap_lt h.ob; have := h.b.1; omega)), (hb.block _ (heap_lt h.ob)).trans h.ob, own_below h.o1 hb, own_below h.o2 hb, own_below h.o3 hb, h.n, h.b⟩
theorem KnAt.setT {B g g1 g2 g3 K M : Nat} {w0 wx : World} {T X Z : List Int} (h : KnAt B w0 g g1 g2 g3 K M wx T X Z) (x : Nat) (v : Int) : KnAt B w0 g g1 g2 g3 K M (wx.setCell ⟨g1, x, none⟩ (.int .i64 v)) (T.set x v) X Z := by
  have hbut : ButRow g1 wx (wx.setCell ⟨g1, x, none⟩ (.int .i64 v)) := (ButRow.refl g1 wx).setCell x _
  obtain ⟨n1, n2, n3, n4, n5, n6⟩ := h.n
  exact ⟨h.bel.setCell (by exact h.b.2.1) _, (hbut.block g n1).trans h.ob, own_setCell h.o1 x v, kn_own h.o2 hbut n4.symm, kn_own h.o3 hbut n5.symm, h.n, h.b⟩
theorem KnAt.setX {B g g1 g2 g3 K M : Nat} {w0 wx : World} {T X Z : List Int} (h : KnAt B w0 g g1 g2 g3 K M wx T X Z) (x : Nat) (v : Int) : KnAt B w0 g g1 g2 g3 K M (wx.setCell ⟨g2, x, none⟩ (.int .i64 v)) T (X.set x v) Z := by
  have hbut : ButRow g2 wx (wx.setCell ⟨g2, x, none⟩ (.int .i64 v)) := (ButRow.refl g2 wx).setCell x _
  obtain ⟨n1, n2, n3, n4, n5, n6⟩ := h.n
  exact ⟨h.bel.setCell (by exact h.b.2.2.1) _, (hbut.block g n2).trans h.ob, kn_own h.o1 hbut n4, own_setCell h.o2 x v, kn_own h.o3 hbut n6.symm, h.n, h.b⟩
theorem KnAt.setZ {B g g1 g2 g3 K M : Nat} {w0 wx : World} {T X Z : List Int} (h : KnAt B w0 g g1 g2 g3 K M wx T X Z) (x : Nat) (v : Int) : KnAt B w0 g g1 g2 g3 K M (wx.setCell ⟨g3, x, none⟩ (.int .i64 v)) T X (Z.set x v) := by
  have hbut : ButRow g3 wx (wx.setCell ⟨g3, x, none⟩ (.int .i64 v)) := (ButRow.refl g3 wx).setCell x _
  obtain ⟨n1, n2, n3, n4, n5, n6⟩ := h.n
  exact ⟨h.bel.setCell (by exact h.b.2.2.2) _, (hbut.block g n3).trans h.ob, kn_own h.o1 hbut n5, kn_own h.o2 hbut n6, own_setCell h.o3 x v, h.n, h.b⟩
theorem own_getD9 {w : World} {B g n c : Nat} {l : List Int} (h : OwnI w B (.slice (some ⟨g, 0, none⟩) n c) l) (k : Nat) (hk : k < l.length) : w.cell? ⟨g, k, none⟩ = some (.int .i64 (l.getD k 0)) := by
  rw [own_cell h k hk, Sp.getD_eq _ _ hk]
def Sp.knChk (k : Nat) : Bool := (List.range k).all fun e => (Sp.knT k k).getD (2 * e) 0 == (e : Int) && ((Sp.knT k k).getD (2 * e + 1) 0 == (Sp.sc k e : Int) && ((Sp.knX k k).getD (2 * e) 0 == ((2 * Sp.pd k e + 1 : Nat) : Int) && (Sp.knX k k).getD (2 * e + 1) 0 == ((2 * Sp.sc k e : Nat) : Int)))
theorem kn_chk : ∀ k : Fin 12, 3 ≤ k.val → Sp.knChk k.val = true := by decide +kernel
theorem Sp.knF_of {k : Nat} (h3 : 3 ≤ k) (h11 : k ≤ 11) : Sp.KnF k (Sp.knT k k) (Sp.knX k k) := by
  have h := kn_chk ⟨k, by omega⟩ h3
  unfold Sp.knChk at h
  simp only [List.all_eq_true, List.mem_range, Bool.and_eq_true, beq_iff_eq] at h
  exact ⟨h3, h11, Sp.knT_len k k, Sp.knX_len k k, fun e he => (h e he).1, fun e he => (h e he).2.1, fun e he => (h e he).2.2.1, fun e he => (h e he).2.2.2⟩
def Sp.knCp (k : Nat) (c : Nat → Int) : Nat → List Int
  | 0 => List.replicate (2 * k) 0
  | e + 1 => ((Sp.knCp k c e).set (2 * e) (c e)).set (2 * e + 1) (c e)
theorem Sp.knCp_len (k : Nat) (c : Nat → Int) : ∀ e, (Sp.knCp k c e).length = 2 * k
  | 0 => by simp [Sp.knCp]
  | e + 1 => by simp [Sp.knCp, Sp.knCp_len k c e]
theorem Sp.knCp_at (k : Nat) (c : Nat → Int) : ∀ n, n ≤ k → ∀ e, e < n → (Sp.knCp k c n).getD (2 * e) 0 = c e ∧ (Sp.knCp k c n).getD (2 * e + 1) 0 = c e
  | 0, _, e, h => absurd h (Nat.not_lt_zero _)
  | n + 1, hn, e, h => by
    have hl := Sp.knCp_len k c n
    have e1 : ∀ x, x < 2 * k → (Sp.knCp k c (n + 1)).getD x 0 = if x = 2 * n + 1 then c n else if x = 2 * n then c n else (Sp.knCp k c n).getD x 0 := fun x _ => by
      show (((Sp.knCp k c n).set (2 * n) (c n)).set (2 * n + 1) (c n)).getD x 0 = _
      rw [getD_set_eq _ _ _ _ (by rw [List.length_set]; omega), getD_set_eq _ _ _ _ (by omega)]
    rw [e1 _ (by omega), e1 _ (by omega)]
    by_cases he : e = n
    · subst he
      rw [if_neg (by omega), if_pos rfl, if_pos rfl]
      exact ⟨rfl, rfl⟩
    · rw [if_neg (by omega), if_neg (by omega), if_neg (by omega), if_neg (by omega)]
      exact Sp.knCp_at k c n (by omega) e (by omega)
theorem Sp.knCp_bd {k : Nat} {c : Nat → Int} (hc : ∀ e, e < k → 0 ≤ c e ∧ c e ≤ 2147483648) : ∀ x ∈ Sp.knCp k c k, 0 ≤ x ∧ x ≤ 2147483648 := fun x hx => by
  obtain ⟨i, hi, rfl⟩ := List.getElem_of_mem hx
  have e1 : (Sp.knCp k c k)[i] = (Sp.knCp k c k).getD i 0 := by rw [List.getD_eq_getElem?_getD, List.getElem?_eq_getElem hi]; rfl
  obtain ⟨e, he, rfl | rfl⟩ := Sp.half_cases (k := k) (x := i) (by rw [← Sp.knCp_len k c k]; exact hi)
  · rw [e1, (Sp.knCp_at k c k (Nat.le_refl _) e he).1]; exact hc e he
  · rw [e1, (Sp.knCp_at k c k (Nat.le_refl _) e he).2]; exact hc e he
set_option maxRecDepth 100000 in
set_option maxHeartbeats 16000000 in
theorem rimKnown_any (cs : List Int) (x : Value) (size a_ b_ : Int) (w : World) (hx : Ints w x cs) :
    Calls Try.prog 3 #[.int .i64 size, .int .i64 a_, .int .i64 b_, x] w fun e w' => e = .returned (.bool true) ∧ Below w.heap.size w w' := by
  obtain ⟨xa, xc, rfl, -, -⟩ := hx.form
  obtain ⟨P, hP⟩ : ∃ P : Ending → World → Prop, P = fun e w' => e = .returned (.bool true) ∧ Below w.heap.size w w' := ⟨_, rfl⟩
  rw [← hP]
  have HP := hide hP
  clear hP
  have HXi := hide hx
  clear hx
  have HWs := hide (fun w' => within8_any size 9 w' (by decide) (by decide))
  obtain ⟨s9, hs9⟩ : ∃ s : Nat, size % 9 = (s : Int) := ⟨(size % 9).toNat, by omega⟩
  rw [hs9] at HWs
  obtain ⟨K, hK⟩ : ∃ K, 3 + s9 = K := ⟨_, rfl⟩
  have hK3 : 3 ≤ K := by omega
  have hK11 : K ≤ 11 := by omega
  have hKw : IntKind.i64.wrap (3 + (s9 : Int)) = (K : Int) := by rw [IntKind.wrap_i64]; omega
  obtain ⟨M, hM⟩ : ∃ M, 2 * K = M := ⟨_, rfl⟩
  have hMw : IntKind.i64.wrap (2 * (K : Int)) = (M : Int) := by rw [IntKind.wrap_i64]; omega
  have hM22 : M ≤ 22 := by omega
  have HM := hide hM
  have HWa := hide (fun w' => within8_any a_ K w' (by omega) (by omega))
  have HWb := hide (fun w' => within8_any b_ K w' (by omega) (by omega))
  obtain ⟨s, hs⟩ : ∃ r : Nat, a_ % (K : Int) = (r : Int) := ⟨(a_ % (K : Int)).toNat, by have := Int.emod_nonneg a_ (show (K : Int) ≠ 0 by omega); omega⟩
  have hsK : s < K := by have := Int.emod_lt_of_pos a_ (show (0 : Int) < (K : Int) by omega); omega
  obtain ⟨t, ht⟩ : ∃ r : Nat, b_ % (K : Int) = (r : Int) := ⟨(b_ % (K : Int)).toNat, by have := Int.emod_nonneg b_ (show (K : Int) ≠ 0 by omega); omega⟩
  have htK : t < K := by have := Int.emod_lt_of_pos b_ (show (0 : Int) < (K : Int) by omega); omega
  rw [hs] at HWa
  rw [ht] at HWb
  obtain ⟨c9, hc9⟩ : ∃ c9 : Nat → Int, (fun e : Nat => if e < cs.length then cs.getD e 0 % 1000 else (e : Int)) = c9 := ⟨_, rfl⟩
  have hcb : ∀ e, e < K → 0 ≤ c9 e ∧ c9 e ≤ 2147483648 := fun e he => by
    rw [← hc9]
    show 0 ≤ (if e < cs.length then cs.getD e 0 % 1000 else (e : Int)) ∧ (if e < cs.length then cs.getD e 0 % 1000 else (e : Int)) ≤ 2147483648
    split <;> omega
  have HCb := hide hcb
  have HC1 : Hid (∀ e, e < cs.length → cs.getD e 0 % 1000 = c9 e) := hide fun e he => by rw [← hc9]; show _ = if e < cs.length then _ else _; rw [if_pos he]
  have HC2 : Hid (∀ e : Nat, ¬ e < cs.length → (e : Int) = c9 e) := hide fun e he => by rw [← hc9]; show _ = if e < cs.length then _ else _; rw [if_neg he]
  have hkf := Sp.knF_of hK3 hK11
  have HRim := hide (hkf.rim (C := Sp.knCp K c9 K) (Sp.knCp_len K c9 K) (c := c9) (Sp.knCp_at K c9 K (Nat.le_refl _)) (Sp.knCp_bd hcb) hsK htK)
  have HRq := hide (hkf.rimQ (C := Sp.knCp K c9 K) (Sp.knCp_len K c9 K) (Sp.knCp_bd hcb))
  clear hs ht hK hM hs9 hc9 hcb hkf
  obtain ⟨Fm, hF⟩ := make_runs M (by omega)
  have hF1 := fun w => (hF w).1
  have hF2 := hide fun w => (hF w).2.1
  have hF3 := hide fun w => (hF w).2.2
  clear hF
  go_enter Try.func3, Try.ntmps3
  go_wp2_with fail
  go_at_call 7
  refine (known8_any w).mono ?_
  rintro e w2 ⟨rfl, hb2⟩
  have Hb2 := hide hb2
  clear hb2
  go_wp2_with fail
  go_at_call 8
  refine (unhide HWs _).mono ?_
  rintro e w3 ⟨rfl, h3⟩
  have h3' := h3.symm
  subst h3'
  clear h3
  go_upto_region 4 with fail
  obtain ⟨w0q, hw0q⟩ : ∃ wq, wq = w2.drew := ⟨_, rfl⟩
  have HB0 : Hid (∀ w', Below w2.heap.size w0q w' → Below w.heap.size w w') := hide fun w' hb => by
    have h := (unhide Hb2).drew
    rw [← hw0q] at h
    exact h.trans (hb.mono (unhide Hb2).size)
  have HW0 := hide hw0q
  clear HWs hw0q
  go_cut [10] (fun s10 wx => ∃ g g1 g2 g3, s10 = .pointer (some ⟨g, 0, none⟩) ∧ Hid (KnAt w2.heap.size w0q g g1 g2 g3 K M wx (List.replicate M 0) (List.replicate M 0) (List.replicate M 0)))
  case first =>
    have HX0 := hide (KR.start w2.heap.size M w0q (by rw [unhide HW0]; exact Nat.le_refl _))
    refine wp_region_G (fun _ => True) (fun i => i == 12) (by kernel_rfl) trivial (fun hHeld => ?_)
    rw [← unhide HW0]
    refine wpAnyG_take (v := ?_) 0 (by rfl) (by kernel_rfl) (by kernel_rfl) (by kernel_rfl) (by kernel_rfl) (fun _ _ _ h => h) (Or.inl ⟨by rfl, ?_⟩) (by assumption) ?_
    rotate_left
    · (intro w' hSw; (try dsimp only at hSw); (try simp only [List.getElem_toArray, List.getElem_cons_zero]); go_simp; try (with_reducible rfl))
    simp only [Act.put, List.getElem_toArray, List.getElem_cons_zero, List.setIfInBounds_toArray, List.set_cons_zero, List.set_cons_succ]
    refine wpAnyG_take (v := ?_) 1 (by rfl) (by kernel_rfl) (by kernel_rfl) (by kernel_rfl) (by kernel_rfl) (fun _ _ _ h => h) (Or.inl ⟨by rfl, ?_⟩) (by assumption) ?_
    rotate_left
    · (intro w' hSw; (try dsimp only at hSw); (try simp only [List.getElem_toArray, List.getElem_cons_succ, List.getElem_cons_zero]); go_simp; try (with_reducible rfl))
    simp only [Act.put, List.getElem_toArray, List.getElem_cons_succ, List.getElem_cons_zero, List.setIfInBounds_toArray, List.set_cons_zero, List.set_cons_succ]
    refine wpAnyG_take (v := ?_) 2 (by rfl) (by kernel_rfl) (by kernel_rfl) (by kernel_rfl) (by kernel_rfl) (fun _ _ _ h => h) (Or.inl ⟨by rfl, ?_⟩) (by assumption) ?_
    rotate_left
    · (intro w' hSw; (try dsimp only at hSw); (try simp only [List.getElem_toArray, List.getElem_cons_succ, List.getElem_cons_zero]); go_simp; try (with_reducible rfl))
    simp only [Act.put, List.getElem_toArray, List.getElem_cons_succ, List.getElem_cons_zero, List.setIfInBounds_toArray, List.set_cons_zero, List.set_cons_succ]
    refine wpAnyG_take (v := ?_) 4 (by rfl) (by kernel_rfl) (by kernel_rfl) (by kernel_rfl) (by kernel_rfl) (fun _ _ _ h => h) (Or.inl ⟨by rfl, ?_⟩) (by assumption) ?_
    rotate_left
    · (intro w' hSw; (try dsimp only at hSw); (try simp only [List.getElem_toArray, List.getElem_cons_succ, List.getElem_cons_zero]); go_simp; try (with_reducible rfl))
    simp only [Act.put, List.getElem_toArray, List.getElem_cons_succ, List.getElem_cons_zero, List.setIfInBounds_toArray, List.set_cons_zero, List.set_cons_succ]
    refine wpAnyG_take (v := ?_) 5 (by rfl) (by kernel_rfl) (by kernel_rfl) (by kernel_rfl) (by kernel_rfl) (fun _ _ _ h => h) (Or.inl ⟨by rfl, ?_⟩) (by assumption) ?_
    rotate_left
    · (intro w' hSw; (try dsimp only at hSw); (try simp only [List.getElem_toArray, List.getElem_cons_succ, List.getElem_cons_zero]); go_simp; try (with_reducible rfl))
    simp only [Act.put, List.getElem_toArray, List.getElem_cons_succ, List.getElem_cons_zero, List.setIfInBounds_toArray, List.set_cons_zero, List.set_cons_succ]
    refine wpAnyG_take (v := ?_) 7 (by rfl) (by kernel_rfl) (by kernel_rfl) (by kernel_rfl) (by kernel_rfl) (fun _ _ _ h => h) (Or.inl ⟨by rfl, ?_⟩) (by assumption) ?_
    rotate_left
    · (intro w' hSw; (try dsimp only at hSw); (try simp only [List.getElem_toArray, List.getElem_cons_succ, List.getElem_cons_zero]); go_simp; try (with_reducible rfl))
    simp only [Act.put, List.getElem_toArray, List.getElem_cons_succ, List.getElem_cons_zero, List.setIfInBounds_toArray, List.set_cons_zero, List.set_cons_succ]
    refine wpAnyG_take (v := ?_) 8 (by rfl) (by kernel_rfl) (by kernel_rfl) (by kernel_rfl) (by kernel_rfl) (fun _ _ _ h => h) (Or.inl ⟨by rfl, ?_⟩) (by assumption) ?_
    rotate_left
    · (intro w' hSw; (try dsimp only at hSw); (try simp only [List.getElem_toArray, List.getElem_cons_succ, List.getElem_cons_zero]); go_simp; try (with_reducible rfl))
    simp only [Act.put, List.getElem_toArray, List.getElem_cons_succ, List.getElem_cons_zero, List.setIfInBounds_toArray, List.set_cons_zero, List.set_cons_succ]
    refine wpAnyG_ready [3, 6, 9, 11] (by kernel_rfl) (by simp) ?_
    refine AllReadyG.cons 3 (by rfl) (fun K hK => ?_) ?_
    · simp only [List.getElem_toArray, List.getElem_cons_succ, List.getElem_cons_zero]
      go_simp
      refine hK.out _ _ trivial (fun _ => ?_)
      clear hK K
      try simp only [Act.put, List.setIfInBounds_toArray, List.set_cons_zero, List.set_cons_succ]
      have HX1 := hide ((unhide HX0).make (unhide hF2 w0q) (unhide hF3 w0q))
      obtain ⟨G1, hG1⟩ : ∃ g, w0q.heap.size = g := ⟨_, rfl⟩
      rw [hG1] at HX1
      try rw [hG1]
      clear hG1 HX0
      generalize Fm w0q = wk1 at *
      refine wpAnyG_ready [6, 9, 11] (by kernel_rfl) (by simp) ?_
      refine AllReadyG.cons 6 (by rfl) (fun K hK => ?_) ?_
      · simp only [List.getElem_toArray, List.getElem_cons_succ, List.getElem_cons_zero]
        go_simp
        refine hK.out _ _ trivial (fun _ => ?_)
        clear hK K
        try simp only [Act.put, List.setIfInBounds_toArray, List.set_cons_zero, List.set_cons_succ]
        have HX2 := hide ((unhide HX1).make (unhide hF2 wk1) (unhide hF3 wk1))
        obtain ⟨G2, hG2⟩ : ∃ g, wk1.heap.size = g := ⟨_, rfl⟩
        rw [hG2] at HX2
        try rw [hG2]
        clear hG2 HX1
        generalize Fm wk1 = wk2 at *
        refine wpAnyG_ready [9, 11] (by kernel_rfl) (by simp) ?_
        refine AllReadyG.cons 9 (by rfl) (fun K hK => ?_) ?_
        · simp only [List.getElem_toArray, List.getElem_cons_succ, List.getElem_cons_zero]
          go_simp
          refine hK.out _ _ trivial (fun _ => ?_)
          clear hK K
          try simp only [Act.put, List.setIfInBounds_toArray, List.set_cons_zero, List.set_cons_succ]
          have HX3 := hide ((unhide HX2).make (unhide hF2 wk2) (unhide hF3 wk2))
          obtain ⟨G3, hG3⟩ : ∃ g, wk2.heap.size = g := ⟨_, rfl⟩
          rw [hG3] at HX3
          try rw [hG3]
          clear hG3 HX2
          generalize Fm wk2 = wk3 at *
          refine wpAnyG_take (v := ?_) 10 (by rfl) (by kernel_rfl) (by kernel_rfl) (by kernel_rfl) (by kernel_rfl) (fun _ _ _ h => h) (Or.inl ⟨by rfl, ?_⟩) (by assumption) ?_
          rotate_left
          · (intro w' hSw; (try dsimp only at hSw); (try simp only [List.getElem_toArray, List.getElem_cons_succ, List.getElem_cons_zero]); go_simp; try (with_reducible rfl))
          simp only [Act.put, List.getElem_toArray, List.getElem_cons_succ, List.getElem_cons_zero, List.setIfInBounds_toArray, List.set_cons_zero, List.set_cons_succ]
          refine wpAnyG_ready [11] (by kernel_rfl) (by simp) ?_
          refine AllReadyG.cons 11 (by rfl) (fun K hK => ?_) ?_
          · simp only [List.getElem_toArray, List.getElem_cons_succ, List.getElem_cons_zero]
            go_simp
            refine hK.out _ _ trivial (fun _ => ?_)
            clear hK K
            try simp only [Act.put, List.setIfInBounds_toArray, List.set_cons_zero, List.set_cons_succ]
            have HX4 := hide (unhide HX3).alloc
            obtain ⟨GA, hGA⟩ : ∃ g, wk3.heap.size = g := ⟨_, rfl⟩
            rw [hGA] at HX4
            try rw [hGA]
            clear hGA HX3
            generalize wk3.alloc (.cells #[.int .i64 0, .slice none 0 0, .slice none 0 0, .slice none 0 0] 26) = wk4 at *
            obtain ⟨z0, z1, z2, z3, k0, k1, k2, k3⟩ := obj_cells ((unhide HX4).ob GA (by simp)).1
            refine wpAnyG_ready [12] (by kernel_rfl) (by simp) ?_
            refine AllReadyG.last 12 (by rfl) (by kernel_rfl) (fun K hK => ?_) ?_
            · simp only [List.getElem_toArray, List.getElem_cons_succ, List.getElem_cons_zero]
              go_simp
              refine hK.out _ _ ?_
              clear hK K
              try simp only [Act.put, List.setIfInBounds_toArray, List.set_cons_zero, List.set_cons_succ]
              refine wpAnyG_done (by kernel_rfl) ?_ _
              refine NoPanic.normal ?_
              go_wp2
              go_meet
              exact ⟨GA, G1, G2, G3, rfl, hide ((unhide HX4).met (K := K) (g1 := G1) (g2 := G2) (g3 := G3) (by simp) (by simp) (by simp) (by have := (unhide HX4).nd; simp at this; omega) (by have := (unhide HX4).nd; simp at this; omega) (by have := (unhide HX4).nd; simp at this; omega))⟩
            exact AllReadyG.nil
          exact AllReadyG.nil
        refine AllReadyG.cons 11 (by rfl) (fun K hK => ?_) ?_
        · simp only [List.getElem_toArray, List.getElem_cons_succ, List.getElem_cons_zero]
          go_simp
          refine hK.out _ _ trivial (fun _ => ?_)
          clear hK K
          try simp only [Act.put, List.setIfInBounds_toArray, List.set_cons_zero, List.set_cons_succ]
          have HX3 := hide (unhide HX2).alloc
          obtain ⟨GA, hGA⟩ : ∃ g, wk2.heap.size = g := ⟨_, rfl⟩
          rw [hGA] at HX3
          try rw [hGA]
          clear hGA HX2
          generalize wk2.alloc (.cells #[.int .i64 0, .slice none 0 0, .slice none 0 0, .slice none 0 0] 26) = wk3 at *
          refine wpAnyG_ready [9] (by kernel_rfl) (by simp) ?_
          refine AllReadyG.cons 9 (by rfl) (fun K hK => ?_) ?_
          · simp only [List.getElem_toArray, List.getElem_cons_succ, List.getElem_cons_zero]
            go_simp
            refine hK.out _ _ trivial (fun _ => ?_)
            clear hK K
            try simp only [Act.put, List.setIfInBounds_toArray, List.set_cons_zero, List.set_cons_succ]
            have HX4 := hide ((unhide HX3).make (unhide hF2 wk3) (unhide hF3 wk3))
            obtain ⟨G3, hG3⟩ : ∃ g, wk3.heap.size = g := ⟨_, rfl⟩
            rw [hG3] at HX4
            try rw [hG3]
            clear hG3 HX3
            generalize Fm wk3 = wk4 at *
            refine wpAnyG_take (v := ?_) 10 (by rfl) (by kernel_rfl) (by kernel_rfl) (by kernel_rfl) (by kernel_rfl) (fun _ _ _ h => h) (Or.inl ⟨by rfl, ?_⟩) (by assumption) ?_
            rotate_left
            · (intro w' hSw; (try dsimp only at hSw); (try simp only [List.getElem_toArray, List.getElem_cons_succ, List.getElem_cons_zero]); go_simp; try (with_reducible rfl))
            simp only [Act.put, List.getElem_toArray, List.getElem_cons_succ, List.getElem_cons_zero, List.setIfInBounds_toArray, List.set_cons_zero, List.set_cons_succ]
            obtain ⟨z0, z1, z2, z3, k0, k1, k2, k3⟩ := obj_cells ((unhide HX4).ob GA (by simp)).1
            refine wpAnyG_ready [12] (by kernel_rfl) (by simp) ?_
            refine AllReadyG.last 12 (by rfl) (by kernel_rfl) (fun K hK => ?_) ?_
            · simp only [List.getElem_toArray, List.getElem_cons_succ, List.getElem_cons_zero]
              go_simp
              refine hK.out _ _ ?_
              clear hK K
              try simp only [Act.put, List.setIfInBounds_toArray, List.set_cons_zero, List.set_cons_succ]
              refine wpAnyG_done (by kernel_rfl) ?_ _
              refine NoPanic.normal ?_
              go_wp2
              go_meet
              exact ⟨GA, G1, G2, G3, rfl, hide ((unhide HX4).met (K := K) (g1 := G1) (g2 := G2) (g3 := G3) (by simp) (by simp) (by simp) (by have := (unhide HX4).nd; simp at this; omega) (by have := (unhide HX4).nd; simp at this; omega) (by have := (unhide HX4).nd; simp at this; omega))⟩
            exact AllReadyG.nil
          exact AllReadyG.nil
        exact AllReadyG.nil
      refine AllReadyG.cons 9 (by rfl) (fun K hK => ?_) ?_
      · simp only [List.getElem_toArray, List.getElem_cons_succ, List.getElem_cons_zero]
        go_simp
        refine hK.out _ _ trivial (fun _ => ?_)
        clear hK K
        try simp only [Act.put, List.setIfInBounds_toArray, List.set_cons_zero, List.set_cons_succ]
        have HX2 := hide ((unhide HX1).make (unhide hF2 wk1) (unhide hF3 wk1))
        obtain ⟨G3, hG3⟩ : ∃ g, wk1.heap.size = g := ⟨_, rfl⟩
        rw [hG3] at HX2
        try rw [hG3]
        clear hG3 HX1
        generalize Fm wk1 = wk2 at *
        refine wpAnyG_ready [6, 11] (by kernel_rfl) (by simp) ?_
        refine AllReadyG.cons 6 (by rfl) (fun K hK => ?_) ?_
        · simp only [List.getElem_toArray, List.getElem_cons_succ, List.getElem_cons_zero]
          go_simp
          refine hK.out _ _ trivial (fun _ => ?_)
          clear hK K
          try simp only [Act.put, List.setIfInBounds_toArray, List.set_cons_zero, List.set_cons_succ]
          have HX3 := hide ((unhide HX2).make (unhide hF2 wk2) (unhide hF3 wk2))
          obtain ⟨G2, hG2⟩ : ∃ g, wk2.heap.size = g := ⟨_, rfl⟩
          rw [hG2] at HX3
          try rw [hG2]
          clear hG2 HX2
          generalize Fm wk2 = wk3 at *
          refine wpAnyG_take (v := ?_) 10 (by rfl) (by kernel_rfl) (by kernel_rfl) (by kernel_rfl) (by kernel_rfl) (fun _ _ _ h => h) (Or.inl ⟨by rfl, ?_⟩) (by assumption) ?_
          rotate_left
          · (intro w' hSw; (try dsimp only at hSw); (try simp only [List.getElem_toArray, List.getElem_cons_succ, List.getElem_cons_zero]); go_simp; try (with_reducible rfl))
          simp only [Act.put, List.getElem_toArray, List.getElem_cons_succ, List.getElem_cons_zero, List.setIfInBounds_toArray, List.set_cons_zero, List.set_cons_succ]
          refine wpAnyG_ready [11] (by kernel_rfl) (by simp) ?_
          refine AllReadyG.cons 11 (by rfl) (fun K hK => ?_) ?_
          · simp only [List.getElem_toArray, List.getElem_cons_succ, List.getElem_cons_zero]
            go_simp
            refine hK.out _ _ trivial (fun _ => ?_)
            clear hK K
            try simp only [Act.put, List.setIfInBounds_toArray, List.set_cons_zero, List.set_cons_succ]
            have HX4 := hide (unhide HX3).alloc
            obtain ⟨GA, hGA⟩ : ∃ g, wk3.heap.size = g := ⟨_, rfl⟩
            rw [hGA] at HX4
            try rw [hGA]
            clear hGA HX3
            generalize wk3.alloc (.cells #[.int .i64 0, .slice none 0 0, .slice none 0 0, .slice none 0 0] 26) = wk4 at *
            obtain ⟨z0, z1, z2, z3, k0, k1, k2, k3⟩ := obj_cells ((unhide HX4).ob GA (by simp)).1
            refine wpAnyG_ready [12] (by kernel_rfl) (by simp) ?_
            refine AllReadyG.last 12 (by rfl) (by kernel_rfl) (fun K hK => ?_) ?_
            · simp only [List.getElem_toArray, List.getElem_cons_succ, List.getElem_cons_zero]
              go_simp
              refine hK.out _ _ ?_
              clear hK K
              try simp only [Act.put, List.setIfInBounds_toArray, List.set_cons_zero, List.set_cons_succ]
              refine wpAnyG_done (by kernel_rfl) ?_ _
              refine NoPanic.normal ?_
              go_wp2
              go_meet
              exact ⟨GA, G1, G2, G3, rfl, hide ((unhide HX4).met (K := K) (g1 := G1) (g2 := G2) (g3 := G3) (by simp) (by simp) (by simp) (by have := (unhide HX4).nd; simp at this; omega) (by have := (unhide HX4).nd; simp at this; omega) (by have := (unhide HX4).nd; simp at this; omega))⟩
            exact AllReadyG.nil
          exact AllReadyG.nil
        refine AllReadyG.cons 11 (by rfl) (fun K hK => ?_) ?_
        · simp only [List.getElem_toArray, List.getElem_cons_succ, List.getElem_cons_zero]
          go_simp
          refine hK.out _ _ trivial (fun _ => ?_)
          clear hK K
          try simp only [Act.put, List.setIfInBounds_toArray, List.set_cons_zero, List.set_cons_succ]
          have HX3 := hide (unhide HX2).alloc
          obtain ⟨GA, hGA⟩ : ∃ g, wk2.heap.size = g := ⟨_, rfl⟩
          rw [hGA] at HX3
          try rw [hGA]
          clear hGA HX2
          generalize wk2.alloc (.cells #[.int .i64 0, .slice none 0 0, .slice none 0 0, .slice none 0 0] 26) = wk3 at *
          refine wpAnyG_ready [6] (by kernel_rfl) (by simp) ?_
          refine AllReadyG.cons 6 (by rfl) (fun K hK => ?_) ?_
          · simp only [List.getElem_toArray, List.getElem_cons_succ, List.getElem_cons_zero]
            go_simp
            refine hK.out _ _ trivial (fun _ => ?_)
            clear hK K
            try simp only [Act.put, List.setIfInBounds_toArray, List.set_cons_zero, List.set_cons_succ]
            have HX4 := hide ((unhide HX3).make (unhide hF2 wk3) (unhide hF3 wk3))
            obtain ⟨G2, hG2⟩ : ∃ g, wk3.heap.size = g := ⟨_, rfl⟩
            rw [hG2] at HX4
            try rw [hG2]
            clear hG2 HX3
            generalize Fm wk3 = wk4 at *
            refine wpAnyG_take (v := ?_) 10 (by rfl) (by kernel_rfl) (by kernel_rfl) (by kernel_rfl) (by kernel_rfl) (fun _ _ _ h => h) (Or.inl ⟨by rfl, ?_⟩) (by assumption) ?_
            rotate_left
            · (intro w' hSw; (try dsimp only at hSw); (try simp only [List.getElem_toArray, List.getElem_cons_succ, List.getElem_cons_zero]); go_simp; try (with_reducible rfl))
            simp only [Act.put, List.getElem_toArray, List.getElem_cons_succ, List.getElem_cons_zero, List.setIfInBounds_toArray, List.set_cons_zero, List.set_cons_succ]
            obtain ⟨z0, z1, z2, z3, k0, k1, k2, k3⟩ := obj_cells ((unhide HX4).ob GA (by simp)).1
            refine wpAnyG_ready [12] (by kernel_rfl) (by simp) ?_
            refine AllReadyG.last 12 (by rfl) (by kernel_rfl) (fun K hK => ?_) ?_
            · simp only [List.getElem_toArray, List.getElem_cons_succ, List.getElem_cons_zero]
              go_simp
              refine hK.out _ _ ?_
              clear hK K
              try simp only [Act.put, List.setIfInBounds_toArray, List.set_cons_zero, List.set_cons_succ]
              refine wpAnyG_done (by kernel_rfl) ?_ _
              refine NoPanic.normal ?_
              go_wp2
              go_meet
              exact ⟨GA, G1, G2, G3, rfl, hide ((unhide HX4).met (K := K) (g1 := G1) (g2 := G2) (g3 := G3) (by simp) (by simp) (by simp) (by have := (unhide HX4).nd; simp at this; omega) (by have := (unhide HX4).nd; simp at this; omega) (by have := (unhide HX4).nd; simp at this; omega))⟩
            exact AllReadyG.nil
          exact AllReadyG.nil
        exact AllReadyG.nil
      refine AllReadyG.cons 11 (by rfl) (fun K hK => ?_) ?_
      · simp only [List.getElem_toArray, List.getElem_cons_succ, List.getElem_cons_zero]
        go_simp
        refine hK.out _ _ trivial (fun _ => ?_)
        clear hK K
        try simp only [Act.put, List.setIfInBounds_toArray, List.set_cons_zero, List.set_cons_succ]
        have HX2 := hide (unhide HX1).alloc
        obtain ⟨GA, hGA⟩ : ∃ g, wk1.heap.size = g := ⟨_, rfl⟩
        rw [hGA] at HX2
        try rw [hGA]
        clear hGA HX1
        generalize wk1.alloc (.cells #[.int .i64 0, .slice none 0 0, .slice none 0 0, .slice none 0 0] 26) = wk2 at *
        refine wpAnyG_ready [6, 9] (by kernel_rfl) (by simp) ?_
        refine AllReadyG.cons 6 (by rfl) (fun K hK => ?_) ?_
        · simp only [List.getElem_toArray, List.getElem_cons_succ, List.getElem_cons_zero]
          go_simp
          refine hK.out _ _ trivial (fun _ => ?_)
          clear hK K
          try simp only [Act.put, List.setIfInBounds_toArray, List.set_cons_zero, List.set_cons_succ]
          have HX3 := hide ((unhide HX2).make (unhide hF2 wk2) (unhide hF3 wk2))
          obtain ⟨G2, hG2⟩ : ∃ g, wk2.heap.size = g := ⟨_, rfl⟩
          rw [hG2] at HX3
          try rw [hG2]
          clear hG2 HX2
          generalize Fm wk2 = wk3 at *
          refine wpAnyG_ready [9] (by kernel_rfl) (by simp) ?_
          refine AllReadyG.cons 9 (by rfl) (fun K hK => ?_) ?_
          · simp only [List.getElem_toArray, List.getElem_cons_succ, List.getElem_cons_zero]
            go_simp
            refine hK.out _ _ trivial (fun _ => ?_)
            clear hK K
            try simp only [Act.put, List.setIfInBounds_toArray, List.set_cons_zero, List.set_cons_succ]
            have HX4 := hide ((unhide HX3).make (unhide hF2 wk3) (unhide hF3 wk3))
            obtain ⟨G3, hG3⟩ : ∃ g, wk3.heap.size = g := ⟨_, rfl⟩
            rw [hG3] at HX4
            try rw [hG3]
            clear hG3 HX3
            generalize Fm wk3 = wk4 at *
            refine wpAnyG_take (v := ?_) 10 (by rfl) (by kernel_rfl) (by kernel_rfl) (by kernel_rfl) (by kernel_rfl) (fun _ _ _ h => h) (Or.inl ⟨by rfl, ?_⟩) (by assumption) ?_
            rotate_left
            · (intro w' hSw; (try dsimp only at hSw); (try simp only [List.getElem_toArray, List.getElem_cons_succ, List.getElem_cons_zero]); go_simp; try (with_reducible rfl))
            simp only [Act.put, List.getElem_toArray, List.getElem_cons_succ, List.getElem_cons_zero, List.setIfInBounds_toArray, List.set_cons_zero, List.set_cons_succ]
            obtain ⟨z0, z1, z2, z3, k0, k1, k2, k3⟩ := obj_cells ((unhide HX4).ob GA (by simp)).1
            refine wpAnyG_ready [12] (by kernel_rfl) (by simp) ?_
            refine AllReadyG.last 12 (by rfl) (by kernel_rfl) (fun K hK => ?_) ?_
            · simp only [List.getElem_toArray, List.getElem_cons_succ, List.getElem_cons_zero]
              go_simp
              refine hK.out _ _ ?_
              clear hK K
              try simp only [Act.put, List.setIfInBounds_toArray, List.set_cons_zero, List.set_cons_succ]
              refine wpAnyG_done (by kernel_rfl) ?_ _
              refine NoPanic.normal ?_
              go_wp2
              go_meet
              exact ⟨GA, G1, G2, G3, rfl, hide ((unhide HX4).met (K := K) (g1 := G1) (g2 := G2) (g3 := G3) (by simp) (by simp) (by simp) (by have := (unhide HX4).nd; simp at this; omega) (by have := (unhide HX4).nd; simp at this; omega) (by have := (unhide HX4).nd; simp at this; omega))⟩
            exact AllReadyG.nil
          exact AllReadyG.nil
        refine AllReadyG.cons 9 (by rfl) (fun K hK => ?_) ?_
        · simp only [List.getElem_toArray, List.getElem_cons_succ, List.getElem_cons_zero]
          go_simp
          refine hK.out _ _ trivial (fun _ => ?_)
          clear hK K
          try simp only [Act.put, List.setIfInBounds_toArray, List.set_cons_zero, List.set_cons_succ]
          have HX3 := hide ((unhide HX2).make (unhide hF2 wk2) (unhide hF3 wk2))
          obtain ⟨G3, hG3⟩ : ∃ g, wk2.heap.size = g := ⟨_, rfl⟩
          rw [hG3] at HX3
          try rw [hG3]
          clear hG3 HX2
          generalize Fm wk2 = wk3 at *
          refine wpAnyG_ready [6] (by kernel_rfl) (by simp) ?_
          refine AllReadyG.cons 6 (by rfl) (fun K hK => ?_) ?_
          · simp only [List.getElem_toArray, List.getElem_cons_succ, List.getElem_cons_zero]
            go_simp
            refine hK.out _ _ trivial (fun _ => ?_)
            clear hK K
            try simp only [Act.put, List.setIfInBounds_toArray, List.set_cons_zero, List.set_cons_succ]
            have HX4 := hide ((unhide HX3).make (unhide hF2 wk3) (unhide hF3 wk3))
            obtain ⟨G2, hG2⟩ : ∃ g, wk3.heap.size = g := ⟨_, rfl⟩
            rw [hG2] at HX4
            try rw [hG2]
            clear hG2 HX3
            generalize Fm wk3 = wk4 at *
            refine wpAnyG_take (v := ?_) 10 (by rfl) (by kernel_rfl) (by kernel_rfl) (by kernel_rfl) (by kernel_rfl) (fun _ _ _ h => h) (Or.inl ⟨by rfl, ?_⟩) (by assumption) ?_
            rotate_left
            · (intro w' hSw; (try dsimp only at hSw); (try simp only [List.getElem_toArray, List.getElem_cons_succ, List.getElem_cons_zero]); go_simp; try (with_reducible rfl))
            simp only [Act.put, List.getElem_toArray, List.getElem_cons_succ, List.getElem_cons_zero, List.setIfInBounds_toArray, List.set_cons_zero, List.set_cons_succ]
            obtain ⟨z0, z1, z2, z3, k0, k1, k2, k3⟩ := obj_cells ((unhide HX4).ob GA (by simp)).1
            refine wpAnyG_ready [12] (by kernel_rfl) (by simp) ?_
            refine AllReadyG.last 12 (by rfl) (by kernel_rfl) (fun K hK => ?_) ?_
            · simp only [List.getElem_toArray, List.getElem_cons_succ, List.getElem_cons_zero]
              go_simp
              refine hK.out _ _ ?_
              clear hK K
              try simp only [Act.put, List.setIfInBounds_toArray, List.set_cons_zero, List.set_cons_succ]
              refine wpAnyG_done (by kernel_rfl) ?_ _
              refine NoPanic.normal ?_
              go_wp2
              go_meet
              exact ⟨GA, G1, G2, G3, rfl, hide ((unhide HX4).met (K := K) (g1 := G1) (g2 := G2) (g3 := G3) (by simp) (by simp) (by simp) (by have := (unhide HX4).nd; simp at this; omega) (by have := (unhide HX4).nd; simp at this; omega) (by have := (unhide HX4).nd; simp at this; omega))⟩
            exact AllReadyG.nil
          exact AllReadyG.nil
        exact AllReadyG.nil
      exact AllReadyG.nil
    refine AllReadyG.cons 6 (by rfl) (fun K hK => ?_) ?_
    · simp only [List.getElem_toArray, List.getElem_cons_succ, List.getElem_cons_zero]
      go_simp
      refine hK.out _ _ trivial (fun _ => ?_)
      clear hK K
      try simp only [Act.put, List.setIfInBounds_toArray, List.set_cons_zero, List.set_cons_succ]
      have HX1 := hide ((unhide HX0).make (unhide hF2 w0q) (unhide hF3 w0q))
      obtain ⟨G2, hG2⟩ : ∃ g, w0q.heap.size = g := ⟨_, rfl⟩
      rw [hG2] at HX1
      try rw [hG2]
      clear hG2 HX0
      generalize Fm w0q = wk1 at *
      refine wpAnyG_ready [3, 9, 11] (by kernel_rfl) (by simp) ?_
      refine AllReadyG.cons 3 (by rfl) (fun K hK => ?_) ?_
      · simp only [List.getElem_toArray, List.getElem_cons_succ, List.getElem_cons_zero]
        go_simp
        refine hK.out _ _ trivial (fun _ => ?_)
        clear hK K
        try simp only [Act.put, List.setIfInBounds_toArray, List.set_cons_zero, List.set_cons_succ]
        have HX2 := hide ((unhide HX1).make (unhide hF2 wk1) (unhide hF3 wk1))
        obtain ⟨G1, hG1⟩ : ∃ g, wk1.heap.size = g := ⟨_, rfl⟩
        rw [hG1] at HX2
        try rw [hG1]
        clear hG1 HX1
        generalize Fm wk1 = wk2 at *
        refine wpAnyG_ready [9, 11] (by kernel_rfl) (by simp) ?_
        refine AllReadyG.cons 9 (by rfl) (fun K hK => ?_) ?_
        · simp only [List.getElem_toArray, List.getElem_cons_succ, List.getElem_cons_zero]
          go_simp
          refine hK.out _ _ trivial (fun _ => ?_)
          clear hK K
          try simp only [Act.put, List.setIfInBounds_toArray, List.set_cons_zero, List.set_cons_succ]
          have HX3 := hide ((unhide HX2).make (unhide hF2 wk2) (unhide hF3 wk2))
          obtain ⟨G3, hG3⟩ : ∃ g, wk2.heap.size = g := ⟨_, rfl⟩
          rw [hG3] at HX3
          try rw [hG3]
          clear hG3 HX2
          generalize Fm wk2 = wk3 at *
          refine wpAnyG_take (v := ?_) 10 (by rfl) (by kernel_rfl) (by kernel_rfl) (by kernel_rfl) (by kernel_rfl) (fun _ _ _ h => h) (Or.inl ⟨by rfl, ?_⟩) (by assumption) ?_
          rotate_left
          · (intro w' hSw; (try dsimp only at hSw); (try simp only [List.getElem_toArray, List.getElem_cons_succ, List.getElem_cons_zero]); go_simp; try (with_reducible rfl))
          simp only [Act.put, List.getElem_toArray, List.getElem_cons_succ, List.getElem_cons_zero, List.setIfInBounds_toArray, List.set_cons_zero, List.set_cons_succ]
          refine wpAnyG_ready [11] (by kernel_rfl) (by simp) ?_
          refine AllReadyG.cons 11 (by rfl) (fun K hK => ?_) ?_
          · simp only [List.getElem_toArray, List.getElem_cons_succ, List.getElem_cons_zero]
            go_simp
            refine hK.out _ _ trivial (fun _ => ?_)
            clear hK K
            try simp only [Act.put, List.setIfInBounds_toArray, List.set_cons_zero, List.set_cons_succ]
            have HX4 := hide (unhide HX3).alloc
            obtain ⟨GA, hGA⟩ : ∃ g, wk3.heap.size = g := ⟨_, rfl⟩
            rw [hGA] at HX4
            try rw [hGA]
            clear hGA HX3
            generalize wk3.alloc (.cells #[.int .i64 0, .slice none 0 0, .slice none 0 0, .slice none 0 0] 26) = wk4 at *
            obtain ⟨z0, z1, z2, z3, k0, k1, k2, k3⟩ := obj_cells ((unhide HX4).ob GA (by simp)).1
            refine wpAnyG_ready [12] (by kernel_rfl) (by simp) ?_
            refine AllReadyG.last 12 (by rfl) (by kernel_rfl) (fun K hK => ?_) ?_
            · simp only [List.getElem_toArray, List.getElem_cons_succ, List.getElem_cons_zero]
              go_simp
              refine hK.out _ _ ?_
              clear hK K
              try simp only [Act.put, List.setIfInBounds_toArray, List.set_cons_zero, List.set_cons_succ]
              refine wpAnyG_done (by kernel_rfl) ?_ _
              refine NoPanic.normal ?_
              go_wp2
              go_meet
              exact ⟨GA, G1, G2, G3, rfl, hide ((unhide HX4).met (K := K) (g1 := G1) (g2 := G2) (g3 := G3) (by simp) (by simp) (by simp) (by have := (unhide HX4).nd; simp at this; omega) (by have := (unhide HX4).nd; simp at this; omega) (by have := (unhide HX4).nd; simp at this; omega))⟩
            exact AllReadyG.nil
          exact AllReadyG.nil
        refine AllReadyG.cons 11 (by rfl) (fun K hK => ?_) ?_
        · simp only [List.getElem_toArray, List.getElem_cons_succ, List.getElem_cons_zero]
          go_simp
          refine hK.out _ _ trivial (fun _ => ?_)
          clear hK K
          try simp only [Act.put, List.setIfInBounds_toArray, List.set_cons_zero, List.set_cons_succ]
          have HX3 := hide (unhide HX2).alloc
          obtain ⟨GA, hGA⟩ : ∃ g, wk2.heap.size = g := ⟨_, rfl⟩
          rw [hGA] at HX3
          try rw [hGA]
          clear hGA HX2
          generalize wk2.alloc (.cells #[.int .i64 0, .slice none 0 0, .slice none 0 0, .slice none 0 0] 26) = wk3 at *
          refine wpAnyG_ready [9] (by kernel_rfl) (by simp) ?_
          refine AllReadyG.cons 9 (by rfl) (fun K hK => ?_) ?_
          · simp only [List.getElem_toArray, List.getElem_cons_succ, List.getElem_cons_zero]
            go_simp
            refine hK.out _ _ trivial (fun _ => ?_)
            clear hK K
            try simp only [Act.put, List.setIfInBounds_toArray, List.set_cons_zero, List.set_cons_succ]
            have HX4 := hide ((unhide HX3).make (unhide hF2 wk3) (unhide hF3 wk3))
            obtain ⟨G3, hG3⟩ : ∃ g, wk3.heap.size = g := ⟨_, rfl⟩
            rw [hG3] at HX4
            try rw [hG3]
            clear hG3 HX3
            generalize Fm wk3 = wk4 at *
            refine wpAnyG_take (v := ?_) 10 (by rfl) (by kernel_rfl) (by kernel_rfl) (by kernel_rfl) (by kernel_rfl) (fun _ _ _ h => h) (Or.inl ⟨by rfl, ?_⟩) (by assumption) ?_
            rotate_left
            · (intro w' hSw; (try dsimp only at hSw); (try simp only [List.getElem_toArray, List.getElem_cons_succ, List.getElem_cons_zero]); go_simp; try (with_reducible rfl))
            simp only [Act.put, List.getElem_toArray, List.getElem_cons_succ, List.getElem_cons_zero, List.setIfInBounds_toArray, List.set_cons_zero, List.set_cons_succ]
            obtain ⟨z0, z1, z2, z3, k0, k1, k2, k3⟩ := obj_cells ((unhide HX4).ob GA (by simp)).1
            refine wpAnyG_ready [12] (by kernel_rfl) (by simp) ?_
            refine AllReadyG.last 12 (by rfl) (by kernel_rfl) (fun K hK => ?_) ?_
            · simp only [List.getElem_toArray, List.getElem_cons_succ, List.getElem_cons_zero]
              go_simp
              refine hK.out _ _ ?_
              clear hK K
              try simp only [Act.put, List.setIfInBounds_toArray, List.set_cons_zero, List.set_cons_succ]
              refine wpAnyG_done (by kernel_rfl) ?_ _
              refine NoPanic.normal ?_
              go_wp2
              go_meet
              exact ⟨GA, G1, G2, G3, rfl, hide ((unhide HX4).met (K := K) (g1 := G1) (g2 := G2) (g3 := G3) (by simp) (by simp) (by simp) (by have := (unhide HX4).nd; simp at this; omega) (by have := (unhide HX4).nd; simp at this; omega) (by have := (unhide HX4).nd; simp at this; omega))⟩
            exact AllReadyG.nil
          exact AllReadyG.nil
        exact AllReadyG.nil
      refine AllReadyG.cons 9 (by rfl) (fun K hK => ?_) ?_
      · simp only [List.getElem_toArray, List.getElem_cons_succ, List.getElem_cons_zero]
        go_simp
        refine hK.out _ _ trivial (fun _ => ?_)
        clear hK K
        try simp only [Act.put, List.setIfInBounds_toArray, List.set_cons_zero, List.set_cons_succ]
        have HX2 := hide ((unhide HX1).make (unhide hF2 wk1) (unhide hF3 wk1))
        obtain ⟨G3, hG3⟩ : ∃ g, wk1.heap.size = g := ⟨_, rfl⟩
        rw [hG3] at HX2
        try rw [hG3]
        clear hG3 HX1
        generalize Fm wk1 = wk2 at *
        refine wpAnyG_ready [3, 11] (by kernel_rfl) (by simp) ?_
        refine AllReadyG.cons 3 (by rfl) (fun K hK => ?_) ?_
        · simp only [List.getElem_toArray, List.getElem_cons_succ, List.getElem_cons_zero]
          go_simp
          refine hK.out _ _ trivial (fun _ => ?_)
          clear hK K
          try simp only [Act.put, List.setIfInBounds_toArray, List.set_cons_zero, List.set_cons_succ]
          have HX3 := hide ((unhide HX2).make (unhide hF2 wk2) (unhide hF3 wk2))
          obtain ⟨G1, hG1⟩ : ∃ g, wk2.heap.size = g := ⟨_, rfl⟩
          rw [hG1] at HX3
          try rw [hG1]
          clear hG1 HX2
          generalize Fm wk2 = wk3 at *
          refine wpAnyG_take (v := ?_) 10 (by rfl) (by kernel_rfl) (by kernel_rfl) (by kernel_rfl) (by kernel_rfl) (fun _ _ _ h => h) (Or.inl ⟨by rfl, ?_⟩) (by assumption) ?_
          rotate_left
          · (intro w' hSw; (try dsimp only at hSw); (try simp only [List.getElem_toArray, List.getElem_cons_succ, List.getElem_cons_zero]); go_simp; try (with_reducible rfl))
          simp only [Act.put, List.getElem_toArray, List.getElem_cons_succ, List.getElem_cons_zero, List.setIfInBounds_toArray, List.set_cons_zero, List.set_cons_succ]
          refine wpAnyG_ready [11] (by kernel_rfl) (by simp) ?_
          refine AllReadyG.cons 11 (by rfl) (fun K hK => ?_) ?_
          · simp only [List.getElem_toArray, List.getElem_cons_succ, List.getElem_cons_zero]
            go_simp
            refine hK.out _ _ trivial (fun _ => ?_)
            clear hK K
            try simp only [Act.put, List.setIfInBounds_toArray, List.set_cons_zero, List.set_cons_succ]
            have HX4 := hide (unhide HX3).alloc
            obtain ⟨GA, hGA⟩ : ∃ g, wk3.heap.size = g := ⟨_, rfl⟩
            rw [hGA] at HX4
            try rw [hGA]
            clear hGA HX3
            generalize wk3.alloc (.cells #[.int .i64 0, .slice none 0 0, .slice none 0 0, .slice none 0 0] 26) = wk4 at *
            obtain ⟨z0, z1, z2, z3, k0, k1, k2, k3⟩ := obj_cells ((unhide HX4).ob GA (by simp)).1
            refine wpAnyG_ready [12] (by kernel_rfl) (by simp) ?_
            refine AllReadyG.last 12 (by rfl) (by kernel_rfl) (fun K hK => ?_) ?_
            · simp only [List.getElem_toArray, List.getElem_cons_succ, List.getElem_cons_zero]
              go_simp
              refine hK.out _ _ ?_
              clear hK K
              try simp only [Act.put, List.setIfInBounds_toArray, List.set_cons_zero, List.set_cons_succ]
              refine wpAnyG_done (by kernel_rfl) ?_ _
              refine NoPanic.normal ?_
              go_wp2
              go_meet
              exact ⟨GA, G1, G2, G3, rfl, hide ((unhide HX4).met (K := K) (g1 := G1) (g2 := G2) (g3 := G3) (by simp) (by simp) (by simp) (by have := (unhide HX4).nd; simp at this; omega) (by have := (unhide HX4).nd; simp at this; omega) (by have := (unhide HX4).nd; simp at this; omega))⟩
            exact AllReadyG.nil
          exact AllReadyG.nil
        refine AllReadyG.cons 11 (by rfl) (fun K hK => ?_) ?_
        · simp only [List.getElem_toArray, List.getElem_cons_succ, List.getElem_cons_zero]
          go_simp
          refine hK.out _ _ trivial (fun _ => ?_)
          clear hK K
          try simp only [Act.put, List.setIfInBounds_toArray, List.set_cons_zero, List.set_cons_succ]
          have HX3 := hide (unhide HX2).alloc
          obtain ⟨GA, hGA⟩ : ∃ g, wk2.heap.size = g := ⟨_, rfl⟩
          rw [hGA] at HX3
          try rw [hGA]
          clear hGA HX2
          generalize wk2.alloc (.cells #[.int .i64 0, .slice none 0 0, .slice none 0 0, .slice none 0 0] 26) = wk3 at *
          refine wpAnyG_ready [3] (by kernel_rfl) (by simp) ?_
          refine AllReadyG.cons 3 (by rfl) (fun K hK => ?_) ?_
          · simp only [List.getElem_toArray, List.getElem_cons_succ, List.getElem_cons_zero]
            go_simp
            refine hK.out _ _ trivial (fun _ => ?_)
            clear hK K
            try simp only [Act.put, List.setIfInBounds_toArray, List.set_cons_zero, List.set_cons_succ]
            have HX4 := hide ((unhide HX3).make (unhide hF2 wk3) (unhide hF3 wk3))
            obtain ⟨G1, hG1⟩ : ∃ g, wk3.heap.size = g := ⟨_, rfl⟩
            rw [hG1] at HX4
            try rw [hG1]
            clear hG1 HX3
            generalize Fm wk3 = wk4 at *
            refine wpAnyG_take (v := ?_) 10 (by rfl) (by kernel_rfl) (by kernel_rfl) (by kernel_rfl) (by kernel_rfl) (fun _ _ _ h => h) (Or.inl ⟨by rfl, ?_⟩) (by assumption) ?_
            rotate_left
            · (intro w' hSw; (try dsimp only at hSw); (try simp only [List.getElem_toArray, List.getElem_cons_succ, List.getElem_cons_zero]); go_simp; try (with_reducible rfl))
            simp only [Act.put, List.getElem_toArray, List.getElem_cons_succ, List.getElem_cons_zero, List.setIfInBounds_toArray, List.set_cons_zero, List.set_cons_succ]
            obtain ⟨z0, z1, z2, z3, k0, k1, k2, k3⟩ := obj_cells ((unhide HX4).ob GA (by simp)).1
            refine wpAnyG_ready [12] (by kernel_rfl) (by simp) ?_
            refine AllReadyG.last 12 (by rfl) (by kernel_rfl) (fun K hK => ?_) ?_
            · simp only [List.getElem_toArray, List.getElem_cons_succ, List.getElem_cons_zero]
              go_simp
              refine hK.out _ _ ?_
              clear hK K
              try simp only [Act.put, List.setIfInBounds_toArray, List.set_cons_zero, List.set_cons_succ]
              refine wpAnyG_done (by kernel_rfl) ?_ _
              refine NoPanic.normal ?_
              go_wp2
              go_meet
              exact ⟨GA, G1, G2, G3, rfl, hide ((unhide HX4).met (K := K) (g1 := G1) (g2 := G2) (g3 := G3) (by simp) (by simp) (by simp) (by have := (unhide HX4).nd; simp at this; omega) (by have := (unhide HX4).nd; simp at this; omega) (by have := (unhide HX4).nd; simp at this; omega))⟩
            exact AllReadyG.nil
          exact AllReadyG.nil
        exact AllReadyG.nil
      refine AllReadyG.cons 11 (by rfl) (fun K hK => ?_) ?_
      · simp only [List.getElem_toArray, List.getElem_cons_succ, List.getElem_cons_zero]
        go_simp
        refine hK.out _ _ trivial (fun _ => ?_)
        clear hK K
        try simp only [Act.put, List.setIfInBounds_toArray, List.set_cons_zero, List.set_cons_succ]
        have HX2 := hide (unhide HX1).alloc
        obtain ⟨GA, hGA⟩ : ∃ g, wk1.heap.size = g := ⟨_, rfl⟩
        rw [hGA] at HX2
        try rw [hGA]
        clear hGA HX1
        generalize wk1.alloc (.cells #[.int .i64 0, .slice none 0 0, .slice none 0 0, .slice none 0 0] 26) = wk2 at *
        refine wpAnyG_ready [3, 9] (by kernel_rfl) (by simp) ?_
        refine AllReadyG.cons 3 (by rfl) (fun K hK => ?_) ?_
        · simp only [List.getElem_toArray, List.getElem_cons_succ, List.getElem_cons_zero]
          go_simp
          refine hK.out _ _ trivial (fun _ => ?_)
          clear hK K
          try simp only [Act.put, List.setIfInBounds_toArray, List.set_cons_zero, List.set_cons_succ]
          have HX3 := hide ((unhide HX2).make (unhide hF2 wk2) (unhide hF3 wk2))
          obtain ⟨G1, hG1⟩ : ∃ g, wk2.heap.size = g := ⟨_, rfl⟩
          rw [hG1] at HX3
          try rw [hG1]
          clear hG1 HX2
          generalize Fm wk2 = wk3 at *
          refine wpAnyG_ready [9] (by kernel_rfl) (by simp) ?_
          refine AllReadyG.cons 9 (by rfl) (fun K hK => ?_) ?_
          · simp only [List.getElem_toArray, List.getElem_cons_succ, List.getElem_cons_zero]
            go_simp
            refine hK.out _ _ trivial (fun _ => ?_)
            clear hK K
            try simp only [Act.put, List.setIfInBounds_toArray, List.set_cons_zero, List.set_cons_succ]
            have HX4 := hide ((unhide HX3).make (unhide hF2 wk3) (unhide hF3 wk3))
            obtain ⟨G3, hG3⟩ : ∃ g, wk3.heap.size = g := ⟨_, rfl⟩
            rw [hG3] at HX4
            try rw [hG3]
            clear hG3 HX3
            generalize Fm wk3 = wk4 at *
            refine wpAnyG_take (v := ?_) 10 (by rfl) (by kernel_rfl) (by kernel_rfl) (by kernel_rfl) (by kernel_rfl) (fun _ _ _ h => h) (Or.inl ⟨by rfl, ?_⟩) (by assumption) ?_
            rotate_left
            · (intro w' hSw; (try dsimp only at hSw); (try simp only [List.getElem_toArray, List.getElem_cons_succ, List.getElem_cons_zero]); go_simp; try (with_reducible rfl))
            simp only [Act.put, List.getElem_toArray, List.getElem_cons_succ, List.getElem_cons_zero, List.setIfInBounds_toArray, List.set_cons_zero, List.set_cons_succ]
            obtain ⟨z0, z1, z2, z3, k0, k1, k2, k3⟩ := obj_cells ((unhide HX4).ob GA (by simp)).1
            refine wpAnyG_ready [12] (by kernel_rfl) (by simp) ?_
            refine AllReadyG.last 12 (by rfl) (by kernel_rfl) (fun K hK => ?_) ?_
            · simp only [List.getElem_toArray, List.getElem_cons_succ, List.getElem_cons_zero]
              go_simp
              refine hK.out _ _ ?_
              clear hK K
              try simp only [Act.put, List.setIfInBounds_toArray, List.set_cons_zero, List.set_cons_succ]
              refine wpAnyG_done (by kernel_rfl) ?_ _
              refine NoPanic.normal ?_
              go_wp2
              go_meet
              exact ⟨GA, G1, G2, G3, rfl, hide ((unhide HX4).met (K := K) (g1 := G1) (g2 := G2) (g3 := G3) (by simp) (by simp) (by simp) (by have := (unhide HX4).nd; simp at this; omega) (by have := (unhide HX4).nd; simp at this; omega) (by have := (unhide HX4).nd; simp at this; omega))⟩
            exact AllReadyG.nil
          exact AllReadyG.nil
        refine AllReadyG.cons 9 (by rfl) (fun K hK => ?_) ?_
        · simp only [List.getElem_toArray, List.getElem_cons_succ, List.getElem_cons_zero]
          go_simp
          refine hK.out _ _ trivial (fun _ => ?_)
          clear hK K
          try simp only [Act.put, List.setIfInBounds_toArray, List.set_cons_zero, List.set_cons_succ]
          have HX3 := hide ((unhide HX2).make (unhide hF2 wk2) (unhide hF3 wk2))
          obtain ⟨G3, hG3⟩ : ∃ g, wk2.heap.size = g := ⟨_, rfl⟩
          rw [hG3] at HX3
          try rw [hG3]
          clear hG3 HX2
          generalize Fm wk2 = wk3 at *
          refine wpAnyG_ready [3] (by kernel_rfl) (by simp) ?_
          refine AllReadyG.cons 3 (by rfl) (fun K hK => ?_) ?_
          · simp only [List.getElem_toArray, List.getElem_cons_succ, List.getElem_cons_zero]
            go_simp
            refine hK.out _ _ trivial (fun _ => ?_)
            clear hK K
            try simp only [Act.put, List.setIfInBounds_toArray, List.set_cons_zero, List.set_cons_succ]
            have HX4 := hide ((unhide HX3).make (unhide hF2 wk3) (unhide hF3 wk3))
            obtain ⟨G1, hG1⟩ : ∃ g, wk3.heap.size = g := ⟨_, rfl⟩
            rw [hG1] at HX4
            try rw [hG1]
            clear hG1 HX3
            generalize Fm wk3 = wk4 at *
            refine wpAnyG_take (v := ?_) 10 (by rfl) (by kernel_rfl) (by kernel_rfl) (by kernel_rfl) (by kernel_rfl) (fun _ _ _ h => h) (Or.inl ⟨by rfl, ?_⟩) (by assumption) ?_
            rotate_left
            · (intro w' hSw; (try dsimp only at hSw); (try simp only [List.getElem_toArray, List.getElem_cons_succ, List.getElem_cons_zero]); go_simp; try (with_reducible rfl))
            simp only [Act.put, List.getElem_toArray, List.getElem_cons_succ, List.getElem_cons_zero, List.setIfInBounds_toArray, List.set_cons_zero, List.set_cons_succ]
            obtain ⟨z0, z1, z2, z3, k0, k1, k2, k3⟩ := obj_cells ((unhide HX4).ob GA (by simp)).1
            refine wpAnyG_ready [12] (by kernel_rfl) (by simp) ?_
            refine AllReadyG.last 12 (by rfl) (by kernel_rfl) (fun K hK => ?_) ?_
            · simp only [List.getElem_toArray, List.getElem_cons_succ, List.getElem_cons_zero]
              go_simp
              refine hK.out _ _ ?_
              clear hK K
              try simp only [Act.put, List.setIfInBounds_toArray, List.set_cons_zero, List.set_cons_succ]
              refine wpAnyG_done (by kernel_rfl) ?_ _
              refine NoPanic.normal ?_
              go_wp2
              go_meet
              exact ⟨GA, G1, G2, G3, rfl, hide ((unhide HX4).met (K := K) (g1 := G1) (g2 := G2) (g3 := G3) (by simp) (by simp) (by simp) (by have := (unhide HX4).nd; simp at this; omega) (by have := (unhide HX4).nd; simp at this; omega) (by have := (unhide HX4).nd; simp at this; omega))⟩
            exact AllReadyG.nil
          exact AllReadyG.nil
        exact AllReadyG.nil
      exact AllReadyG.nil
    refine AllReadyG.cons 9 (by rfl) (fun K hK => ?_) ?_
    · simp only [List.getElem_toArray, List.getElem_cons_succ, List.getElem_cons_zero]
      go_simp
      refine hK.out _ _ trivial (fun _ => ?_)
      clear hK K
      try simp only [Act.put, List.setIfInBounds_toArray, List.set_cons_zero, List.set_cons_succ]
      have HX1 := hide ((unhide HX0).make (unhide hF2 w0q) (unhide hF3 w0q))
      obtain ⟨G3, hG3⟩ : ∃ g, w0q.heap.size = g := ⟨_, rfl⟩
      rw [hG3] at HX1
      try rw [hG3]
      clear hG3 HX0
      generalize Fm w0q = wk1 at *
      refine wpAnyG_ready [3, 6, 11] (by kernel_rfl) (by simp) ?_
      refine AllReadyG.cons 3 (by rfl) (fun K hK => ?_) ?_
      · simp only [List.getElem_toArray, List.getElem_cons_succ, List.getElem_cons_zero]
        go_simp
        refine hK.out _ _ trivial (fun _ => ?_)
        clear hK K
        try simp only [Act.put, List.setIfInBounds_toArray, List.set_cons_zero, List.set_cons_succ]
        have HX2 := hide ((unhide HX1).make (unhide hF2 wk1) (unhide hF3 wk1))
        obtain ⟨G1, hG1⟩ : ∃ g, wk1.heap.size = g := ⟨_, rfl⟩
        rw [hG1] at HX2
        try rw [hG1]
        clear hG1 HX1
        generalize Fm wk1 = wk2 at *
        refine wpAnyG_ready [6, 11] (by kernel_rfl) (by simp) ?_
        refine AllReadyG.cons 6 (by rfl) (fun K hK => ?_) ?_
        · simp only [List.getElem_toArray, List.getElem_cons_succ, List.getElem_cons_zero]
          go_simp
          refine hK.out _ _ trivial (fun _ => ?_)
          clear hK K
          try simp only [Act.put, List.setIfInBounds_toArray, List.set_cons_zero, List.set_cons_succ]
          have HX3 := hide ((unhide HX2).make (unhide hF2 wk2) (unhide hF3 wk2))
          obtain ⟨G2, hG2⟩ : ∃ g, wk2.heap.size = g := ⟨_, rfl⟩
          rw [hG2] at HX3
          try rw [hG2]
          clear hG2 HX2
          generalize Fm wk2 = wk3 at *
          refine wpAnyG_take (v := ?_) 10 (by rfl) (by kernel_rfl) (by kernel_rfl) (by kernel_rfl) (by kernel_rfl) (fun _ _ _ h => h) (Or.inl ⟨by rfl, ?_⟩) (by assumption) ?_
          rotate_left
          · (intro w' hSw; (try dsimp only at hSw); (try simp only [List.getElem_toArray, List.getElem_cons_succ, List.getElem_cons_zero]); go_simp; try (with_reducible rfl))
          simp only [Act.put, List.getElem_toArray, List.getElem_cons_succ, List.getElem_cons_zero, List.setIfInBounds_toArray, List.set_cons_zero, List.set_cons_succ]
          refine wpAnyG_ready [11] (by kernel_rfl) (by simp) ?_
          refine AllReadyG.cons 11 (by rfl) (fun K hK => ?_) ?_
          · simp only [List.getElem_toArray, List.getElem_cons_succ, List.getElem_cons_zero]
            go_simp
            refine hK.out _ _ trivial (fun _ => ?_)
            clear hK K
            try simp only [Act.put, List.setIfInBounds_toArray, List.set_cons_zero, List.set_cons_succ]
            have HX4 := hide (unhide HX3).alloc
            obtain ⟨GA, hGA⟩ : ∃ g, wk3.heap.size = g := ⟨_, rfl⟩
            rw [hGA] at HX4
            try rw [hGA]
            clear hGA HX3
            generalize wk3.alloc (.cells #[.int .i64 0, .slice none 0 0, .slice none 0 0, .slice none 0 0] 26) = wk4 at *
            obtain ⟨z0, z1, z2, z3, k0, k1, k2, k3⟩ := obj_cells ((unhide HX4).ob GA (by simp)).1
            refine wpAnyG_ready [12] (by kernel_rfl) (by simp) ?_
            refine AllReadyG.last 12 (by rfl) (by kernel_rfl) (fun K hK => ?_) ?_
            · simp only [List.getElem_toArray, List.getElem_cons_succ, List.getElem_cons_zero]
              go_simp
              refine hK.out _ _ ?_
              clear hK K
              try simp only [Act.put, List.setIfInBounds_toArray, List.set_cons_zero, List.set_cons_succ]
              refine wpAnyG_done (by kernel_rfl) ?_ _
              refine NoPanic.normal ?_
              go_wp2
              go_meet
              exact ⟨GA, G1, G2, G3, rfl, hide ((unhide HX4).met (K := K) (g1 := G1) (g2 := G2) (g3 := G3) (by simp) (by simp) (by simp) (by have := (unhide HX4).nd; simp at this; omega) (by have := (unhide HX4).nd; simp at this; omega) (by have := (unhide HX4).nd; simp at this; omega))⟩
            exact AllReadyG.nil
          exact AllReadyG.nil
        refine AllReadyG.cons 11 (by rfl) (fun K hK => ?_) ?_
        · simp only [List.getElem_toArray, List.getElem_cons_succ, List.getElem_cons_zero]
          go_simp
          refine hK.out _ _ trivial (fun _ => ?_)
          clear hK K
          try simp only [Act.put, List.setIfInBounds_toArray, List.set_cons_zero, List.set_cons_succ]
          have HX3 := hide (unhide HX2).alloc
          obtain ⟨GA, hGA⟩ : ∃ g, wk2.heap.size = g := ⟨_, rfl⟩
          rw [hGA] at HX3
          try rw [hGA]
          clear hGA HX2
          generalize wk2.alloc (.cells #[.int .i64 0, .slice none 0 0, .slice none 0 0, .slice none 0 0] 26) = wk3 at *
          refine wpAnyG_ready [6] (by kernel_rfl) (by simp) ?_
          refine AllReadyG.cons 6 (by rfl) (fun K hK => ?_) ?_
          · simp only [List.getElem_toArray, List.getElem_cons_succ, List.getElem_cons_zero]
            go_simp
            refine hK.out _ _ trivial (fun _ => ?_)
            clear hK K
            try simp only [Act.put, List.setIfInBounds_toArray, List.set_cons_zero, List.set_cons_succ]
            have HX4 := hide ((unhide HX3).make (unhide hF2 wk3) (unhide hF3 wk3))
            obtain ⟨G2, hG2⟩ : ∃ g, wk3.heap.size = g := ⟨_, rfl⟩
            rw [hG2] at HX4
            try rw [hG2]
            clear hG2 HX3
            generalize Fm wk3 = wk4 at *
            refine wpAnyG_take (v := ?_) 10 (by rfl) (by kernel_rfl) (by kernel_rfl) (by kernel_rfl) (by kernel_rfl) (fun _ _ _ h => h) (Or.inl ⟨by rfl, ?_⟩) (by assumption) ?_
            rotate_left
            · (intro w' hSw; (try dsimp only at hSw); (try simp only [List.getElem_toArray, List.getElem_cons_succ, List.getElem_cons_zero]); go_simp; try (with_reducible rfl))
            simp only [Act.put, List.getElem_toArray, List.getElem_cons_succ, List.getElem_cons_zero, List.setIfInBounds_toArray, List.set_cons_zero, List.set_cons_succ]
            obtain ⟨z0, z1, z2, z3, k0, k1, k2, k3⟩ := obj_cells ((unhide HX4).ob GA (by simp)).1
            refine wpAnyG_ready [12] (by kernel_rfl) (by simp) ?_
            refine AllReadyG.last 12 (by rfl) (by kernel_rfl) (fun K hK => ?_) ?_
            · simp only [List.getElem_toArray, List.getElem_cons_succ, List.getElem_cons_zero]
              go_simp
              refine hK.out _ _ ?_
              clear hK K
              try simp only [Act.put, List.setIfInBounds_toArray, List.set_cons_zero, List.set_cons_succ]
              refine wpAnyG_done (by kernel_rfl) ?_ _
              refine NoPanic.normal ?_
              go_wp2
              go_meet
              exact ⟨GA, G1, G2, G3, rfl, hide ((unhide HX4).met (K := K) (g1 := G1) (g2 := G2) (g3 := G3) (by simp) (by simp) (by simp) (by have := (unhide HX4).nd; simp at this; omega) (by have := (unhide HX4).nd; simp at this; omega) (by have := (unhide HX4).nd; simp at this; omega))⟩
            exact AllReadyG.nil
          exact AllReadyG.nil
        exact AllReadyG.nil
      refine AllReadyG.cons 6 (by rfl) (fun K hK => ?_) ?_
      · simp only [List.getElem_toArray, List.getElem_cons_succ, List.getElem_cons_zero]
        go_simp
        refine hK.out _ _ trivial (fun _ => ?_)
        clear hK K
        try simp only [Act.put, List.setIfInBounds_toArray, List.set_cons_zero, List.set_cons_succ]
        have HX2 := hide ((unhide HX1).make (unhide hF2 wk1) (unhide hF3 wk1))
        obtain ⟨G2, hG2⟩ : ∃ g, wk1.heap.size = g := ⟨_, rfl⟩
        rw [hG2] at HX2
        try rw [hG2]
        clear hG2 HX1
        generalize Fm wk1 = wk2 at *
        refine wpAnyG_ready [3, 11] (by kernel_rfl) (by simp) ?_
        refine AllReadyG.cons 3 (by rfl) (fun K hK => ?_) ?_
        · simp only [List.getElem_toArray, List.getElem_cons_succ, List.getElem_cons_zero]
          go_simp
          refine hK.out _ _ trivial (fun _ => ?_)
          clear hK K
          try simp only [Act.put, List.setIfInBounds_toArray, List.set_cons_zero, List.set_cons_succ]
          have HX3 := hide ((unhide HX2).make (unhide hF2 wk2) (unhide hF3 wk2))
          obtain ⟨G1, hG1⟩ : ∃ g, wk2.heap.size = g := ⟨_, rfl⟩
          rw [hG1] at HX3
          try rw [hG1]
          clear hG1 HX2
          generalize Fm wk2 = wk3 at *
          refine wpAnyG_take (v := ?_) 10 (by rfl) (by kernel_rfl) (by kernel_rfl) (by kernel_rfl) (by kernel_rfl) (fun _ _ _ h => h) (Or.inl ⟨by rfl, ?_⟩) (by assumption) ?_
          rotate_left
          · (intro w' hSw; (try dsimp only at hSw); (try simp only [List.getElem_toArray, List.getElem_cons_succ, List.getElem_cons_zero]); go_simp; try (with_reducible rfl))
          simp only [Act.put, List.getElem_toArray, List.getElem_cons_succ, List.getElem_cons_zero, List.setIfInBounds_toArray, List.set_cons_zero, List.set_cons_succ]
          refine wpAnyG_ready [11] (by kernel_rfl) (by simp) ?_
          refine AllReadyG.cons 11 (by rfl) (fun K hK => ?_) ?_
          · simp only [List.getElem_toArray, List.getElem_cons_succ, List.getElem_cons_zero]
            go_simp
            refine hK.out _ _ trivial (fun _ => ?_)
            clear hK K
            try simp only [Act.put, List.setIfInBounds_toArray, List.set_cons_zero, List.set_cons_succ]
            have HX4 := hide (unhide HX3).alloc
            obtain ⟨GA, hGA⟩ : ∃ g, wk3.heap.size = g := ⟨_, rfl⟩
            rw [hGA] at HX4
            try rw [hGA]
            clear hGA HX3
            generalize wk3.alloc (.cells #[.int .i64 0, .slice none 0 0, .slice none 0 0, .slice none 0 0] 26) = wk4 at *
            obtain ⟨z0, z1, z2, z3, k0, k1, k2, k3⟩ := obj_cells ((unhide HX4).ob GA (by simp)).1
            refine wpAnyG_ready [12] (by kernel_rfl) (by simp) ?_
            refine AllReadyG.last 12 (by rfl) (by kernel_rfl) (fun K hK => ?_) ?_
            · simp only [List.getElem_toArray, List.getElem_cons_succ, List.getElem_cons_zero]
              go_simp
              refine hK.out _ _ ?_
              clear hK K
              try simp only [Act.put, List.setIfInBounds_toArray, List.set_cons_zero, List.set_cons_succ]
              refine wpAnyG_done (by kernel_rfl) ?_ _
              refine NoPanic.normal ?_
              go_wp2
              go_meet
              exact ⟨GA, G1, G2, G3, rfl, hide ((unhide HX4).met (K := K) (g1 := G1) (g2 := G2) (g3 := G3) (by simp) (by simp) (by simp) (by have := (unhide HX4).nd; simp at this; omega) (by have := (unhide HX4).nd; simp at this; omega) (by have := (unhide HX4).nd; simp at this; omega))⟩
            exact AllReadyG.nil
          exact AllReadyG.nil
        refine AllReadyG.cons 11 (by rfl) (fun K hK => ?_) ?_
        · simp only [List.getElem_toArray, List.getElem_cons_succ, List.getElem_cons_zero]
          go_simp
          refine hK.out _ _ trivial (fun _ => ?_)
          clear hK K
          try simp only [Act.put, List.setIfInBounds_toArray, List.set_cons_zero, List.set_cons_succ]
          have HX3 := hide (unhide HX2).alloc
          obtain ⟨GA, hGA⟩ : ∃ g, wk2.heap.size = g := ⟨_, rfl⟩
          rw [hGA] at HX3
          try rw [hGA]
          clear hGA HX2
          generalize wk2.alloc (.cells #[.int .i64 0, .slice none 0 0, .slice none 0 0, .slice none 0 0] 26) = wk3 at *
          refine wpAnyG_ready [3] (by kernel_rfl) (by simp) ?_
          refine AllReadyG.cons 3 (by rfl) (fun K hK => ?_) ?_
          · simp only [List.getElem_toArray, List.getElem_cons_succ, List.getElem_cons_zero]
            go_simp
            refine hK.out _ _ trivial (fun _ => ?_)
            clear hK K
            try simp only [Act.put, List.setIfInBounds_toArray, List.set_cons_zero, List.set_cons_succ]
            have HX4 := hide ((unhide HX3).make (unhide hF2 wk3) (unhide hF3 wk3))
            obtain ⟨G1, hG1⟩ : ∃ g, wk3.heap.size = g := ⟨_, rfl⟩
            rw [hG1] at HX4
            try rw [hG1]
            clear hG1 HX3
            generalize Fm wk3 = wk4 at *
            refine wpAnyG_take (v := ?_) 10 (by rfl) (by kernel_rfl) (by kernel_rfl) (by kernel_rfl) (by kernel_rfl) (fun _ _ _ h => h) (Or.inl ⟨by rfl, ?_⟩) (by assumption) ?_
            rotate_left
            · (intro w' hSw; (try dsimp only at hSw); (try simp only [List.getElem_toArray, List.getElem_cons_succ, List.getElem_cons_zero]); go_simp; try (with_reducible rfl))
            simp only [Act.put, List.getElem_toArray, List.getElem_cons_succ, List.getElem_cons_zero, List.setIfInBounds_toArray, List.set_cons_zero, List.set_cons_succ]
            obtain ⟨z0, z1, z2, z3, k0, k1, k2, k3⟩ := obj_cells ((unhide HX4).ob GA (by simp)).1
            refine wpAnyG_ready [12] (by kernel_rfl) (by simp) ?_
            refine AllReadyG.last 12 (by rfl) (by kernel_rfl) (fun K hK => ?_) ?_
            · simp only [List.getElem_toArray, List.getElem_cons_succ, List.getElem_cons_zero]
              go_simp
              refine hK.out _ _ ?_
              clear hK K
              try simp only [Act.put, List.setIfInBounds_toArray, List.set_cons_zero, List.set_cons_succ]
              refine wpAnyG_done (by kernel_rfl) ?_ _
              refine NoPanic.normal ?_
              go_wp2
              go_meet
              exact ⟨GA, G1, G2, G3, rfl, hide ((unhide HX4).met (K := K) (g1 := G1) (g2 := G2) (g3 := G3) (by simp) (by simp) (by simp) (by have := (unhide HX4).nd; simp at this; omega) (by have := (unhide HX4).nd; simp at this; omega) (by have := (unhide HX4).nd; simp at this; omega))⟩
            exact AllReadyG.nil
          exact AllReadyG.nil
        exact AllReadyG.nil
      refine AllReadyG.cons 11 (by rfl) (fun K hK => ?_) ?_
      · simp only [List.getElem_toArray, List.getElem_cons_succ, List.getElem_cons_zero]
        go_simp
        refine hK.out _ _ trivial (fun _ => ?_)
        clear hK K
        try simp only [Act.put, List.setIfInBounds_toArray, List.set_cons_zero, List.set_cons_succ]
        have HX2 := hide (unhide HX1).alloc
        obtain ⟨GA, hGA⟩ : ∃ g, wk1.heap.size = g := ⟨_, rfl⟩
        rw [hGA] at HX2
        try rw [hGA]
        clear hGA HX1
        generalize wk1.alloc (.cells #[.int .i64 0, .slice none 0 0, .slice none 0 0, .slice none 0 0] 26) = wk2 at *
        refine wpAnyG_ready [3, 6] (by kernel_rfl) (by simp) ?_
        refine AllReadyG.cons 3 (by rfl) (fun K hK => ?_) ?_
        · simp only [List.getElem_toArray, List.getElem_cons_succ, List.getElem_cons_zero]
          go_simp
          refine hK.out _ _ trivial (fun _ => ?_)
          clear hK K
          try simp only [Act.put, List.setIfInBounds_toArray, List.set_cons_zero, List.set_cons_succ]
          have HX3 := hide ((unhide HX2).make (unhide hF2 wk2) (unhide hF3 wk2))
          obtain ⟨G1, hG1⟩ : ∃ g, wk2.heap.size = g := ⟨_, rfl⟩
          rw [hG1] at HX3
          try rw [hG1]
          clear hG1 HX2
          generalize Fm wk2 = wk3 at *
          refine wpAnyG_ready [6] (by kernel_rfl) (by simp) ?_
          refine AllReadyG.cons 6 (by rfl) (fun K hK => ?_) ?_
          · simp only [List.getElem_toArray, List.getElem_cons_succ, List.getElem_cons_zero]
            go_simp
            refine hK.out _ _ trivial (fun _ => ?_)
            clear hK K
            try simp only [Act.put, List.setIfInBounds_toArray, List.set_cons_zero, List.set_cons_succ]
            have HX4 := hide ((unhide HX3).make (unhide hF2 wk3) (unhide hF3 wk3))
            obtain ⟨G2, hG2⟩ : ∃ g, wk3.heap.size = g := ⟨_, rfl⟩
            rw [hG2] at HX4
            try rw [hG2]
            clear hG2 HX3
            generalize Fm wk3 = wk4 at *
            refine wpAnyG_take (v := ?_) 10 (by rfl) (by kernel_rfl) (by kernel_rfl) (by kernel_rfl) (by kernel_rfl) (fun _ _ _ h => h) (Or.inl ⟨by rfl, ?_⟩) (by assumption) ?_
            rotate_left
            · (intro w' hSw; (try dsimp only at hSw); (try simp only [List.getElem_toArray, List.getElem_cons_succ, List.getElem_cons_zero]); go_simp; try (with_reducible rfl))
            simp only [Act.put, List.getElem_toArray, List.getElem_cons_succ, List.getElem_cons_zero, List.setIfInBounds_toArray, List.set_cons_zero, List.set_cons_succ]
            obtain ⟨z0, z1, z2, z3, k0, k1, k2, k3⟩ := obj_cells ((unhide HX4).ob GA (by simp)).1
            refine wpAnyG_ready [12] (by kernel_rfl) (by simp) ?_
            refine AllReadyG.last 12 (by rfl) (by kernel_rfl) (fun K hK => ?_) ?_
            · simp only [List.getElem_toArray, List.getElem_cons_succ, List.getElem_cons_zero]
              go_simp
              refine hK.out _ _ ?_
              clear hK K
              try simp only [Act.put, List.setIfInBounds_toArray, List.set_cons_zero, List.set_cons_succ]
              refine wpAnyG_done (by kernel_rfl) ?_ _
              refine NoPanic.normal ?_
              go_wp2
              go_meet
              exact ⟨GA, G1, G2, G3, rfl, hide ((unhide HX4).met (K := K) (g1 := G1) (g2 := G2) (g3 := G3) (by simp) (by simp) (by simp) (by have := (unhide HX4).nd; simp at this; omega) (by have := (unhide HX4).nd; simp at this; omega) (by have := (unhide HX4).nd; simp at this; omega))⟩
            exact AllReadyG.nil
          exact AllReadyG.nil
        refine AllReadyG.cons 6 (by rfl) (fun K hK => ?_) ?_
        · simp only [List.getElem_toArray, List.getElem_cons_succ, List.getElem_cons_zero]
          go_simp
          refine hK.out _ _ trivial (fun _ => ?_)
          clear hK K
          try simp only [Act.put, List.setIfInBounds_toArray, List.set_cons_zero, List.set_cons_succ]
          have HX3 := hide ((unhide HX2).make (unhide hF2 wk2) (unhide hF3 wk2))
          obtain ⟨G2, hG2⟩ : ∃ g, wk2.heap.size = g := ⟨_, rfl⟩
          rw [hG2] at HX3
          try rw [hG2]
          clear hG2 HX2
          generalize Fm wk2 = wk3 at *
          refine wpAnyG_ready [3] (by kernel_rfl) (by simp) ?_
          refine AllReadyG.cons 3 (by rfl) (fun K hK => ?_) ?_
          · simp only [List.getElem_toArray, List.getElem_cons_succ, List.getElem_cons_zero]
            go_simp
            refine hK.out _ _ trivial (fun _ => ?_)
            clear hK K
            try simp only [Act.put, List.setIfInBounds_toArray, List.set_cons_zero, List.set_cons_succ]
            have HX4 := hide ((unhide HX3).make (unhide hF2 wk3) (unhide hF3 wk3))
            obtain ⟨G1, hG1⟩ : ∃ g, wk3.heap.size = g := ⟨_, rfl⟩
            rw [hG1] at HX4
            try rw [hG1]
            clear hG1 HX3
            generalize Fm wk3 = wk4 at *
            refine wpAnyG_take (v := ?_) 10 (by rfl) (by kernel_rfl) (by kernel_rfl) (by kernel_rfl) (by kernel_rfl) (fun _ _ _ h => h) (Or.inl ⟨by rfl, ?_⟩) (by assumption) ?_
            rotate_left
            · (intro w' hSw; (try dsimp only at hSw); (try simp only [List.getElem_toArray, List.getElem_cons_succ, List.getElem_cons_zero]); go_simp; try (with_reducible rfl))
            simp only [Act.put, List.getElem_toArray, List.getElem_cons_succ, List.getElem_cons_zero, List.setIfInBounds_toArray, List.set_cons_zero, List.set_cons_succ]
            obtain ⟨z0, z1, z2, z3, k0, k1, k2, k3⟩ := obj_cells ((unhide HX4).ob GA (by simp)).1
            refine wpAnyG_ready [12] (by kernel_rfl) (by simp) ?_
            refine AllReadyG.last 12 (by rfl) (by kernel_rfl) (fun K hK => ?_) ?_
            · simp only [List.getElem_toArray, List.getElem_cons_succ, List.getElem_cons_zero]
              go_simp
              refine hK.out _ _ ?_
              clear hK K
              try simp only [Act.put, List.setIfInBounds_toArray, List.set_cons_zero, List.set_cons_succ]
              refine wpAnyG_done (by kernel_rfl) ?_ _
              refine NoPanic.normal ?_
              go_wp2
              go_meet
              exact ⟨GA, G1, G2, G3, rfl, hide ((unhide HX4).met (K := K) (g1 := G1) (g2 := G2) (g3 := G3) (by simp) (by simp) (by simp) (by have := (unhide HX4).nd; simp at this; omega) (by have := (unhide HX4).nd; simp at this; omega) (by have := (unhide HX4).nd; simp at this; omega))⟩
            exact AllReadyG.nil
          exact AllReadyG.nil
        exact AllReadyG.nil
      exact AllReadyG.nil
    refine AllReadyG.cons 11 (by rfl) (fun K hK => ?_) ?_
    · simp only [List.getElem_toArray, List.getElem_cons_succ, List.getElem_cons_zero]
      go_simp
      refine hK.out _ _ trivial (fun _ => ?_)
      clear hK K
      try simp only [Act.put, List.setIfInBounds_toArray, List.set_cons_zero, List.set_cons_succ]
      have HX1 := hide (unhide HX0).alloc
      obtain ⟨GA, hGA⟩ : ∃ g, w0q.heap.size = g := ⟨_, rfl⟩
      rw [hGA] at HX1
      try rw [hGA]
      clear hGA HX0
      generalize w0q.alloc (.cells #[.int .i64 0, .slice none 0 0, .slice none 0 0, .slice none 0 0] 26) = wk1 at *
      refine wpAnyG_ready [3, 6, 9] (by kernel_rfl) (by simp) ?_
      refine AllReadyG.cons 3 (by rfl) (fun K hK => ?_) ?_
      · simp only [List.getElem_toArray, List.getElem_cons_succ, List.getElem_cons_zero]
        go_simp
        refine hK.out _ _ trivial (fun _ => ?_)
        clear hK K
        try simp only [Act.put, List.setIfInBounds_toArray, List.set_cons_zero, List.set_cons_succ]
        have HX2 := hide ((unhide HX1).make (unhide hF2 wk1) (unhide hF3 wk1))
        obtain ⟨G1, hG1⟩ : ∃ g, wk1.heap.size = g := ⟨_, rfl⟩
        rw [hG1] at HX2
        try rw [hG1]
        clear hG1 HX1
        generalize Fm wk1 = wk2 at *
        refine wpAnyG_ready [6, 9] (by kernel_rfl) (by simp) ?_
        refine AllReadyG.cons 6 (by rfl) (fun K hK => ?_) ?_
        · simp only [List.getElem_toArray, List.getElem_cons_succ, List.getElem_cons_zero]
          go_simp
          refine hK.out _ _ trivial (fun _ => ?_)
          clear hK K
          try simp only [Act.put, List.setIfInBounds_toArray, List.set_cons_zero, List.set_cons_succ]
          have HX3 := hide ((unhide HX2).make (unhide hF2 wk2) (unhide hF3 wk2))
          obtain ⟨G2, hG2⟩ : ∃ g, wk2.heap.size = g := ⟨_, rfl⟩
          rw [hG2] at HX3
          try rw [hG2]
          clear hG2 HX2
          generalize Fm wk2 = wk3 at *
          refine wpAnyG_ready [9] (by kernel_rfl) (by simp) ?_
          refine AllReadyG.cons 9 (by rfl) (fun K hK => ?_) ?_
          · simp only [List.getElem_toArray, List.getElem_cons_succ, List.getElem_cons_zero]
            go_simp
            refine hK.out _ _ trivial (fun _ => ?_)
            clear hK K
            try simp only [Act.put, List.setIfInBounds_toArray, List.set_cons_zero, List.set_cons_succ]
            have HX4 := hide ((unhide HX3).make (unhide hF2 wk3) (unhide hF3 wk3))
            obtain ⟨G3, hG3⟩ : ∃ g, wk3.heap.size = g := ⟨_, rfl⟩
            rw [hG3] at HX4
            try rw [hG3]
            clear hG3 HX3
            generalize Fm wk3 = wk4 at *
            refine wpAnyG_take (v := ?_) 10 (by rfl) (by kernel_rfl) (by kernel_rfl) (by kernel_rfl) (by kernel_rfl) (fun _ _ _ h => h) (Or.inl ⟨by rfl, ?_⟩) (by assumption) ?_
            rotate_left
            · (intro w' hSw; (try dsimp only at hSw); (try simp only [List.getElem_toArray, List.getElem_cons_succ, List.getElem_cons_zero]); go_simp; try (with_reducible rfl))
            simp only [Act.put, List.getElem_toArray, List.getElem_cons_succ, List.getElem_cons_zero, List.setIfInBounds_toArray, List.set_cons_zero, List.set_cons_succ]
            obtain ⟨z0, z1, z2, z3, k0, k1, k2, k3⟩ := obj_cells ((unhide HX4).ob GA (by simp)).1
            refine wpAnyG_ready [12] (by kernel_rfl) (by simp) ?_
            refine AllReadyG.last 12 (by rfl) (by kernel_rfl) (fun K hK => ?_) ?_
            · simp only [List.getElem_toArray, List.getElem_cons_succ, List.getElem_cons_zero]
              go_simp
              refine hK.out _ _ ?_
              clear hK K
              try simp only [Act.put, List.setIfInBounds_toArray, List.set_cons_zero, List.set_cons_succ]
              refine wpAnyG_done (by kernel_rfl) ?_ _
              refine NoPanic.normal ?_
              go_wp2
              go_meet
              exact ⟨GA, G1, G2, G3, rfl, hide ((unhide HX4).met (K := K) (g1 := G1) (g2 := G2) (g3 := G3) (by simp) (by simp) (by simp) (by have := (unhide HX4).nd; simp at this; omega) (by have := (unhide HX4).nd; simp at this; omega) (by have := (unhide HX4).nd; simp at this; omega))⟩
            exact AllReadyG.nil
          exact AllReadyG.nil
        refine AllReadyG.cons 9 (by rfl) (fun K hK => ?_) ?_
        · simp only [List.getElem_toArray, List.getElem_cons_succ, List.getElem_cons_zero]
          go_simp
          refine hK.out _ _ trivial (fun _ => ?_)
          clear hK K
          try simp only [Act.put, List.setIfInBounds_toArray, List.set_cons_zero, List.set_cons_succ]
          have HX3 := hide ((unhide HX2).make (unhide hF2 wk2) (unhide hF3 wk2))
          obtain ⟨G3, hG3⟩ : ∃ g, wk2.heap.size = g := ⟨_, rfl⟩
          rw [hG3] at HX3
          try rw [hG3]
          clear hG3 HX2
          generalize Fm wk2 = wk3 at *
          refine wpAnyG_ready [6] (by kernel_rfl) (by simp) ?_
          refine AllReadyG.cons 6 (by rfl) (fun K hK => ?_) ?_
          · simp only [List.getElem_toArray, List.getElem_cons_succ, List.getElem_cons_zero]
            go_simp
            refine hK.out _ _ trivial (fun _ => ?_)
            clear hK K
            try simp only [Act.put, List.setIfInBounds_toArray, List.set_cons_zero, List.set_cons_succ]
            have HX4 := hide ((unhide HX3).make (unhide hF2 wk3) (unhide hF3 wk3))
            obtain ⟨G2, hG2⟩ : ∃ g, wk3.heap.size = g := ⟨_, rfl⟩
            rw [hG2] at HX4
            try rw [hG2]
            clear hG2 HX3
            generalize Fm wk3 = wk4 at *
            refine wpAnyG_take (v := ?_) 10 (by rfl) (by kernel_rfl) (by kernel_rfl) (by kernel_rfl) (by kernel_rfl) (fun _ _ _ h => h) (Or.inl ⟨by rfl, ?_⟩) (by assumption) ?_
            rotate_left
            · (intro w' hSw; (try dsimp only at hSw); (try simp only [List.getElem_toArray, List.getElem_cons_succ, List.getElem_cons_zero]); go_simp; try (with_reducible rfl))
            simp only [Act.put, List.getElem_toArray, List.getElem_cons_succ, List.getElem_cons_zero, List.setIfInBounds_toArray, List.set_cons_zero, List.set_cons_succ]
            obtain ⟨z0, z1, z2, z3, k0, k1, k2, k3⟩ := obj_cells ((unhide HX4).ob GA (by simp)).1
            refine wpAnyG_ready [12] (by kernel_rfl) (by simp) ?_
            refine AllReadyG.last 12 (by rfl) (by kernel_rfl) (fun K hK => ?_) ?_
            · simp only [List.getElem_toArray, List.getElem_cons_succ, List.getElem_cons_zero]
              go_simp
              refine hK.out _ _ ?_
              clear hK K
              try simp only [Act.put, List.setIfInBounds_toArray, List.set_cons_zero, List.set_cons_succ]
              refine wpAnyG_done (by kernel_rfl) ?_ _
              refine NoPanic.normal ?_
              go_wp2
              go_meet
              exact ⟨GA, G1, G2, G3, rfl, hide ((unhide HX4).met (K := K) (g1 := G1) (g2 := G2) (g3 := G3) (by simp) (by simp) (by simp) (by have := (unhide HX4).nd; simp at this; omega) (by have := (unhide HX4).nd; simp at this; omega) (by have := (unhide HX4).nd; simp at this; omega))⟩
            exact AllReadyG.nil
          exact AllReadyG.nil
        exact AllReadyG.nil
      refine AllReadyG.cons 6 (by rfl) (fun K hK => ?_) ?_
      · simp only [List.getElem_toArray, List.getElem_cons_succ, List.getElem_cons_zero]
        go_simp
        refine hK.out _ _ trivial (fun _ => ?_)
        clear hK K
        try simp only [Act.put, List.setIfInBounds_toArray, List.set_cons_zero, List.set_cons_succ]
        have HX2 := hide ((unhide HX1).make (unhide hF2 wk1) (unhide hF3 wk1))
        obtain ⟨G2, hG2⟩ : ∃ g, wk1.heap.size = g := ⟨_, rfl⟩
        rw [hG2] at HX2
        try rw [hG2]
        clear hG2 HX1
        generalize Fm wk1 = wk2 at *
        refine wpAnyG_ready [3, 9] (by kernel_rfl) (by simp) ?_
        refine AllReadyG.cons 3 (by rfl) (fun K hK => ?_) ?_
        · simp only [List.getElem_toArray, List.getElem_cons_succ, List.getElem_cons_zero]
          go_simp
          refine hK.out _ _ trivial (fun _ => ?_)
          clear hK K
          try simp only [Act.put, List.setIfInBounds_toArray, List.set_cons_zero, List.set_cons_succ]
          have HX3 := hide ((unhide HX2).make (unhide hF2 wk2) (unhide hF3 wk2))
          obtain ⟨G1, hG1⟩ : ∃ g, wk2.heap.size = g := ⟨_, rfl⟩
          rw [hG1] at HX3
          try rw [hG1]
          clear hG1 HX2
          generalize Fm wk2 = wk3 at *
          refine wpAnyG_ready [9] (by kernel_rfl) (by simp) ?_
          refine AllReadyG.cons 9 (by rfl) (fun K hK => ?_) ?_
          · simp only [List.getElem_toArray, List.getElem_cons_succ, List.getElem_cons_zero]
            go_simp
            refine hK.out _ _ trivial (fun _ => ?_)
            clear hK K
            try simp only [Act.put, List.setIfInBounds_toArray, List.set_cons_zero, List.set_cons_succ]
            have HX4 := hide ((unhide HX3).make (unhide hF2 wk3) (unhide hF3 wk3))
            obtain ⟨G3, hG3⟩ : ∃ g, wk3.heap.size = g := ⟨_, rfl⟩
            rw [hG3] at HX4
            try rw [hG3]
            clear hG3 HX3
            generalize Fm wk3 = wk4 at *
            refine wpAnyG_take (v := ?_) 10 (by rfl) (by kernel_rfl) (by kernel_rfl) (by kernel_rfl) (by kernel_rfl) (fun _ _ _ h => h) (Or.inl ⟨by rfl, ?_⟩) (by assumption) ?_
            rotate_left
            · (intro w' hSw; (try dsimp only at hSw); (try simp only [List.getElem_toArray, List.getElem_cons_succ, List.getElem_cons_zero]); go_simp; try (with_reducible rfl))
            simp only [Act.put, List.getElem_toArray, List.getElem_cons_succ, List.getElem_cons_zero, List.setIfInBounds_toArray, List.set_cons_zero, List.set_cons_succ]
            obtain ⟨z0, z1, z2, z3, k0, k1, k2, k3⟩ := obj_cells ((unhide HX4).ob GA (by simp)).1
            refine wpAnyG_ready [12] (by kernel_rfl) (by simp) ?_
            refine AllReadyG.last 12 (by rfl) (by kernel_rfl) (fun K hK => ?_) ?_
            · simp only [List.getElem_toArray, List.getElem_cons_succ, List.getElem_cons_zero]
              go_simp
              refine hK.out _ _ ?_
              clear hK K
              try simp only [Act.put, List.setIfInBounds_toArray, List.set_cons_zero, List.set_cons_succ]
              refine wpAnyG_done (by kernel_rfl) ?_ _
              refine NoPanic.normal ?_
              go_wp2
              go_meet
              exact ⟨GA, G1, G2, G3, rfl, hide ((unhide HX4).met (K := K) (g1 := G1) (g2 := G2) (g3 := G3) (by simp) (by simp) (by simp) (by have := (unhide HX4).nd; simp at this; omega) (by have := (unhide HX4).nd; simp at this; omega) (by have := (unhide HX4).nd; simp at this; omega))⟩
            exact AllReadyG.nil
          exact AllReadyG.nil
        refine AllReadyG.cons 9 (by rfl) (fun K hK => ?_) ?_
        · simp only [List.getElem_toArray, List.getElem_cons_succ, List.getElem_cons_zero]
          go_simp
          refine hK.out _ _ trivial (fun _ => ?_)
          clear hK K
          try simp only [Act.put, List.setIfInBounds_toArray, List.set_cons_zero, List.set_cons_succ]
          have HX3 := hide ((unhide HX2).make (unhide hF2 wk2) (unhide hF3 wk2))
          obtain ⟨G3, hG3⟩ : ∃ g, wk2.heap.size = g := ⟨_, rfl⟩
          rw [hG3] at HX3
          try rw [hG3]
          clear hG3 HX2
          generalize Fm wk2 = wk3 at *
          refine wpAnyG_ready [3] (by kernel_rfl) (by simp) ?_
          refine AllReadyG.cons 3 (by rfl) (fun K hK => ?_) ?_
          · simp only [List.getElem_toArray, List.getElem_cons_succ, List.getElem_cons_zero]
            go_simp
            refine hK.out _ _ trivial (fun _ => ?_)
            clear hK K
            try simp only [Act.put, List.setIfInBounds_toArray, List.set_cons_zero, List.set_cons_succ]
            have HX4 := hide ((unhide HX3).make (unhide hF2 wk3) (unhide hF3 wk3))
            obtain ⟨G1, hG1⟩ : ∃ g, wk3.heap.size = g := ⟨_, rfl⟩
            rw [hG1] at HX4
            try rw [hG1]
            clear hG1 HX3
            generalize Fm wk3 = wk4 at *
            refine wpAnyG_take (v := ?_) 10 (by rfl) (by kernel_rfl) (by kernel_rfl) (by kernel_rfl) (by kernel_rfl) (fun _ _ _ h => h) (Or.inl ⟨by rfl, ?_⟩) (by assumption) ?_
            rotate_left
            · (intro w' hSw; (try dsimp only at hSw); (try simp only [List.getElem_toArray, List.getElem_cons_succ, List.getElem_cons_zero]); go_simp; try (with_reducible rfl))
            simp only [Act.put, List.getElem_toArray, List.getElem_cons_succ, List.getElem_cons_zero, List.setIfInBounds_toArray, List.set_cons_zero, List.set_cons_succ]
            obtain ⟨z0, z1, z2, z3, k0, k1, k2, k3⟩ := obj_cells ((unhide HX4).ob GA (by simp)).1
            refine wpAnyG_ready [12] (by kernel_rfl) (by simp) ?_
            refine AllReadyG.last 12 (by rfl) (by kernel_rfl) (fun K hK => ?_) ?_
            · simp only [List.getElem_toArray, List.getElem_cons_succ, List.getElem_cons_zero]
              go_simp
              refine hK.out _ _ ?_
              clear hK K
              try simp only [Act.put, List.setIfInBounds_toArray, List.set_cons_zero, List.set_cons_succ]
              refine wpAnyG_done (by kernel_rfl) ?_ _
              refine NoPanic.normal ?_
              go_wp2
              go_meet
              exact ⟨GA, G1, G2, G3, rfl, hide ((unhide HX4).met (K := K) (g1 := G1) (g2 := G2) (g3 := G3) (by simp) (by simp) (by simp) (by have := (unhide HX4).nd; simp at this; omega) (by have := (unhide HX4).nd; simp at this; omega) (by have := (unhide HX4).nd; simp at this; omega))⟩
            exact AllReadyG.nil
          exact AllReadyG.nil
        exact AllReadyG.nil
      refine AllReadyG.cons 9 (by rfl) (fun K hK => ?_) ?_
      · simp only [List.getElem_toArray, List.getElem_cons_succ, List.getElem_cons_zero]
        go_simp
        refine hK.out _ _ trivial (fun _ => ?_)
        clear hK K
        try simp only [Act.put, List.setIfInBounds_toArray, List.set_cons_zero, List.set_cons_succ]
        have HX2 := hide ((unhide HX1).make (unhide hF2 wk1) (unhide hF3 wk1))
        obtain ⟨G3, hG3⟩ : ∃ g, wk1.heap.size = g := ⟨_, rfl⟩
        rw [hG3] at HX2
        try rw [hG3]
        clear hG3 HX1
        generalize Fm wk1 = wk2 at *
        refine wpAnyG_ready [3, 6] (by kernel_rfl) (by simp) ?_
        refine AllReadyG.cons 3 (by rfl) (fun K hK => ?_) ?_
        · simp only [List.getElem_toArray, List.getElem_cons_succ, List.getElem_cons_zero]
          go_simp
          refine hK.out _ _ trivial (fun _ => ?_)
          clear hK K
          try simp only [Act.put, List.setIfInBounds_toArray, List.set_cons_zero, List.set_cons_succ]
          have HX3 := hide ((unhide HX2).make (unhide hF2 wk2) (unhide hF3 wk2))
          obtain ⟨G1, hG1⟩ : ∃ g, wk2.heap.size = g := ⟨_, rfl⟩
          rw [hG1] at HX3
          try rw [hG1]
          clear hG1 HX2
          generalize Fm wk2 = wk3 at *
          refine wpAnyG_ready [6] (by kernel_rfl) (by simp) ?_
          refine AllReadyG.cons 6 (by rfl) (fun K hK => ?_) ?_
          · simp only [List.getElem_toArray, List.getElem_cons_succ, List.getElem_cons_zero]
            go_simp
            refine hK.out _ _ trivial (fun _ => ?_)
            clear hK K
            try simp only [Act.put, List.setIfInBounds_toArray, List.set_cons_zero, List.set_cons_succ]
            have HX4 := hide ((unhide HX3).make (unhide hF2 wk3) (unhide hF3 wk3))
            obtain ⟨G2, hG2⟩ : ∃ g, wk3.heap.size = g := ⟨_, rfl⟩
            rw [hG2] at HX4
            try rw [hG2]
            clear hG2 HX3
            generalize Fm wk3 = wk4 at *
            refine wpAnyG_take (v := ?_) 10 (by rfl) (by kernel_rfl) (by kernel_rfl) (by kernel_rfl) (by kernel_rfl) (fun _ _ _ h => h) (Or.inl ⟨by rfl, ?_⟩) (by assumption) ?_
            rotate_left
            · (intro w' hSw; (try dsimp only at hSw); (try simp only [List.getElem_toArray, List.getElem_cons_succ, List.getElem_cons_zero]); go_simp; try (with_reducible rfl))
            simp only [Act.put, List.getElem_toArray, List.getElem_cons_succ, List.getElem_cons_zero, List.setIfInBounds_toArray, List.set_cons_zero, List.set_cons_succ]
            obtain ⟨z0, z1, z2, z3, k0, k1, k2, k3⟩ := obj_cells ((unhide HX4).ob GA (by simp)).1
            refine wpAnyG_ready [12] (by kernel_rfl) (by simp) ?_
            refine AllReadyG.last 12 (by rfl) (by kernel_rfl) (fun K hK => ?_) ?_
            · simp only [List.getElem_toArray, List.getElem_cons_succ, List.getElem_cons_zero]
              go_simp
              refine hK.out _ _ ?_
              clear hK K
              try simp only [Act.put, List.setIfInBounds_toArray, List.set_cons_zero, List.set_cons_succ]
              refine wpAnyG_done (by kernel_rfl) ?_ _
              refine NoPanic.normal ?_
              go_wp2
              go_meet
              exact ⟨GA, G1, G2, G3, rfl, hide ((unhide HX4).met (K := K) (g1 := G1) (g2 := G2) (g3 := G3) (by simp) (by simp) (by simp) (by have := (unhide HX4).nd; simp at this; omega) (by have := (unhide HX4).nd; simp at this; omega) (by have := (unhide HX4).nd; simp at this; omega))⟩
            exact AllReadyG.nil
          exact AllReadyG.nil
        refine AllReadyG.cons 6 (by rfl) (fun K hK => ?_) ?_
        · simp only [List.getElem_toArray, List.getElem_cons_succ, List.getElem_cons_zero]
          go_simp
          refine hK.out _ _ trivial (fun _ => ?_)
          clear hK K
          try simp only [Act.put, List.setIfInBounds_toArray, List.set_cons_zero, List.set_cons_succ]
          have HX3 := hide ((unhide HX2).make (unhide hF2 wk2) (unhide hF3 wk2))
          obtain ⟨G2, hG2⟩ : ∃ g, wk2.heap.size = g := ⟨_, rfl⟩
          rw [hG2] at HX3
          try rw [hG2]
          clear hG2 HX2
          generalize Fm wk2 = wk3 at *
          refine wpAnyG_ready [3] (by kernel_rfl) (by simp) ?_
          refine AllReadyG.cons 3 (by rfl) (fun K hK => ?_) ?_
          · simp only [List.getElem_toArray, List.getElem_cons_succ, List.getElem_cons_zero]
            go_simp
            refine hK.out _ _ trivial (fun _ => ?_)
            clear hK K
            try simp only [Act.put, List.setIfInBounds_toArray, List.set_cons_zero, List.set_cons_succ]
            have HX4 := hide ((unhide HX3).make (unhide hF2 wk3) (unhide hF3 wk3))
            obtain ⟨G1, hG1⟩ : ∃ g, wk3.heap.size = g := ⟨_, rfl⟩
            rw [hG1] at HX4
            try rw [hG1]
            clear hG1 HX3
            generalize Fm wk3 = wk4 at *
            refine wpAnyG_take (v := ?_) 10 (by rfl) (by kernel_rfl) (by kernel_rfl) (by kernel_rfl) (by kernel_rfl) (fun _ _ _ h => h) (Or.inl ⟨by rfl, ?_⟩) (by assumption) ?_
            rotate_left
            · (intro w' hSw; (try dsimp only at hSw); (try simp only [List.getElem_toArray, List.getElem_cons_succ, List.getElem_cons_zero]); go_simp; try (with_reducible rfl))
            simp only [Act.put, List.getElem_toArray, List.getElem_cons_succ, List.getElem_cons_zero, List.setIfInBounds_toArray, List.set_cons_zero, List.set_cons_succ]
            obtain ⟨z0, z1, z2, z3, k0, k1, k2, k3⟩ := obj_cells ((unhide HX4).ob GA (by simp)).1
            refine wpAnyG_ready [12] (by kernel_rfl) (by simp) ?_
            refine AllReadyG.last 12 (by rfl) (by kernel_rfl) (fun K hK => ?_) ?_
            · simp only [List.getElem_toArray, List.getElem_cons_succ, List.getElem_cons_zero]
              go_simp
              refine hK.out _ _ ?_
              clear hK K
              try simp only [Act.put, List.setIfInBounds_toArray, List.set_cons_zero, List.set_cons_succ]
              refine wpAnyG_done (by kernel_rfl) ?_ _
              refine NoPanic.normal ?_
              go_wp2
              go_meet
              exact ⟨GA, G1, G2, G3, rfl, hide ((unhide HX4).met (K := K) (g1 := G1) (g2 := G2) (g3 := G3) (by simp) (by simp) (by simp) (by have := (unhide HX4).nd; simp at this; omega) (by have := (unhide HX4).nd; simp at this; omega) (by have := (unhide HX4).nd; simp at this; omega))⟩
            exact AllReadyG.nil
          exact AllReadyG.nil
        exact AllReadyG.nil
      exact AllReadyG.nil
    exact AllReadyG.nil
  case rest =>
    obtain ⟨wP, rfl⟩ : ∃ wP, wP = wc := ⟨_, rfl⟩
    obtain ⟨g, g1, g2, g3, rfl, HK0⟩ := hcut
    have HK1 : Hid (KnAt w2.heap.size w0q g g1 g2 g3 K M wP (Sp.knT K 0) (Sp.knX K 0) (Sp.knCp K c9 0)) := hide (by
      have h := unhide HK0
      rw [← unhide HM] at h ⊢
      exact h)
    clear HK0 hF1 hF2 hF3 Hb2 HW0
    go_wp2
    go_loopg [11] K (fun gg s11 wr => ∃ e : Nat, e + gg = K ∧ s11 = .int .i64 (e : Int) ∧ Hid (KnAt w2.heap.size w0q g g1 g2 g3 K M wr (Sp.knT K e) (Sp.knX K 0) (Sp.knCp K c9 e)))
    case atStart => exact ⟨0, by omega, rfl, HK1⟩
    case round =>
      clear HK1
      obtain ⟨e, heg, rfl, HI⟩ := hrel
      cases gk with
      | succ g' =>
        have heK : e < K := by omega
        have heI : (e : Int) < (K : Int) := by omega
        obtain ⟨a, ha⟩ : ∃ a, 2 * e = a := ⟨_, rfl⟩
        obtain ⟨b, hb⟩ : ∃ b, a + 1 = b := ⟨_, rfl⟩
        obtain ⟨y, hy⟩ : ∃ y, (e + 1) % K = y := ⟨_, rfl⟩
        have haw : IntKind.i64.wrap (2 * (e : Int)) = (a : Int) := by rw [IntKind.wrap_i64]; omega
        have hbw : IntKind.i64.wrap ((a : Int) + 1) = (b : Int) := by rw [IntKind.wrap_i64]; omega
        have hew : IntKind.i64.wrap ((e : Int) + 1) = ((e + 1 : Nat) : Int) := by rw [IntKind.wrap_i64]; omega
        have hrm : ((e + 1 : Nat) : Int).tmod (K : Int) = (y : Int) := by rw [Int.tmod_eq_emod_of_nonneg (by omega), ← hy]; omega
        have hMM := unhide HM
        have hK0 : ¬ (K : Int) = 0 := by omega
        have hK0N : ¬ K = 0 := by omega
        have hK0b : ((K : Int) == 0) = false := beq_eq_false_iff_ne.2 hK0
        obtain ⟨e1, he1⟩ : ∃ e1, e + 1 = e1 := ⟨_, rfl⟩
        rw [he1] at hew hrm
        have HE1 := hide he1
        have hyl : y < K := by rw [← hy]; exact Nat.mod_lt _ (by omega)
        have hyw : IntKind.i64.wrap (y : Int) = (y : Int) := by rw [IntKind.wrap_i64]; omega
        have haM : a < M := by omega
        have hbM : b < M := by omega
        have haI : (a : Int) < (M : Int) := by omega
        have hbI : (b : Int) < (M : Int) := by omega
        have hkw := (unhide HI).below (Below.refl _ wr).drew
        obtain ⟨x0, x1, x2, x3, -⟩ := obj_cells hkw.ob
        have hTl : (Sp.knT K e).length = M := by rw [Sp.knT_len]; exact hMM
        have hZl : Hid ((Sp.knCp K c9 e).length = M) := hide (by rw [Sp.knCp_len]; exact hMM)
        have c1 := own_getD9 hkw.o1 a (by omega)
        have f1 := own_frozen hkw.o1 a
        have hk1 := fun v => hkw.setT a v
        have hk2 := fun v v' => (hkw.setT a v).setT b v'
        have cc2 : ∀ v : Value, ∃ z, (wr.drew.setCell ⟨g1, a, none⟩ v).cell? ⟨g1, b, none⟩ = some z := fun v => cell?_setCell_some (own_getD9 hkw.o1 b (by omega))
        have ff2 : ∀ v : Value, (wr.drew.setCell ⟨g1, a, none⟩ v).frozen? ⟨g1, b, none⟩ = false := fun v => by have := own_frozen hkw.o1 b; simpa using this
        have HKn : Hid (KnAt w2.heap.size w0q g g1 g2 g3 K M ((wr.drew.setCell ⟨g1, a, none⟩ (.int .i64 (e : Int))).setCell ⟨g1, b, none⟩ (.int .i64 (y : Int))) (Sp.knT K (e + 1)) (Sp.knX K 0) (Sp.knCp K c9 e)) := hide (by
          have h := hk2 (e : Int) (y : Int)
          rw [Sp.knT, ha, hb, hy]
          exact h)
        have Ha := hide ha
        have Hb := hide hb
        clear hMM ha hb hy he1 hkw HI hK0 hTl
        go_upto_region 8 with fail
        refine wp_region_G (fun w' => w'.cell? ⟨g, 0, none⟩ = some (.int .i64 (K : Int)) ∧ w'.cell? ⟨g, 1, none⟩ = some (.slice (some ⟨g1, 0, none⟩) M M) ∧ w'.cell? ⟨g, 2, none⟩ = some (.slice (some ⟨g2, 0, none⟩) M M) ∧ w'.cell? ⟨g, 3, none⟩ = some (.slice (some ⟨g3, 0, none⟩) M M)) (fun _ => false) (by kernel_rfl) ⟨x0, x1, x2, x3⟩ (fun hHeld => ?_)
        generalize wr.drew = wD at *
        refine wpAnyG_take (v := ?_) 0 (by rfl) (by kernel_rfl) (by kernel_rfl) (by kernel_rfl) (by kernel_rfl) (fun _ _ _ h => h) (Or.inl ⟨by rfl, ?_⟩) (by assumption) ?_
        rotate_left
        · (intro w' hSw; (try dsimp only at hSw); (try simp only [List.getElem_toArray, List.getElem_cons_zero]); go_simp; try (with_reducible rfl))
        simp only [Act.put, List.getElem_toArray, List.getElem_cons_zero, List.setIfInBounds_toArray, List.set_cons_zero, List.set_cons_succ]
        refine wpAnyG_take (v := ?_) 1 (by rfl) (by kernel_rfl) (by kernel_rfl) (by kernel_rfl) (by kernel_rfl) (fun _ _ _ h => h) (Or.inl ⟨by rfl, ?_⟩) (by assumption) ?_
        rotate_left
        · (intro w' hSw; (try dsimp only at hSw); (try simp only [List.getElem_toArray, List.getElem_cons_succ, List.getElem_cons_zero]); go_simp; try (with_reducible rfl))
        simp only [Act.put, List.getElem_toArray, List.getElem_cons_succ, List.getElem_cons_zero, List.setIfInBounds_toArray, List.set_cons_zero, List.set_cons_succ]
        refine wpAnyG_take (v := ?_) 2 (by rfl) (by kernel_rfl) (by kernel_rfl) (by kernel_rfl) (by kernel_rfl) (fun _ _ _ h => h) (Or.inl ⟨by rfl, ?_⟩) (by assumption) ?_
        rotate_left
        · (intro w' hSw; (try dsimp only at hSw); (try simp only [List.getElem_toArray, List.getElem_cons_succ, List.getElem_cons_zero]); go_simp; try (with_reducible rfl))
        simp only [Act.put, List.getElem_toArray, List.getElem_cons_succ, List.getElem_cons_zero, List.setIfInBounds_toArray, List.set_cons_zero, List.set_cons_succ]
        refine wpAnyG_take (v := ?_) 3 (by rfl) (by kernel_rfl) (by kernel_rfl) (by kernel_rfl) (by kernel_rfl) (fun _ _ _ h => h) (Or.inl ⟨by rfl, ?_⟩) (by assumption) ?_
        rotate_left
        · (intro w' hSw; (try dsimp only at hSw); (try simp only [List.getElem_toArray, List.getElem_cons_succ, List.getElem_cons_zero]); go_simp; try (with_reducible rfl))
        simp only [Act.put, List.getElem_toArray, List.getElem_cons_succ, List.getElem_cons_zero, List.setIfInBounds_toArray, List.set_cons_zero, List.set_cons_succ]
        refine wpAnyG_take (v := ?_) 4 (by rfl) (by kernel_rfl) (by kernel_rfl) (by kernel_rfl) (by kernel_rfl) (fun _ _ _ h => h) (Or.inl ⟨by rfl, ?_⟩) (by assumption) ?_
        rotate_left
        · (intro w' hSw; (try dsimp only at hSw); (try simp only [List.getElem_toArray, List.getElem_cons_succ, List.getElem_cons_zero]); go_simp; try (with_reducible rfl))
        simp only [Act.put, List.getElem_toArray, List.getElem_cons_succ, List.getElem_cons_zero, List.setIfInBounds_toArray, List.set_cons_zero, List.set_cons_succ]
        refine wpAnyG_take (v := ?_) 5 (by rfl) (by kernel_rfl) (by kernel_rfl) (by kernel_rfl) (by kernel_rfl) (fun _ _ _ h => h) (Or.inl ⟨by rfl, ?_⟩) (by assumption) ?_
        rotate_left
        · (intro w' hSw; (try dsimp only at hSw); (try simp only [List.getElem_toArray, List.getElem_cons_succ, List.getElem_cons_zero]); go_simp; try (with_reducible rfl))
        simp only [Act.put, List.getElem_toArray, List.getElem_cons_succ, List.getElem_cons_zero, List.setIfInBounds_toArray, List.set_cons_zero, List.set_cons_succ]
        refine wpAnyG_take (v := ?_) 6 (by rfl) (by kernel_rfl) (by kernel_rfl) (by kernel_rfl) (by kernel_rfl) (fun _ _ _ h => h) (Or.inl ⟨by rfl, ?_⟩) (by assumption) ?_
        rotate_left
        · (intro w' hSw; (try dsimp only at hSw); (try simp only [List.getElem_toArray, List.getElem_cons_succ, List.getElem_cons_zero]); go_simp; try (with_reducible rfl))
        simp only [Act.put, List.getElem_toArray, List.getElem_cons_succ, List.getElem_cons_zero, List.setIfInBounds_toArray, List.set_cons_zero, List.set_cons_succ]
        refine wpAnyG_take (v := ?_) 7 (by rfl) (by kernel_rfl) (by kernel_rfl) (by kernel_rfl) (by kernel_rfl) (fun _ _ _ h => h) (Or.inl ⟨by rfl, ?_⟩) (by assumption) ?_
        rotate_left
        · (intro w' hSw; (try dsimp only at hSw); (try simp only [List.getElem_toArray, List.getElem_cons_succ, List.getElem_cons_zero]); go_simp; try (with_reducible rfl))
        simp only [Act.put, List.getElem_toArray, List.getElem_cons_succ, List.getElem_cons_zero, List.setIfInBounds_toArray, List.set_cons_zero, List.set_cons_succ]
        refine wpAnyG_take (v := ?_) 8 (by rfl) (by kernel_rfl) (by kernel_rfl) (by kernel_rfl) (by kernel_rfl) (fun _ _ _ h => h) (Or.inl ⟨by rfl, ?_⟩) (by assumption) ?_
        rotate_left
        · (intro w' hSw; (try dsimp only at hSw); (try simp only [List.getElem_toArray, List.getElem_cons_succ, List.getElem_cons_zero]); go_simp; try (with_reducible rfl))
        simp only [Act.put, List.getElem_toArray, List.getElem_cons_succ, List.getElem_cons_zero, List.setIfInBounds_toArray, List.set_cons_zero, List.set_cons_succ]
        refine wpAnyG_take (v := ?_) 9 (by rfl) (by kernel_rfl) (by kernel_rfl) (by kernel_rfl) (by kernel_rfl) (fun _ _ _ h => h) (Or.inl ⟨by rfl, ?_⟩) (by assumption) ?_
        rotate_left
        · (intro w' hSw; (try dsimp only at hSw); (try simp only [List.getElem_toArray, List.getElem_cons_succ, List.getElem_cons_zero]); go_simp; try (with_reducible rfl))
        simp only [Act.put, List.getElem_toArray, List.getElem_cons_succ, List.getElem_cons_zero, List.setIfInBounds_toArray, List.set_cons_zero, List.set_cons_succ]
        refine wpAnyG_take (v := ?_) 10 (by rfl) (by kernel_rfl) (by kernel_rfl) (by kernel_rfl) (by kernel_rfl) (fun _ _ _ h => h) (Or.inl ⟨by rfl, ?_⟩) (by assumption) ?_
        rotate_left
        · (intro w' hSw; (try dsimp only at hSw); (try simp only [List.getElem_toArray, List.getElem_cons_succ, List.getElem_cons_zero]); go_simp; try (with_reducible rfl))
        simp only [Act.put, List.getElem_toArray, List.getElem_cons_succ, List.getElem_cons_zero, List.setIfInBounds_toArray, List.set_cons_zero, List.set_cons_succ]
        refine wpAnyG_take (v := ?_) 11 (by rfl) (by kernel_rfl) (by kernel_rfl) (by kernel_rfl) (by kernel_rfl) (fun _ _ _ h => h) (Or.inl ⟨by rfl, ?_⟩) (by assumption) ?_
        rotate_left
        · (intro w' hSw; (try dsimp only at hSw); (try simp only [List.getElem_toArray, List.getElem_cons_succ, List.getElem_cons_zero]); go_simp; try (with_reducible rfl))
        simp only [Act.put, List.getElem_toArray, List.getElem_cons_succ, List.getElem_cons_zero, List.setIfInBounds_toArray, List.set_cons_zero, List.set_cons_succ]
        refine wpAnyG_take (v := ?_) 12 (by rfl) (by kernel_rfl) (by kernel_rfl) (by kernel_rfl) (by kernel_rfl) (fun _ _ _ h => h) (Or.inl ⟨by rfl, ?_⟩) (by assumption) ?_
        rotate_left
        · (intro w' hSw; (try dsimp only at hSw); (try simp only [List.getElem_toArray, List.getElem_cons_succ, List.getElem_cons_zero]); go_simp; try (with_reducible rfl))
        simp only [Act.put, List.getElem_toArray, List.getElem_cons_succ, List.getElem_cons_zero, List.setIfInBounds_toArray, List.set_cons_zero, List.set_cons_succ]
        refine wpAnyG_take (v := ?_) 13 (by rfl) (by kernel_rfl) (by kernel_rfl) (by kernel_rfl) (by kernel_rfl) (fun _ _ _ h => h) (Or.inl ⟨by rfl, ?_⟩) (by assumption) ?_
        rotate_left
        · (intro w' hSw; (try dsimp only at hSw); (try simp only [List.getElem_toArray, List.getElem_cons_succ, List.getElem_cons_zero]); go_simp; try (with_reducible rfl))
        simp only [Act.put, List.getElem_toArray, List.getElem_cons_succ, List.getElem_cons_zero, List.setIfInBounds_toArray, List.set_cons_zero, List.set_cons_succ]
        refine wpAnyG_take (v := ?_) 14 (by rfl) (by kernel_rfl) (by kernel_rfl) (by kernel_rfl) (by kernel_rfl) (fun _ _ _ h => h) (Or.inl ⟨by rfl, ?_⟩) (by assumption) ?_
        rotate_left
        · (intro w' hSw; (try dsimp only at hSw); (try simp only [List.getElem_toArray, List.getElem_cons_succ, List.getElem_cons_zero]); go_simp; try (with_reducible rfl))
        simp only [Act.put, List.getElem_toArray, List.getElem_cons_succ, List.getElem_cons_zero, List.setIfInBounds_toArray, List.set_cons_zero, List.set_cons_succ]
        refine wpAnyG_ready [15] (by kernel_rfl) (by simp) ?_
        refine AllReadyG.cons 15 (by rfl) (fun K hK => ?_) ?_
        · simp only [List.getElem_toArray, List.getElem_cons_succ, List.getElem_cons_zero]
          go_simp
          refine hK.out _ _ (by obtain ⟨q0, q1, q2, q3, -⟩ := obj_cells (hk1 _).ob; exact ⟨q0, q1, q2, q3⟩) (fun _ => ?_)
          clear hK K
          try simp only [Act.put, List.setIfInBounds_toArray, List.set_cons_zero, List.set_cons_succ]
          have f2 : (wD.setCell ⟨g1, a, none⟩ (.int .i64 (e : Int))).frozen? ⟨g1, b, none⟩ = false := ff2 _
          obtain ⟨zz, c2⟩ := cc2 (.int .i64 (e : Int))
          refine wpAnyG_take (v := ?_) 16 (by rfl) (by kernel_rfl) (by kernel_rfl) (by kernel_rfl) (by kernel_rfl) (fun _ _ _ h => h) (Or.inl ⟨by rfl, ?_⟩) (by assumption) ?_
          rotate_left
          · (intro w' hSw; (try dsimp only at hSw); (try simp only [List.getElem_toArray, List.getElem_cons_succ, List.getElem_cons_zero]); go_simp; try (with_reducible rfl))
          simp only [Act.put, List.getElem_toArray, List.getElem_cons_succ, List.getElem_cons_zero, List.setIfInBounds_toArray, List.set_cons_zero, List.set_cons_succ]
          refine wpAnyG_ready [17] (by kernel_rfl) (by simp) ?_
          refine AllReadyG.cons 17 (by rfl) (fun K hK => ?_) ?_
          · simp only [List.getElem_toArray, List.getElem_cons_succ, List.getElem_cons_zero]
            go_simp
            refine hK.out _ _ (by obtain ⟨q0, q1, q2, q3, -⟩ := obj_cells (hk2 _ _).ob; exact ⟨q0, q1, q2, q3⟩) (fun _ => ?_)
            clear hK K
            try simp only [Act.put, List.setIfInBounds_toArray, List.set_cons_zero, List.set_cons_succ]
            refine wpAnyG_done (by kernel_rfl) ?_ _
            refine NoPanic.normal ?_
            obtain ⟨wB, hwB⟩ : ∃ wB, wB = (wD.setCell ⟨g1, a, none⟩ (.int .i64 (e : Int))).setCell ⟨g1, b, none⟩ (.int .i64 (y : Int)) := ⟨_, rfl⟩
            have HKB : Hid (KnAt w2.heap.size w0q g g1 g2 g3 K M wB (Sp.knT K (e + 1)) (Sp.knX K 0) (Sp.knCp K c9 e)) := hide (by rw [hwB]; exact unhide HKn)
            have HwB := hide hwB
            clear HKn hwB x0 x1 x2 x3 c1 f1 c2 f2 cc2 ff2 hk1 hk2 hHeld
            by_cases hcl : e < cs.length
            · have hclI : (e : Int) < (cs.length : Int) := by omega
              obtain ⟨xb, xo, rfl, -, hxc⟩ := (unhide HXi).at_ e hcl
              have c1 := hxc wB (unhide HB0 _ (unhide HKB).bel)
              obtain ⟨ce, hce⟩ : ∃ ce, cs.getD e 0 = ce := ⟨_, rfl⟩
              have hcv2 := unhide HC1 e hcl
              rw [hce] at c1 hcv2
              obtain ⟨cv, hcv⟩ : ∃ cv, c9 e = cv := ⟨_, rfl⟩
              rw [hcv] at hcv2
              have Hcv := hide hcv
              have HWi := hide (fun w' => within8_any ce 1000 w' (by omega) (by omega))
              rw [hcv2] at HWi
              clear hxc hce hcv hcv2
              go_upto_region 10 with fail
              rw [← unhide HwB]
              clear HwB
              go_wp2_with fail
              go_at_call 8
              refine (unhide HWi _).mono ?_
              rintro e wI ⟨rfl, hI⟩
              have hI' := hI.symm
              subst hI'
              clear hI c1 HWi
              have hkz := (unhide HKB).below (Below.refl _ wB).drew
              obtain ⟨x0, x1, x2, x3, -⟩ := obj_cells hkz.ob
              have c1 := own_getD9 hkz.o3 a (by rw [unhide hZl]; exact haM)
              have f1 := own_frozen hkz.o3 a
              have hk1 := fun v => hkz.setZ a v
              have hk2 := fun v v' => (hkz.setZ a v).setZ b v'
              have cc2 : ∀ v : Value, ∃ z, (wB.drew.setCell ⟨g3, a, none⟩ v).cell? ⟨g3, b, none⟩ = some z := fun v => cell?_setCell_some (own_getD9 hkz.o3 b (by rw [unhide hZl]; exact hbM))
              have ff2 : ∀ v : Value, (wB.drew.setCell ⟨g3, a, none⟩ v).frozen? ⟨g3, b, none⟩ = false := fun v => by have := own_frozen hkz.o3 b; simpa using this
              have HKm : Hid (KnAt w2.heap.size w0q g g1 g2 g3 K M ((wB.drew.setCell ⟨g3, a, none⟩ (.int .i64 cv)).setCell ⟨g3, b, none⟩ (.int .i64 cv)) (Sp.knT K (e + 1)) (Sp.knX K 0) (Sp.knCp K c9 (e + 1))) := hide (by
                have h := hk2 cv cv
                rw [Sp.knCp, unhide Ha, unhide Hb, unhide Hcv]
                exact h)
              clear hkz HKB
              go_upto_region 12 with fail
              refine wp_region_G (fun w' => w'.cell? ⟨g, 0, none⟩ = some (.int .i64 (K : Int)) ∧ w'.cell? ⟨g, 1, none⟩ = some (.slice (some ⟨g1, 0, none⟩) M M) ∧ w'.cell? ⟨g, 2, none⟩ = some (.slice (some ⟨g2, 0, none⟩) M M) ∧ w'.cell? ⟨g, 3, none⟩ = some (.slice (some ⟨g3, 0, none⟩) M M)) (fun _ => false) (by kernel_rfl) ⟨x0, x1, x2, x3⟩ (fun hHeld => ?_)
              generalize wB.drew = wE at *
              refine wpAnyG_take (v := ?_) 0 (by rfl) (by kernel_rfl) (by kernel_rfl) (by kernel_rfl) (by kernel_rfl) (fun _ _ _ h => h) (Or.inl ⟨by rfl, ?_⟩) (by assumption) ?_
              rotate_left
              · (intro w' hSw; (try dsimp only at hSw); (try simp only [List.getElem_toArray, List.getElem_cons_zero]); go_simp; try (with_reducible rfl))
              simp only [Act.put, List.getElem_toArray, List.getElem_cons_zero, List.setIfInBounds_toArray, List.set_cons_zero, List.set_cons_succ]
              refine wpAnyG_take (v := ?_) 1 (by rfl) (by kernel_rfl) (by kernel_rfl) (by kernel_rfl) (by kernel_rfl) (fun _ _ _ h => h) (Or.inl ⟨by rfl, ?_⟩) (by assumption) ?_
              rotate_left
              · (intro w' hSw; (try dsimp only at hSw); (try simp only [List.getElem_toArray, List.getElem_cons_succ, List.getElem_cons_zero]); go_simp; try (with_reducible rfl))
              simp only [Act.put, List.getElem_toArray, List.getElem_cons_succ, List.getElem_cons_zero, List.setIfInBounds_toArray, List.set_cons_zero, List.set_cons_succ]
              refine wpAnyG_take (v := ?_) 2 (by rfl) (by kernel_rfl) (by kernel_rfl) (by kernel_rfl) (by kernel_rfl) (fun _ _ _ h => h) (Or.inl ⟨by rfl, ?_⟩) (by assumption) ?_
              rotate_left
              · (intro w' hSw; (try dsimp only at hSw); (try simp only [List.getElem_toArray, List.getElem_cons_succ, List.getElem_cons_zero]); go_simp; try (with_reducible rfl))
              simp only [Act.put, List.getElem_toArray, List.getElem_cons_succ, List.getElem_cons_zero, List.setIfInBounds_toArray, List.set_cons_zero, List.set_cons_succ]
              refine wpAnyG_take (v := ?_) 3 (by rfl) (by kernel_rfl) (by kernel_rfl) (by kernel_rfl) (by kernel_rfl) (fun _ _ _ h => h) (Or.inl ⟨by rfl, ?_⟩) (by assumption) ?_
              rotate_left
              · (intro w' hSw; (try dsimp only at hSw); (try simp only [List.getElem_toArray, List.getElem_cons_succ, List.getElem_cons_zero]); go_simp; try (with_reducible rfl))
              simp only [Act.put, List.getElem_toArray, List.getElem_cons_succ, List.getElem_cons_zero, List.setIfInBounds_toArray, List.set_cons_zero, List.set_cons_succ]
              refine wpAnyG_take (v := ?_) 4 (by rfl) (by kernel_rfl) (by kernel_rfl) (by kernel_rfl) (by kernel_rfl) (fun _ _ _ h => h) (Or.inl ⟨by rfl, ?_⟩) (by assumption) ?_
              rotate_left
              · (intro w' hSw; (try dsimp only at hSw); (try simp only [List.getElem_toArray, List.getElem_cons_succ, List.getElem_cons_zero]); go_simp; try (with_reducible rfl))
              simp only [Act.put, List.getElem_toArray, List.getElem_cons_succ, List.getElem_cons_zero, List.setIfInBounds_toArray, List.set_cons_zero, List.set_cons_succ]
              refine wpAnyG_take (v := ?_) 5 (by rfl) (by kernel_rfl) (by kernel_rfl) (by kernel_rfl) (by kernel_rfl) (fun _ _ _ h => h) (Or.inl ⟨by rfl, ?_⟩) (by assumption) ?_
              rotate_left
              · (intro w' hSw; (try dsimp only at hSw); (try simp only [List.getElem_toArray, List.getElem_cons_succ, List.getElem_cons_zero]); go_simp; try (with_reducible rfl))
              simp only [Act.put, List.getElem_toArray, List.getElem_cons_succ, List.getElem_cons_zero, List.setIfInBounds_toArray, List.set_cons_zero, List.set_cons_succ]
              refine wpAnyG_take (v := ?_) 6 (by rfl) (by kernel_rfl) (by kernel_rfl) (by kernel_rfl) (by kernel_rfl) (fun _ _ _ h => h) (Or.inl ⟨by rfl, ?_⟩) (by assumption) ?_
              rotate_left
              · (intro w' hSw; (try dsimp only at hSw); (try simp only [List.getElem_toArray, List.getElem_cons_succ, List.getElem_cons_zero]); go_simp; try (with_reducible rfl))
              simp only [Act.put, List.getElem_toArray, List.getElem_cons_succ, List.getElem_cons_zero, List.setIfInBounds_toArray, List.set_cons_zero, List.set_cons_succ]
              refine wpAnyG_take (v := ?_) 7 (by rfl) (by kernel_rfl) (by kernel_rfl) (by kernel_rfl) (by kernel_rfl) (fun _ _ _ h => h) (Or.inl ⟨by rfl, ?_⟩) (by assumption) ?_
              rotate_left
              · (intro w' hSw; (try dsimp only at hSw); (try simp only [List.getElem_toArray, List.getElem_cons_succ, List.getElem_cons_zero]); go_simp; try (with_reducible rfl))
              simp only [Act.put, List.getElem_toArray, List.getElem_cons_succ, List.getElem_cons_zero, List.setIfInBounds_toArray, List.set_cons_zero, List.set_cons_succ]
              refine wpAnyG_take (v := ?_) 8 (by rfl) (by kernel_rfl) (by kernel_rfl) (by kernel_rfl) (by kernel_rfl) (fun _ _ _ h => h) (Or.inl ⟨by rfl, ?_⟩) (by assumption) ?_
              rotate_left
              · (intro w' hSw; (try dsimp only at hSw); (try simp only [List.getElem_toArray, List.getElem_cons_succ, List.getElem_cons_zero]); go_simp; try (with_reducible rfl))
              simp only [Act.put, List.getElem_toArray, List.getElem_cons_succ, List.getElem_cons_zero, List.setIfInBounds_toArray, List.set_cons_zero, List.set_cons_succ]
              refine wpAnyG_take (v := ?_) 9 (by rfl) (by kernel_rfl) (by kernel_rfl) (by kernel_rfl) (by kernel_rfl) (fun _ _ _ h => h) (Or.inl ⟨by rfl, ?_⟩) (by assumption) ?_
              rotate_left
              · (intro w' hSw; (try dsimp only at hSw); (try simp only [List.getElem_toArray, List.getElem_cons_succ, List.getElem_cons_zero]); go_simp; try (with_reducible rfl))
              simp only [Act.put, List.getElem_toArray, List.getElem_cons_succ, List.getElem_cons_zero, List.setIfInBounds_toArray, List.set_cons_zero, List.set_cons_succ]
              refine wpAnyG_take (v := ?_) 10 (by rfl) (by kernel_rfl) (by kernel_rfl) (by kernel_rfl) (by kernel_rfl) (fun _ _ _ h => h) (Or.inl ⟨by rfl, ?_⟩) (by assumption) ?_
              rotate_left
              · (intro w' hSw; (try dsimp only at hSw); (try simp only [List.getElem_toArray, List.getElem_cons_succ, List.getElem_cons_zero]); go_simp; try (with_reducible rfl))
              simp only [Act.put, List.getElem_toArray, List.getElem_cons_succ, List.getElem_cons_zero, List.setIfInBounds_toArray, List.set_cons_zero, List.set_cons_succ]
              refine wpAnyG_take (v := ?_) 11 (by rfl) (by kernel_rfl) (by kernel_rfl) (by kernel_rfl) (by kernel_rfl) (fun _ _ _ h => h) (Or.inl ⟨by rfl, ?_⟩) (by assumption) ?_
              rotate_left
              · (intro w' hSw; (try dsimp only at hSw); (try simp only [List.getElem_toArray, List.getElem_cons_succ, List.getElem_cons_zero]); go_simp; try (with_reducible rfl))
              simp only [Act.put, List.getElem_toArray, List.getElem_cons_succ, List.getElem_cons_zero, List.setIfInBounds_toArray, List.set_cons_zero, List.set_cons_succ]
              refine wpAnyG_ready [12] (by kernel_rfl) (by simp) ?_
              refine AllReadyG.cons 12 (by rfl) (fun K hK => ?_) ?_
              · simp only [List.getElem_toArray, List.getElem_cons_succ, List.getElem_cons_zero]
                go_simp
                refine hK.out _ _ (by obtain ⟨q0, q1, q2, q3, -⟩ := obj_cells (hk1 _).ob; exact ⟨q0, q1, q2, q3⟩) (fun _ => ?_)
                clear hK K
                try simp only [Act.put, List.setIfInBounds_toArray, List.set_cons_zero, List.set_cons_succ]
                have f2 : (wE.setCell ⟨g3, a, none⟩ (.int .i64 cv)).frozen? ⟨g3, b, none⟩ = false := ff2 _
                obtain ⟨zz, c2⟩ := cc2 (.int .i64 cv)
                refine wpAnyG_take (v := ?_) 13 (by rfl) (by kernel_rfl) (by kernel_rfl) (by kernel_rfl) (by kernel_rfl) (fun _ _ _ h => h) (Or.inl ⟨by rfl, ?_⟩) (by assumption) ?_
                rotate_left
                · (intro w' hSw; (try dsimp only at hSw); (try simp only [List.getElem_toArray, List.getElem_cons_succ, List.getElem_cons_zero]); go_simp; try (with_reducible rfl))
                simp only [Act.put, List.getElem_toArray, List.getElem_cons_succ, List.getElem_cons_zero, List.setIfInBounds_toArray, List.set_cons_zero, List.set_cons_succ]
                refine wpAnyG_ready [14] (by kernel_rfl) (by simp) ?_
                refine AllReadyG.cons 14 (by rfl) (fun K hK => ?_) ?_
                · simp only [List.getElem_toArray, List.getElem_cons_succ, List.getElem_cons_zero]
                  go_simp
                  refine hK.out _ _ (by obtain ⟨q0, q1, q2, q3, -⟩ := obj_cells (hk2 _ _).ob; exact ⟨q0, q1, q2, q3⟩) (fun _ => ?_)
                  clear hK K
                  try simp only [Act.put, List.setIfInBounds_toArray, List.set_cons_zero, List.set_cons_succ]
                  refine wpAnyG_done (by kernel_rfl) ?_ _
                  refine NoPanic.normal ?_
                  go_wp2
                  go_roundg g'
                  case rel => exact ⟨e1, by have := unhide HE1; omega, by go_num, by rw [← unhide HE1]; exact HKm⟩
                  case measure => omega
                exact AllReadyG.nil
              exact AllReadyG.nil
            · have hclI : ¬ (e : Int) < (cs.length : Int) := by omega
              have Hcv := hide ((unhide HC2 e hcl).symm)
              go_upto_region 10 with fail
              rw [← unhide HwB]
              clear HwB
              have hkz := (unhide HKB).below (Below.refl _ wB).drew
              obtain ⟨x0, x1, x2, x3, -⟩ := obj_cells hkz.ob
              have c1 := own_getD9 hkz.o3 a (by rw [unhide hZl]; exact haM)
              have f1 := own_frozen hkz.o3 a
              have hk1 := fun v => hkz.setZ a v
              have hk2 := fun v v' => (hkz.setZ a v).setZ b v'
              have cc2 : ∀ v : Value, ∃ z, (wB.drew.setCell ⟨g3, a, none⟩ v).cell? ⟨g3, b, none⟩ = some z := fun v => cell?_setCell_some (own_getD9 hkz.o3 b (by rw [unhide hZl]; exact hbM))
              have ff2 : ∀ v : Value, (wB.drew.setCell ⟨g3, a, none⟩ v).frozen? ⟨g3, b, none⟩ = false := fun v => by have := own_frozen hkz.o3 b; simpa using this
              have HKm : Hid (KnAt w2.heap.size w0q g g1 g2 g3 K M ((wB.drew.setCell ⟨g3, a, none⟩ (.int .i64 (e : Int))).setCell ⟨g3, b, none⟩ (.int .i64 (e : Int))) (Sp.knT K (e + 1)) (Sp.knX K 0) (Sp.knCp K c9 (e + 1))) := hide (by
                have h := hk2 (e : Int) (e : Int)
                rw [Sp.knCp, unhide Ha, unhide Hb, unhide Hcv]
                exact h)
              clear hkz HKB
              go_upto_region 12 with fail
              refine wp_region_G (fun w' => w'.cell? ⟨g, 0, none⟩ = some (.int .i64 (K : Int)) ∧ w'.cell? ⟨g, 1, none⟩ = some (.slice (some ⟨g1, 0, none⟩) M M) ∧ w'.cell? ⟨g, 2, none⟩ = some (.slice (some ⟨g2, 0, none⟩) M M) ∧ w'.cell? ⟨g, 3, none⟩ = some (.slice (some ⟨g3, 0, none⟩) M M)) (fun _ => false) (by kernel_rfl) ⟨x0, x1, x2, x3⟩ (fun hHeld => ?_)
              generalize wB.drew = wE at *
              refine wpAnyG_take (v := ?_) 0 (by rfl) (by kernel_rfl) (by kernel_rfl) (by kernel_rfl) (by kernel_rfl) (fun _ _ _ h => h) (Or.inl ⟨by rfl, ?_⟩) (by assumption) ?_
              rotate_left
              · (intro w' hSw; (try dsimp only at hSw); (try simp only [List.getElem_toArray, List.getElem_cons_zero]); go_simp; try (with_reducible rfl))
              simp only [Act.put, List.getElem_toArray, List.getElem_cons_zero, List.setIfInBounds_toArray, List.set_cons_zero, List.set_cons_succ]
              refine wpAnyG_take (v := ?_) 1 (by rfl) (by kernel_rfl) (by kernel_rfl) (by kernel_rfl) (by kernel_rfl) (fun _ _ _ h => h) (Or.inl ⟨by rfl, ?_⟩) (by assumption) ?_
              rotate_left
              · (intro w' hSw; (try dsimp only at hSw); (try simp only [List.getElem_toArray, List.getElem_cons_succ, List.getElem_cons_zero]); go_simp; try (with_reducible rfl))
              simp only [Act.put, List.getElem_toArray, List.getElem_cons_succ, List.getElem_cons_zero, List.setIfInBounds_toArray, List.set_cons_zero, List.set_cons_succ]
              refine wpAnyG_take (v := ?_) 2 (by rfl) (by kernel_rfl) (by kernel_rfl) (by kernel_rfl) (by kernel_rfl) (fun _ _ _ h => h) (Or.inl ⟨by rfl, ?_⟩) (by assumption) ?_
              rotate_left
              · (intro w' hSw; (try dsimp only at hSw); (try simp only [List.getElem_toArray, List.getElem_cons_succ, List.getElem_cons_zero]); go_simp; try (with_reducible rfl))
              simp only [Act.put, List.getElem_toArray, List.getElem_cons_succ, List.getElem_cons_zero, List.setIfInBounds_toArray, List.set_cons_zero, List.set_cons_succ]
              refine wpAnyG_take (v := ?_) 3 (by rfl) (by kernel_rfl) (by kernel_rfl) (by kernel_rfl) (by kernel_rfl) (fun _ _ _ h => h) (Or.inl ⟨by rfl, ?_⟩) (by assumption) ?_
              rotate_left
              · (intro w' hSw; (try dsimp only at hSw); (try simp only [List.getElem_toArray, List.getElem_cons_succ, List.getElem_cons_zero]); go_simp; try (with_reducible rfl))
              simp only [Act.put, List.getElem_toArray, List.getElem_cons_succ, List.getElem_cons_zero, List.setIfInBounds_toArray, List.set_cons_zero, List.set_cons_succ]
              refine wpAnyG_take (v := ?_) 4 (by rfl) (by kernel_rfl) (by kernel_rfl) (by kernel_rfl) (by kernel_rfl) (fun _ _ _ h => h) (Or.inl ⟨by rfl, ?_⟩) (by assumption) ?_
              rotate_left
              · (intro w' hSw; (try dsimp only at hSw); (try simp only [List.getElem_toArray, List.getElem_cons_succ, List.getElem_cons_zero]); go_simp; try (with_reducible rfl))
              simp only [Act.put, List.getElem_toArray, List.getElem_cons_succ, List.getElem_cons_zero, List.setIfInBounds_toArray, List.set_cons_zero, List.set_cons_succ]
              refine wpAnyG_take (v := ?_) 5 (by rfl) (by kernel_rfl) (by kernel_rfl) (by kernel_rfl) (by kernel_rfl) (fun _ _ _ h => h) (Or.inl ⟨by rfl, ?_⟩) (by assumption) ?_
              rotate_left
              · (intro w' hSw; (try dsimp only at hSw); (try simp only [List.getElem_toArray, List.getElem_cons_succ, List.getElem_cons_zero]); go_simp; try (with_reducible rfl))
              simp only [Act.put, List.getElem_toArray, List.getElem_cons_succ, List.getElem_cons_zero, List.setIfInBounds_toArray, List.set_cons_zero, List.set_cons_succ]
              refine wpAnyG_take (v := ?_) 6 (by rfl) (by kernel_rfl) (by kernel_rfl) (by kernel_rfl) (by kernel_rfl) (fun _ _ _ h => h) (Or.inl ⟨by rfl, ?_⟩) (by assumption) ?_
              rotate_left
              · (intro w' hSw; (try dsimp only at hSw); (try simp only [List.getElem_toArray, List.getElem_cons_succ, List.getElem_cons_zero]); go_simp; try (with_reducible rfl))
              simp only [Act.put, List.getElem_toArray, List.getElem_cons_succ, List.getElem_cons_zero, List.setIfInBounds_toArray, List.set_cons_zero, List.set_cons_succ]
              refine wpAnyG_take (v := ?_) 7 (by rfl) (by kernel_rfl) (by kernel_rfl) (by kernel_rfl) (by kernel_rfl) (fun _ _ _ h => h) (Or.inl ⟨by rfl, ?_⟩) (by assumption) ?_
              rotate_left
              · (intro w' hSw; (try dsimp only at hSw); (try simp only [List.getElem_toArray, List.getElem_cons_succ, List.getElem_cons_zero]); go_simp; try (with_reducible rfl))
              simp only [Act.put, List.getElem_toArray, List.getElem_cons_succ, List.getElem_cons_zero, List.setIfInBounds_toArray, List.set_cons_zero, List.set_cons_succ]
              refine wpAnyG_take (v := ?_) 8 (by rfl) (by kernel_rfl) (by kernel_rfl) (by kernel_rfl) (by kernel_rfl) (fun _ _ _ h => h) (Or.inl ⟨by rfl, ?_⟩) (by assumption) ?_
              rotate_left
              · (intro w' hSw; (try dsimp only at hSw); (try simp only [List.getElem_toArray, List.getElem_cons_succ, List.getElem_cons_zero]); go_simp; try (with_reducible rfl))
              simp only [Act.put, List.getElem_toArray, List.getElem_cons_succ, List.getElem_cons_zero, List.setIfInBounds_toArray, List.set_cons_zero, List.set_cons_succ]
              refine wpAnyG_take (v := ?_) 9 (by rfl) (by kernel_rfl) (by kernel_rfl) (by kernel_rfl) (by kernel_rfl) (fun _ _ _ h => h) (Or.inl ⟨by rfl, ?_⟩) (by assumption) ?_
              rotate_left
              · (intro w' hSw; (try dsimp only at hSw); (try simp only [List.getElem_toArray, List.getElem_cons_succ, List.getElem_cons_zero]); go_simp; try (with_reducible rfl))
              simp only [Act.put, List.getElem_toArray, List.getElem_cons_succ, List.getElem_cons_zero, List.setIfInBounds_toArray, List.set_cons_zero, List.set_cons_succ]
              refine wpAnyG_take (v := ?_) 10 (by rfl) (by kernel_rfl) (by kernel_rfl) (by kernel_rfl) (by kernel_rfl) (fun _ _ _ h => h) (Or.inl ⟨by rfl, ?_⟩) (by assumption) ?_
              rotate_left
              · (intro w' hSw; (try dsimp only at hSw); (try simp only [List.getElem_toArray, List.getElem_cons_succ, List.getElem_cons_zero]); go_simp; try (with_reducible rfl))
              simp only [Act.put, List.getElem_toArray, List.getElem_cons_succ, List.getElem_cons_zero, List.setIfInBounds_toArray, List.set_cons_zero, List.set_cons_succ]
              refine wpAnyG_take (v := ?_) 11 (by rfl) (by kernel_rfl) (by kernel_rfl) (by kernel_rfl) (by kernel_rfl) (fun _ _ _ h => h) (Or.inl ⟨by rfl, ?_⟩) (by assumption) ?_
              rotate_left
              · (intro w' hSw; (try dsimp only at hSw); (try simp only [List.getElem_toArray, List.getElem_cons_succ, List.getElem_cons_zero]); go_simp; try (with_reducible rfl))
              simp only [Act.put, List.getElem_toArray, List.getElem_cons_succ, List.getElem_cons_zero, List.setIfInBounds_toArray, List.set_cons_zero, List.set_cons_succ]
              refine wpAnyG_ready [12] (by kernel_rfl) (by simp) ?_
              refine AllReadyG.cons 12 (by rfl) (fun K hK => ?_) ?_
              · simp only [List.getElem_toArray, List.getElem_cons_succ, List.getElem_cons_zero]
                go_simp
                refine hK.out _ _ (by obtain ⟨q0, q1, q2, q3, -⟩ := obj_cells (hk1 _).ob; exact ⟨q0, q1, q2, q3⟩) (fun _ => ?_)
                clear hK K
                try simp only [Act.put, List.setIfInBounds_toArray, List.set_cons_zero, List.set_cons_succ]
                have f2 : (wE.setCell ⟨g3, a, none⟩ (.int .i64 (e : Int))).frozen? ⟨g3, b, none⟩ = false := ff2 _
                obtain ⟨zz, c2⟩ := cc2 (.int .i64 (e : Int))
                refine wpAnyG_take (v := ?_) 13 (by rfl) (by kernel_rfl) (by kernel_rfl) (by kernel_rfl) (by kernel_rfl) (fun _ _ _ h => h) (Or.inl ⟨by rfl, ?_⟩) (by assumption) ?_
                rotate_left
                · (intro w' hSw; (try dsimp only at hSw); (try simp only [List.getElem_toArray, List.getElem_cons_succ, List.getElem_cons_zero]); go_simp; try (with_reducible rfl))
                simp only [Act.put, List.getElem_toArray, List.getElem_cons_succ, List.getElem_cons_zero, List.setIfInBounds_toArray, List.set_cons_zero, List.set_cons_succ]
                refine wpAnyG_ready [14] (by kernel_rfl) (by simp) ?_
                refine AllReadyG.cons 14 (by rfl) (fun K hK => ?_) ?_
                · simp only [List.getElem_toArray, List.getElem_cons_succ, List.getElem_cons_zero]
                  go_simp
                  refine hK.out _ _ (by obtain ⟨q0, q1, q2, q3, -⟩ := obj_cells (hk2 _ _).ob; exact ⟨q0, q1, q2, q3⟩) (fun _ => ?_)
                  clear hK K
                  try simp only [Act.put, List.setIfInBounds_toArray, List.set_cons_zero, List.set_cons_succ]
                  refine wpAnyG_done (by kernel_rfl) ?_ _
                  refine NoPanic.normal ?_
                  go_wp2
                  go_roundg g'
                  case rel => exact ⟨e1, by have := unhide HE1; omega, by go_num, by rw [← unhide HE1]; exact HKm⟩
                  case measure => omega
                exact AllReadyG.nil
              exact AllReadyG.nil
          exact AllReadyG.nil
        exact AllReadyG.nil
      | zero =>
        have heK : e = K := by omega
        have HI1 : Hid (KnAt w2.heap.size w0q g g1 g2 g3 K M wr (Sp.knT K K) (Sp.knX K 0) (Sp.knCp K c9 K)) := by rw [heK] at HI; exact HI
        clear HI
        rw [heK]
        clear heK heg
        go_wp2
        go_loopg [13] K (fun gg s13 wr => ∃ v : Nat, v + gg = K ∧ s13 = .int .i64 (v : Int) ∧ Hid (KnAt w2.heap.size w0q g g1 g2 g3 K M wr (Sp.knT K K) (Sp.knX K v) (Sp.knCp K c9 K)))
        case atStart => exact ⟨0, by omega, rfl, HI1⟩
        case round =>
          clear HI1
          obtain ⟨v, hvg, rfl, HI⟩ := hrel
          cases gk with
          | succ g' =>
            have hvK : v < K := by omega
            have hvI : (v : Int) < (K : Int) := by omega
            obtain ⟨a, ha⟩ : ∃ a, 2 * v = a := ⟨_, rfl⟩
            obtain ⟨u, hu⟩ : ∃ u, (v + K - 1) % K = u := ⟨_, rfl⟩
            obtain ⟨b, hb⟩ : ∃ b, 2 * u + 1 = b := ⟨_, rfl⟩
            obtain ⟨u2, hu2⟩ : ∃ u2, 2 * u = u2 := ⟨_, rfl⟩
            obtain ⟨vk, hvk⟩ : ∃ vk, v + K = vk := ⟨_, rfl⟩
            obtain ⟨vk1, hvk1⟩ : ∃ vk1, vk - 1 = vk1 := ⟨_, rfl⟩
            have huK : u < K := by rw [← hu]; exact Nat.mod_lt _ (by omega)
            have haw : IntKind.i64.wrap (2 * (v : Int)) = (a : Int) := by rw [IntKind.wrap_i64]; omega
            have hvw : IntKind.i64.wrap ((v : Int) + (K : Int)) = (vk : Int) := by rw [IntKind.wrap_i64]; omega
            have hvw1 : IntKind.i64.wrap ((vk : Int) - 1) = (vk1 : Int) := by rw [IntKind.wrap_i64]; omega
            have hrm : ((vk1 : Nat) : Int).tmod (K : Int) = (u : Int) := by rw [Int.tmod_eq_emod_of_nonneg (by omega), ← hu, ← hvk1, ← hvk]; omega
            have huw : IntKind.i64.wrap (u : Int) = (u : Int) := by rw [IntKind.wrap_i64]; omega
            have hu2w : IntKind.i64.wrap (2 * (u : Int)) = (u2 : Int) := by rw [IntKind.wrap_i64]; omega
            have hbw : IntKind.i64.wrap ((u2 : Int) + 1) = (b : Int) := by rw [IntKind.wrap_i64]; omega
            have hMM := unhide HM
            have hK0 : ¬ (K : Int) = 0 := by omega
            have hK0N : ¬ K = 0 := by omega
            have hK0b : ((K : Int) == 0) = false := beq_eq_false_iff_ne.2 hK0
            have haM : a < M := by omega
            have hbM : b < M := by omega
            have haI : (a : Int) < (M : Int) := by omega
            have hbI : (b : Int) < (M : Int) := by omega
            have hXl : (Sp.knX K v).length = M := by rw [Sp.knX_len]; exact hMM
            have HKW : Hid (∀ wr', Below wr.heap.size wr wr' → KnAt w2.heap.size w0q g g1 g2 g3 K M wr' (Sp.knT K K) (Sp.knX K v) (Sp.knCp K c9 K)) := hide fun wr' hb => (unhide HI).below hb
            have HST : Hid (((Sp.knX K v).set a (b : Int)).set b (a : Int) = Sp.knX K (v + 1)) := hide (by rw [Sp.knX, ha, hu, hb])
            clear hMM ha hb hu hu2 hvk hvk1 HI hK0
            go_upto_region 16 with fail
            refine wp_region_G (fun _ => True) (fun _ => false) (by kernel_rfl) trivial (fun hHeld => ?_)
            refine wpAnyG_take (v := ?_) 0 (by rfl) (by kernel_rfl) (by kernel_rfl) (by kernel_rfl) (by kernel_rfl) (fun _ _ _ h => h) (Or.inl ⟨by rfl, ?_⟩) (by assumption) ?_
            rotate_left
            · (intro w' hSw; (try dsimp only at hSw); (try simp only [List.getElem_toArray, List.getElem_cons_zero]); go_simp; try (with_reducible rfl))
            simp only [Act.put, List.getElem_toArray, List.getElem_cons_zero, List.setIfInBounds_toArray, List.set_cons_zero, List.set_cons_succ]
            refine wpAnyG_take (v := ?_) 1 (by rfl) (by kernel_rfl) (by kernel_rfl) (by kernel_rfl) (by kernel_rfl) (fun _ _ _ h => h) (Or.inl ⟨by rfl, ?_⟩) (by assumption) ?_
            rotate_left
            · (intro w' hSw; (try dsimp only at hSw); (try simp only [List.getElem_toArray, List.getElem_cons_succ, List.getElem_cons_zero]); go_simp; try (with_reducible rfl))
            simp only [Act.put, List.getElem_toArray, List.getElem_cons_succ, List.getElem_cons_zero, List.setIfInBounds_toArray, List.set_cons_zero, List.set_cons_succ]
            refine wpAnyG_take (v := ?_) 2 (by rfl) (by kernel_rfl) (by kernel_rfl) (by kernel_rfl) (by kernel_rfl) (fun _ _ _ h => h) (Or.inl ⟨by rfl, ?_⟩) (by assumption) ?_
            rotate_left
            · (intro w' hSw; (try dsimp only at hSw); (try simp only [List.getElem_toArray, List.getElem_cons_succ, List.getElem_cons_zero]); go_simp; try (with_reducible rfl))
            simp only [Act.put, List.getElem_toArray, List.getElem_cons_succ, List.getElem_cons_zero, List.setIfInBounds_toArray, List.set_cons_zero, List.set_cons_succ]
            refine wpAnyG_take (v := ?_) 3 (by rfl) (by kernel_rfl) (by kernel_rfl) (by kernel_rfl) (by kernel_rfl) (fun _ _ _ h => h) (Or.inl ⟨by rfl, ?_⟩) (by assumption) ?_
            rotate_left
            · (intro w' hSw; (try dsimp only at hSw); (try simp only [List.getElem_toArray, List.getElem_cons_succ, List.getElem_cons_zero]); go_simp; try (with_reducible rfl))
            simp only [Act.put, List.getElem_toArray, List.getElem_cons_succ, List.getElem_cons_zero, List.setIfInBounds_toArray, List.set_cons_zero, List.set_cons_succ]
            refine wpAnyG_take (v := ?_) 4 (by rfl) (by kernel_rfl) (by kernel_rfl) (by kernel_rfl) (by kernel_rfl) (fun _ _ _ h => h) (Or.inl ⟨by rfl, ?_⟩) (by assumption) ?_
            rotate_left
            · (intro w' hSw; (try dsimp only at hSw); (try simp only [List.getElem_toArray, List.getElem_cons_succ, List.getElem_cons_zero]); go_simp; try (with_reducible rfl))
            simp only [Act.put, List.getElem_toArray, List.getElem_cons_succ, List.getElem_cons_zero, List.setIfInBounds_toArray, List.set_cons_zero, List.set_cons_succ]
            refine wpAnyG_take (v := ?_) 5 (by rfl) (by kernel_rfl) (by kernel_rfl) (by kernel_rfl) (by kernel_rfl) (fun _ _ _ h => h) (Or.inl ⟨by rfl, ?_⟩) (by assumption) ?_
            rotate_left
            · (intro w' hSw; (try dsimp only at hSw); (try simp only [List.getElem_toArray, List.getElem_cons_succ, List.getElem_cons_zero]); go_simp; try (with_reducible rfl))
            simp only [Act.put, List.getElem_toArray, List.getElem_cons_succ, List.getElem_cons_zero, List.setIfInBounds_toArray, List.set_cons_zero, List.set_cons_succ]
            refine wpAnyG_take (v := ?_) 6 (by rfl) (by kernel_rfl) (by kernel_rfl) (by kernel_rfl) (by kernel_rfl) (fun _ _ _ h => h) (Or.inl ⟨by rfl, ?_⟩) (by assumption) ?_
            rotate_left
            · (intro w' hSw; (try dsimp only at hSw); (try simp only [List.getElem_toArray, List.getElem_cons_succ, List.getElem_cons_zero]); go_simp; try (with_reducible rfl))
            simp only [Act.put, List.getElem_toArray, List.getElem_cons_succ, List.getElem_cons_zero, List.setIfInBounds_toArray, List.set_cons_zero, List.set_cons_succ]
            refine wpAnyG_take (v := ?_) 7 (by rfl) (by kernel_rfl) (by kernel_rfl) (by kernel_rfl) (by kernel_rfl) (fun _ _ _ h => h) (Or.inl ⟨by rfl, ?_⟩) (by assumption) ?_
            rotate_left
            · (intro w' hSw; (try dsimp only at hSw); (try simp only [List.getElem_toArray, List.getElem_cons_succ, List.getElem_cons_zero]); go_simp; try (with_reducible rfl))
            simp only [Act.put, List.getElem_toArray, List.getElem_cons_succ, List.getElem_cons_zero, List.setIfInBounds_toArray, List.set_cons_zero, List.set_cons_succ]
            refine wpAnyG_take (v := ?_) 8 (by rfl) (by kernel_rfl) (by kernel_rfl) (by kernel_rfl) (by kernel_rfl) (fun _ _ _ h => h) (Or.inl ⟨by rfl, ?_⟩) (by assumption) ?_
            rotate_left
            · (intro w' hSw; (try dsimp only at hSw); (try simp only [List.getElem_toArray, List.getElem_cons_succ, List.getElem_cons_zero]); go_simp; try (with_reducible rfl))
            simp only [Act.put, List.getElem_toArray, List.getElem_cons_succ, List.getElem_cons_zero, List.setIfInBounds_toArray, List.set_cons_zero, List.set_cons_succ]
            refine wpAnyG_take (v := ?_) 9 (by rfl) (by kernel_rfl) (by kernel_rfl) (by kernel_rfl) (by kernel_rfl) (fun _ _ _ h => h) (Or.inl ⟨by rfl, ?_⟩) (by assumption) ?_
            rotate_left
            · (intro w' hSw; (try dsimp only at hSw); (try simp only [List.getElem_toArray, List.getElem_cons_succ, List.getElem_cons_zero]); go_simp; try (with_reducible rfl))
            simp only [Act.put, List.getElem_toArray, List.getElem_cons_succ, List.getElem_cons_zero, List.setIfInBounds_toArray, List.set_cons_zero, List.set_cons_succ]
            refine wpAnyG_take (v := ?_) 10 (by rfl) (by kernel_rfl) (by kernel_rfl) (by kernel_rfl) (by kernel_rfl) (fun _ _ _ h => h) (Or.inl ⟨by rfl, ?_⟩) (by assumption) ?_
            rotate_left
            · (intro w' hSw; (try dsimp only at hSw); (try simp only [List.getElem_toArray, List.getElem_cons_succ, List.getElem_cons_zero]); go_simp; try (with_reducible rfl))
            simp only [Act.put, List.getElem_toArray, List.getElem_cons_succ, List.getElem_cons_zero, List.setIfInBounds_toArray, List.set_cons_zero, List.set_cons_succ]
            refine wpAnyG_take (v := ?_) 11 (by rfl) (by kernel_rfl) (by kernel_rfl) (by kernel_rfl) (by kernel_rfl) (fun _ _ _ h => h) (Or.inl ⟨by rfl, ?_⟩) (by assumption) ?_
            rotate_left
            · (intro w' hSw; (try dsimp only at hSw); (try simp only [List.getElem_toArray, List.getElem_cons_succ, List.getElem_cons_zero]); go_simp; try (with_reducible rfl))
            simp only [Act.put, List.getElem_toArray, List.getElem_cons_succ, List.getElem_cons_zero, List.setIfInBounds_toArray, List.set_cons_zero, List.set_cons_succ]
            refine wpAnyG_done (by kernel_rfl) ?_ _
            refine NoPanic.normal ?_
            go_upto_region 17 with fail
            have hkw := unhide HKW wr.drew.drew (Below.refl _ _).drew.drew
            obtain ⟨x0, x1, x2, x3, -⟩ := obj_cells hkw.ob
            have c1 := own_getD9 hkw.o2 a (by omega)
            have f1 := own_frozen hkw.o2 a
            have hk1 := fun v => hkw.setX a v
            have hk2 := fun v v' => (hkw.setX a v).setX b v'
            have cc2 : ∀ v : Value, ∃ z, (wr.drew.drew.setCell ⟨g2, a, none⟩ v).cell? ⟨g2, b, none⟩ = some z := fun v => cell?_setCell_some (own_getD9 hkw.o2 b (by omega))
            have ff2 : ∀ v : Value, (wr.drew.drew.setCell ⟨g2, a, none⟩ v).frozen? ⟨g2, b, none⟩ = false := fun v => by have := own_frozen hkw.o2 b; simpa using this
            have HKn : Hid (KnAt w2.heap.size w0q g g1 g2 g3 K M ((wr.drew.drew.setCell ⟨g2, a, none⟩ (.int .i64 (b : Int))).setCell ⟨g2, b, none⟩ (.int .i64 (a : Int))) (Sp.knT K K) (Sp.knX K (v + 1)) (Sp.knCp K c9 K)) := hide (by
              have h := hk2 (b : Int) (a : Int)
              rw [unhide HST] at h
              exact h)
            clear hkw
            refine wp_region_G (fun w' => w'.cell? ⟨g, 0, none⟩ = some (.int .i64 (K : Int)) ∧ w'.cell? ⟨g, 1, none⟩ = some (.slice (some ⟨g1, 0, none⟩) M M) ∧ w'.cell? ⟨g, 2, none⟩ = some (.slice (some ⟨g2, 0, none⟩) M M) ∧ w'.cell? ⟨g, 3, none⟩ = some (.slice (some ⟨g3, 0, none⟩) M M)) (fun _ => false) (by kernel_rfl) ⟨x0, x1, x2, x3⟩ (fun hHeld => ?_)
            generalize wr.drew.drew = wD at *
            refine wpAnyG_take (v := ?_) 0 (by rfl) (by kernel_rfl) (by kernel_rfl) (by kernel_rfl) (by kernel_rfl) (fun _ _ _ h => h) (Or.inl ⟨by rfl, ?_⟩) (by assumption) ?_
            rotate_left
            · (intro w' hSw; (try dsimp only at hSw); (try simp only [List.getElem_toArray, List.getElem_cons_zero]); go_simp; try (with_reducible rfl))
            simp only [Act.put, List.getElem_toArray, List.getElem_cons_zero, List.setIfInBounds_toArray, List.set_cons_zero, List.set_cons_succ]
            refine wpAnyG_take (v := ?_) 1 (by rfl) (by kernel_rfl) (by kernel_rfl) (by kernel_rfl) (by kernel_rfl) (fun _ _ _ h => h) (Or.inl ⟨by rfl, ?_⟩) (by assumption) ?_
            rotate_left
            · (intro w' hSw; (try dsimp only at hSw); (try simp only [List.getElem_toArray, List.getElem_cons_succ, List.getElem_cons_zero]); go_simp; try (with_reducible rfl))
            simp only [Act.put, List.getElem_toArray, List.getElem_cons_succ, List.getElem_cons_zero, List.setIfInBounds_toArray, List.set_cons_zero, List.set_cons_succ]
            refine wpAnyG_take (v := ?_) 2 (by rfl) (by kernel_rfl) (by kernel_rfl) (by kernel_rfl) (by kernel_rfl) (fun _ _ _ h => h) (Or.inl ⟨by rfl, ?_⟩) (by assumption) ?_
            rotate_left
            · (intro w' hSw; (try dsimp only at hSw); (try simp only [List.getElem_toArray, List.getElem_cons_succ, List.getElem_cons_zero]); go_simp; try (with_reducible rfl))
            simp only [Act.put, List.getElem_toArray, List.getElem_cons_succ, List.getElem_cons_zero, List.setIfInBounds_toArray, List.set_cons_zero, List.set_cons_succ]
            refine wpAnyG_take (v := ?_) 3 (by rfl) (by kernel_rfl) (by kernel_rfl) (by kernel_rfl) (by kernel_rfl) (fun _ _ _ h => h) (Or.inl ⟨by rfl, ?_⟩) (by assumption) ?_
            rotate_left
            · (intro w' hSw; (try dsimp only at hSw); (try simp only [List.getElem_toArray, List.getElem_cons_succ, List.getElem_cons_zero]); go_simp; try (with_reducible rfl))
            simp only [Act.put, List.getElem_toArray, List.getElem_cons_succ, List.getElem_cons_zero, List.setIfInBounds_toArray, List.set_cons_zero, List.set_cons_succ]
            refine wpAnyG_take (v := ?_) 4 (by rfl) (by kernel_rfl) (by kernel_rfl) (by kernel_rfl) (by kernel_rfl) (fun _ _ _ h => h) (Or.inl ⟨by rfl, ?_⟩) (by assumption) ?_
            rotate_left
            · (intro w' hSw; (try dsimp only at hSw); (try simp only [List.getElem_toArray, List.getElem_cons_succ, List.getElem_cons_zero]); go_simp; try (with_reducible rfl))
            simp only [Act.put, List.getElem_toArray, List.getElem_cons_succ, List.getElem_cons_zero, List.setIfInBounds_toArray, List.set_cons_zero, List.set_cons_succ]
            refine wpAnyG_take (v := ?_) 5 (by rfl) (by kernel_rfl) (by kernel_rfl) (by kernel_rfl) (by kernel_rfl) (fun _ _ _ h => h) (Or.inl ⟨by rfl, ?_⟩) (by assumption) ?_
            rotate_left
            · (intro w' hSw; (try dsimp only at hSw); (try simp only [List.getElem_toArray, List.getElem_cons_succ, List.getElem_cons_zero]); go_simp; try (with_reducible rfl))
            simp only [Act.put, List.getElem_toArray, List.getElem_cons_succ, List.getElem_cons_zero, List.setIfInBounds_toArray, List.set_cons_zero, List.set_cons_succ]
            refine wpAnyG_take (v := ?_) 6 (by rfl) (by kernel_rfl) (by kernel_rfl) (by kernel_rfl) (by kernel_rfl) (fun _ _ _ h => h) (Or.inl ⟨by rfl, ?_⟩) (by assumption) ?_
            rotate_left
            · (intro w' hSw; (try dsimp only at hSw); (try simp only [List.getElem_toArray, List.getElem_cons_succ, List.getElem_cons_zero]); go_simp; try (with_reducible rfl))
            simp only [Act.put, List.getElem_toArray, List.getElem_cons_succ, List.getElem_cons_zero, List.setIfInBounds_toArray, List.set_cons_zero, List.set_cons_succ]
            refine wpAnyG_take (v := ?_) 7 (by rfl) (by kernel_rfl) (by kernel_rfl) (by kernel_rfl) (by kernel_rfl) (fun _ _ _ h => h) (Or.inl ⟨by rfl, ?_⟩) (by assumption) ?_
            rotate_left
            · (intro w' hSw; (try dsimp only at hSw); (try simp only [List.getElem_toArray, List.getElem_cons_succ, List.getElem_cons_zero]); go_simp; try (with_reducible rfl))
            simp only [Act.put, List.getElem_toArray, List.getElem_cons_succ, List.getElem_cons_zero, List.setIfInBounds_toArray, List.set_cons_zero, List.set_cons_succ]
            refine wpAnyG_take (v := ?_) 8 (by rfl) (by kernel_rfl) (by kernel_rfl) (by kernel_rfl) (by kernel_rfl) (fun _ _ _ h => h) (Or.inl ⟨by rfl, ?_⟩) (by assumption) ?_
            rotate_left
            · (intro w' hSw; (try dsimp only at hSw); (try simp only [List.getElem_toArray, List.getElem_cons_succ, List.getElem_cons_zero]); go_simp; try (with_reducible rfl))
            simp only [Act.put, List.getElem_toArray, List.getElem_cons_succ, List.getElem_cons_zero, List.setIfInBounds_toArray, List.set_cons_zero, List.set_cons_succ]
            refine wpAnyG_ready [9] (by kernel_rfl) (by simp) ?_
            refine AllReadyG.cons 9 (by rfl) (fun K hK => ?_) ?_
            · simp only [List.getElem_toArray, List.getElem_cons_succ, List.getElem_cons_zero]
              go_simp
              refine hK.out _ _ (by obtain ⟨q0, q1, q2, q3, -⟩ := obj_cells (hk1 _).ob; exact ⟨q0, q1, q2, q3⟩) (fun _ => ?_)
              clear hK K
              try simp only [Act.put, List.setIfInBounds_toArray, List.set_cons_zero, List.set_cons_succ]
              have f2 : (wD.setCell ⟨g2, a, none⟩ (.int .i64 (b : Int))).frozen? ⟨g2, b, none⟩ = false := ff2 _
              obtain ⟨zz, c2⟩ := cc2 (.int .i64 (b : Int))
              refine wpAnyG_take (v := ?_) 10 (by rfl) (by kernel_rfl) (by kernel_rfl) (by kernel_rfl) (by kernel_rfl) (fun _ _ _ h => h) (Or.inl ⟨by rfl, ?_⟩) (by assumption) ?_
              rotate_left
              · (intro w' hSw; (try dsimp only at hSw); (try simp only [List.getElem_toArray, List.getElem_cons_succ, List.getElem_cons_zero]); go_simp; try (with_reducible rfl))
              simp only [Act.put, List.getElem_toArray, List.getElem_cons_succ, List.getElem_cons_zero, List.setIfInBounds_toArray, List.set_cons_zero, List.set_cons_succ]
              refine wpAnyG_ready [11] (by kernel_rfl) (by simp) ?_
              refine AllReadyG.cons 11 (by rfl) (fun K hK => ?_) ?_
              · simp only [List.getElem_toArray, List.getElem_cons_succ, List.getElem_cons_zero]
                go_simp
                refine hK.out _ _ (by obtain ⟨q0, q1, q2, q3, -⟩ := obj_cells (hk2 _ _).ob; exact ⟨q0, q1, q2, q3⟩) (fun _ => ?_)
                clear hK K
                try simp only [Act.put, List.setIfInBounds_toArray, List.set_cons_zero, List.set_cons_succ]
                refine wpAnyG_done (by kernel_rfl) ?_ _
                refine NoPanic.normal ?_
                go_wp2
                go_roundg g'
                case rel => exact ⟨v + 1, by omega, by go_num, HKn⟩
                case measure => omega
              exact AllReadyG.nil
            exact AllReadyG.nil
          | zero =>
            have hvK : v = K := by omega
            have HI1 : Hid (KnAt w2.heap.size w0q g g1 g2 g3 K M wr (Sp.knT K K) (Sp.knX K K) (Sp.knCp K c9 K)) := by rw [hvK] at HI; exact HI
            clear HI
            rw [hvK]
            clear hvK hvg
            obtain ⟨w10, hw10⟩ : ∃ w10, w10 = wr := ⟨_, rfl⟩
            rw [← hw10] at HI1 ⊢
            clear hw10
            have HNet : Hid (∀ w', Below w10.heap.size w10 w' → (w'.cell? ⟨g, 0, none⟩ = some (.int .i64 (K : Int)) ∧ w'.cell? ⟨g, 1, none⟩ = some (.slice (some ⟨g1, 0, none⟩) M M) ∧ w'.cell? ⟨g, 2, none⟩ = some (.slice (some ⟨g2, 0, none⟩) M M) ∧ w'.cell? ⟨g, 3, none⟩ = some (.slice (some ⟨g3, 0, none⟩) M M)) ∧ NetI w' (.agg #[.int .i64 (K : Int), .slice (some ⟨g1, 0, none⟩) M M, .slice (some ⟨g2, 0, none⟩) M M, .slice (some ⟨g3, 0, none⟩) M M]) ⟨(K : Int), Sp.knT K K, Sp.knX K K, Sp.knCp K c9 K⟩ (.slice (some ⟨g1, 0, none⟩) M M) (.slice (some ⟨g2, 0, none⟩) M M) (.slice (some ⟨g3, 0, none⟩) M M) ∧ Below w.heap.size w w' ∧ ∀ e, e < K → w'.cell? ⟨g3, 2 * e, none⟩ = some (.int .i64 (c9 e))) := hide fun w' hb => by
              have h := (unhide HI1).below hb
              obtain ⟨q0, q1, q2, q3, -⟩ := obj_cells h.ob
              refine ⟨⟨q0, q1, q2, q3⟩, ⟨rfl, OwnI.ints h.o1, OwnI.ints h.o2, OwnI.ints h.o3⟩, unhide HB0 _ h.bel, fun e he => ?_⟩
              have := own_getD9 h.o3 (2 * e) (by rw [Sp.knCp_len]; omega)
              rw [(Sp.knCp_at K c9 K (Nat.le_refl _) e he).1] at this
              exact this
            have HTR : Hid (∀ w2 w5, Below w10.heap.size w10 w2 → Below w2.heap.size w2 w5 → Below w10.heap.size w10 w5) := hide fun w2 w5 h2 h5 => h2.trans (h5.mono h2.size)
            have hb10 : Below w10.heap.size w10 w10 := Below.refl _ _
            clear HI1 HB0 HXi HC1 HC2
            obtain ⟨x0, x1, x2, x3⟩ := (unhide HNet _ hb10).1
            go_wp2_with fail
            go_at_call 8
            refine (unhide HWa _).mono ?_
            rintro e w11 ⟨rfl, h11⟩
            have h11' := h11.symm
            subst h11'
            clear h11
            go_wp2_with fail
            go_at_call 8
            refine (unhide HWb _).mono ?_
            rintro e w12 ⟨rfl, h12⟩
            have h12' := h12.symm
            subst h12'
            clear h12
            go_wp2_with fail
            go_at_call 9
            refine (rmflow_any _ _ _ _ _ (s : Int) (t : Int) _ (unhide HNet _ hb10).2.1 (unhide HRq)).mono ?_
            rintro e w13 ⟨lv, P1, L1, xv, rfl, -, hR, hl13⟩
            have hb13 := unhide HTR _ _ hb10 hl13
            have HR := hide hR
            clear x0 x1 x2 x3 hl13 hb10 hR HWa HWb HRq
            by_cases hst : s = t
            · have hE := (unhide HRim).1 hst
              have e1 : ((s : Int) == (t : Int)) = true := by rw [hst]; exact beq_self_eq_true _
              have HF := hide (unhide HNet _ hb13).2.2.1
              rw [hE]
              clear HRim HR hE hst HNet
              go_wp2
              rw [unhide HP]
              exact ⟨by rfl, unhide HF⟩
            · obtain ⟨hE, hval⟩ := (unhide HRim).2 hst
              have hxv := hval _ _ _ (unhide HR)
              have e1 : ((s : Int) == (t : Int)) = false := beq_eq_false_iff_ne.2 (by omega)
              rw [hE]
              clear HRim HR hE hval
              obtain ⟨k1, k2, k3, k4⟩ := Sp.gap_go hsK htK hst
              obtain ⟨l1, l2, l3, l4⟩ := Sp.gap_go htK hsK (fun e => hst e.symm)
              have HG1 := hide (And.intro k3 k4)
              have HG2 := hide (And.intro l3 l4)
              have HGL := hide (fun j => Sp.go_lt hsK j)
              have HGL2 := hide (fun j => Sp.go_lt htK j)
              have hm1 := Sp.mnC_ge (k := K) (s := s) (c := c9) (a := 0) (by omega) (Sp.gap K s t) (fun i _ => ((unhide HCb) _ (Sp.go_lt hsK i)).1)
              have hm2 := Sp.mnC_ge (k := K) (s := t) (c := c9) (a := 0) (by omega) (Sp.gap K t s) (fun i _ => ((unhide HCb) _ (Sp.go_lt htK i)).1)
              have hu1 := Int.le_trans (Sp.mnC_le (k := K) (s := s) (c := c9) (Sp.gap K s t) 0 k1) ((unhide HCb) _ (Sp.go_lt hsK 0)).2
              have hu2 := Int.le_trans (Sp.mnC_le (k := K) (s := t) (c := c9) (Sp.gap K t s) 0 l1) ((unhide HCb) _ (Sp.go_lt htK 0)).2
              have Hxv := hide (And.intro hxv (And.intro (And.intro hm1 hm2) (And.intro hu1 hu2)))
              obtain ⟨A, hA⟩ : ∃ A, Sp.gap K s t = A := ⟨_, rfl⟩
              obtain ⟨B, hB⟩ : ∃ B, Sp.gap K t s = B := ⟨_, rfl⟩
              rw [hA] at HG1 Hxv k1 k2
              rw [hB] at HG2 Hxv l1 l2
              have HMM := hide (unhide HM)
              clear k3 k4 l3 l4 hxv hm1 hm2 hu1 hu2 hA hB hst
              have HI13 := hide hb13
              clear hb13
              go_wp2
              go_loopg [21, 23] A (fun gg s21 s23 wr => ∃ j : Nat, j + gg = A ∧ s21 = .int .i64 (Sp.mnC K s c9 j) ∧ s23 = .int .i64 ((Sp.go K s j : Nat) : Int) ∧ Hid (Below w10.heap.size w10 wr))
              case atStart => exact ⟨0, by omega, rfl, rfl, HI13⟩
              case round =>
                clear HI13
                obtain ⟨j, hjg, rfl, rfl, HI13⟩ := hrel
                obtain ⟨⟨x0, x1, x2, x3⟩, -, -, hcc⟩ := unhide HNet _ (unhide HI13)
                cases gk with
                | succ g' =>
                  have hne := (unhide HG1).2 j (by omega)
                  have hgl := unhide HGL j
                  have c1 := hcc _ hgl
                  obtain ⟨i, hi⟩ : ∃ i, Sp.go K s j = i := ⟨_, rfl⟩
                  have hn1 : Sp.go K s (j + 1) = Sp.sc K i := by rw [← hi]; rfl
                  have hn2 : Sp.mnC K s c9 (j + 1) = min (Sp.mnC K s c9 j) (c9 i) := by rw [← hi]; rfl
                  rw [hi] at hne hgl c1 ⊢
                  obtain ⟨a, ha⟩ : ∃ a, 2 * i = a := ⟨_, rfl⟩
                  have haw : IntKind.i64.wrap (2 * (i : Int)) = (a : Int) := by rw [IntKind.wrap_i64]; omega
                  have haI : (a : Int) < (M : Int) := by have := unhide HMM; omega
                  rw [ha] at c1
                  have hiw : IntKind.i64.wrap ((i : Int) + 1) = ((i + 1 : Nat) : Int) := by rw [IntKind.wrap_i64]; omega
                  obtain ⟨i1, hi1⟩ : ∃ i1, i + 1 = i1 := ⟨_, rfl⟩
                  obtain ⟨y, hy⟩ : ∃ y, Sp.sc K i = y := ⟨_, rfl⟩
                  have hrm : ((i1 : Nat) : Int).tmod (K : Int) = (y : Int) := by
                    rw [Int.tmod_eq_emod_of_nonneg (by omega), ← hy, ← Sp.sc_mod hgl, ← hi1]; omega
                  rw [hi1] at hiw
                  have hyw : IntKind.i64.wrap (y : Int) = (y : Int) := by have := Sp.sc_lt hgl; rw [IntKind.wrap_i64]; omega
                  have hK0 : ¬ (K : Int) = 0 := by omega
                  have hK0N : ¬ K = 0 := by omega
                  have hK0b : ((K : Int) == 0) = false := beq_eq_false_iff_ne.2 hK0
                  have e2 : ((i : Int) != ((t : Int) : Int)) = true := bne_iff_ne.2 (by omega)
                  have HN := hide (And.intro hn1 hn2)
                  have Hy := hide hy
                  obtain ⟨m0, hm0⟩ : ∃ m0, Sp.mnC K s c9 j = m0 := ⟨_, rfl⟩
                  obtain ⟨cz, hcz⟩ : ∃ cz, c9 i = cz := ⟨_, rfl⟩
                  have Hm0 := hide (And.intro hm0 hcz)
                  rw [hm0]
                  rw [hcz] at c1
                  clear hi hn1 hn2 hcc hne ha hi1 hy hm0 hcz hK0
                  by_cases hlz : m0 ≤ cz
                  · have hlz2 : ¬ cz < m0 := by omega
                    go_wp2
                    go_roundg g'
                    case rel => exact ⟨j + 1, by omega, by rw [(unhide HN).2, (unhide Hm0).1, (unhide Hm0).2, Int.min_eq_left hlz], by rw [(unhide HN).1, unhide Hy], HI13⟩
                    case measure => omega
                  · have hlz2 : cz < m0 := by omega
                    go_wp2
                    go_roundg g'
                    case rel => exact ⟨j + 1, by omega, by rw [(unhide HN).2, (unhide Hm0).1, (unhide Hm0).2, Int.min_eq_right (by omega)], by rw [(unhide HN).1, unhide Hy], HI13⟩
                    case measure => omega
                | zero =>
                  have hje : j = A := by omega
                  rw [hje, (unhide HG1).1]
                  have e2 : (((t : Int) : Int) != ((t : Int) : Int)) = false := bne_self_eq_false _
                  clear hje hjg hcc
                  go_wp2
                  clear e2 x0 x1 x2 x3
                  go_loopg [22, 24] B (fun gg s22 s24 wr => ∃ j : Nat, j + gg = B ∧ s22 = .int .i64 (Sp.mnC K t c9 j) ∧ s24 = .int .i64 ((Sp.go K t j : Nat) : Int) ∧ Hid (Below w10.heap.size w10 wr))
                  case atStart => exact ⟨0, by omega, rfl, rfl, HI13⟩
                  case round =>
                    clear HI13
                    obtain ⟨j, hjg, rfl, rfl, HI13⟩ := hrel
                    obtain ⟨⟨x0, x1, x2, x3⟩, -, -, hcc⟩ := unhide HNet _ (unhide HI13)
                    cases gk with
                    | succ g' =>
                      have hne := (unhide HG2).2 j (by omega)
                      have hgl := unhide HGL2 j
                      have c1 := hcc _ hgl
                      obtain ⟨i, hi⟩ : ∃ i, Sp.go K t j = i := ⟨_, rfl⟩
                      have hn1 : Sp.go K t (j + 1) = Sp.sc K i := by rw [← hi]; rfl
                      have hn2 : Sp.mnC K t c9 (j + 1) = min (Sp.mnC K t c9 j) (c9 i) := by rw [← hi]; rfl
                      rw [hi] at hne hgl c1 ⊢
                      obtain ⟨a, ha⟩ : ∃ a, 2 * i = a := ⟨_, rfl⟩
                      have haw : IntKind.i64.wrap (2 * (i : Int)) = (a : Int) := by rw [IntKind.wrap_i64]; omega
                      have haI : (a : Int) < (M : Int) := by have := unhide HMM; omega
                      rw [ha] at c1
                      have hiw : IntKind.i64.wrap ((i : Int) + 1) = ((i + 1 : Nat) : Int) := by rw [IntKind.wrap_i64]; omega
                      obtain ⟨i1, hi1⟩ : ∃ i1, i + 1 = i1 := ⟨_, rfl⟩
                      obtain ⟨y, hy⟩ : ∃ y, Sp.sc K i = y := ⟨_, rfl⟩
                      have hrm : ((i1 : Nat) : Int).tmod (K : Int) = (y : Int) := by
                        rw [Int.tmod_eq_emod_of_nonneg (by omega), ← hy, ← Sp.sc_mod hgl, ← hi1]; omega
                      rw [hi1] at hiw
                      have hyw : IntKind.i64.wrap (y : Int) = (y : Int) := by have := Sp.sc_lt hgl; rw [IntKind.wrap_i64]; omega
                      have hK0 : ¬ (K : Int) = 0 := by omega
                      have hK0N : ¬ K = 0 := by omega
                      have hK0b : ((K : Int) == 0) = false := beq_eq_false_iff_ne.2 hK0
                      have e2 : ((i : Int) != ((s : Int) : Int)) = true := bne_iff_ne.2 (by omega)
                      have HN := hide (And.intro hn1 hn2)
                      have Hy := hide hy
                      obtain ⟨m0, hm0⟩ : ∃ m0, Sp.mnC K t c9 j = m0 := ⟨_, rfl⟩
                      obtain ⟨cz, hcz⟩ : ∃ cz, c9 i = cz := ⟨_, rfl⟩
                      have Hm0 := hide (And.intro hm0 hcz)
                      rw [hm0]
                      rw [hcz] at c1
                      clear hi hn1 hn2 hcc hne ha hi1 hy hm0 hcz hK0
                      by_cases hlz : m0 ≤ cz
                      · have hlz2 : ¬ cz < m0 := by omega
                        go_wp2
                        go_roundg g'
                        case rel => exact ⟨j + 1, by omega, by rw [(unhide HN).2, (unhide Hm0).1, (unhide Hm0).2, Int.min_eq_left hlz], by rw [(unhide HN).1, unhide Hy], HI13⟩
                        case measure => omega
                      · have hlz2 : cz < m0 := by omega
                        go_wp2
                        go_roundg g'
                        case rel => exact ⟨j + 1, by omega, by rw [(unhide HN).2, (unhide Hm0).1, (unhide Hm0).2, Int.min_eq_right (by omega)], by rw [(unhide HN).1, unhide Hy], HI13⟩
                        case measure => omega
                    | zero =>
                      have hje : j = B := by omega
                      rw [hje, (unhide HG2).1]
                      have e2 : (((s : Int) : Int) != ((s : Int) : Int)) = false := bne_self_eq_false _
                      clear hje hjg hcc
                      have hx := unhide Hxv
                      rw [hx.1]
                      obtain ⟨m1, hm1⟩ : ∃ m1, Sp.mnC K s c9 A = m1 := ⟨_, rfl⟩
                      obtain ⟨m2, hm2⟩ : ∃ m2, Sp.mnC K t c9 B = m2 := ⟨_, rfl⟩
                      rw [hm1, hm2] at hx ⊢
                      have hw : IntKind.i64.wrap (m1 + m2) = m1 + m2 := by rw [IntKind.wrap_i64]; omega
                      have e3 : (m1 + m2 == m1 + m2) = true := beq_self_eq_true _
                      have HF := hide (unhide HNet _ (unhide HI13)).2.2.1
                      clear hx hm1 hm2 Hxv HNet
                      go_wp2
                      rw [unhide HP]
                      exact ⟨by rfl, unhide HF⟩
end Go.Proofs.Ytoegjnolccabjab


