/- What the proof needs, part 10. -/
import Derived.Test.YtenffkplneimlabL9
/- The law TreeKnown, walked. -/
namespace Go.Proofs.Ytenffkplneimlab
open Go Go.RowKit

/-- A round's darts. -/
def Sp.knT (k : Nat) : Nat → List Int
  | 0 => List.replicate (2 * k) 0
  | e + 1 => ((Sp.knT k e).set (2 * e) (e : Int)).set (2 * e + 1) (((e + 1) % k : Nat) : Int)
def Sp.knX (k : Nat) : Nat → List Int
  | 0 => List.replicate (2 * k) 0
  | v + 1 => ((Sp.knX k v).set (2 * v) ((2 * ((v + k - 1) % k) + 1 : Nat) : Int)).set (2 * ((v + k - 1) % k) + 1) ((2 * v : Nat) : Int)
def Sp.kn (k : Nat) : Sp.Net := ⟨(k : Int), Sp.knT k k, Sp.knX k k, List.replicate (2 * k) 0⟩
def Sp.knW (k r v : Nat) : Option (List Int) := Sp.wayGo (Sp.kn k).tail (Sp.span (Sp.kn k) (r : Int)) (k + 1) v []
def Sp.knF (k r : Nat) : Nat → Nat
  | 0 => 0
  | v + 1 => max (Sp.knF k r v) ((Sp.knW k r v).getD []).length
def Sp.knOk (k r : Nat) : Bool :=
  Sp.rightB (Sp.kn k) (Sp.span (Sp.kn k) (r : Int)) (r : Int) && (decide ((Sp.leftL (Sp.kn k) (Sp.span (Sp.kn k) (r : Int))).length = 1) && (decide (Sp.knF k r k = k / 2) && ((List.range k).all fun v => (Sp.knW k r v).isSome)))
theorem kn_okF : ∀ k : Fin 12, ∀ r : Fin 12, 3 ≤ k.val → r.val < k.val → Sp.knOk k.val r.val = true := by decide +kernel
theorem kn_okN : ∀ k : Fin 12, 3 ≤ k.val → Sp.checkI (Sp.kn k.val) = 0 ∧ (Sp.kn k.val).tail.all (fun x => decide (0 ≤ x ∧ x < ((k.val : Nat) : Int))) = true ∧ (Sp.kn k.val).tail.length = 2 * k.val ∧ (Sp.kn k.val).next.length = 2 * k.val := by decide +kernel
theorem Sp.knT_len (k : Nat) : ∀ e, (Sp.knT k e).length = 2 * k
  | 0 => by simp [Sp.knT]
  | e + 1 => by simp [Sp.knT, Sp.knT_len k e]
theorem Sp.knX_len (k : Nat) : ∀ e, (Sp.knX k e).length = 2 * k
  | 0 => by simp [Sp.knX]
  | e + 1 => by simp [Sp.knX, Sp.knX_len k e]
/-- A net in a block of its own, its three rows in theirs. -/
structure KnAt (B : Nat) (w0 : World) (g g1 g2 g3 K M : Nat) (wx : World) (T X Z : List Int) : Prop where
  bel : Below B w0 wx
  ob : wx.heap[g]? = some (.cells #[.int .i64 (K : Int), .slice (some ⟨g1, 0, none⟩) M M, .slice (some ⟨g2, 0, none⟩) M M, .slice (some ⟨g3, 0, none⟩) M M] 25 (0, 0))
  o1 : OwnI wx B (.slice (some ⟨g1, 0, none⟩) M M) T
  o2 : OwnI wx B (.slice (some ⟨g2, 0, none⟩) M M) X
  o3 : OwnI wx B (.slice (some ⟨g3, 0, none⟩) M M) Z
  n : g ≠ g1 ∧ g ≠ g2 ∧ g ≠ g3 ∧ g1 ≠ g2 ∧ g1 ≠ g3 ∧ g2 ≠ g3
  b : B ≤ g ∧ B ≤ g1 ∧ B ≤ g2 ∧ B ≤ g3
theorem kn_own {g g' : Nat} {w w' : World} {B n c : Nat} {l : List Int} (h : OwnI w B (.slice (some ⟨g', 0, none⟩) n c) l) (hb : ButRow g w w') (hne : g' ≠ g) : OwnI w' B (.slice (some ⟨g', 0, none⟩) n c) l :=
  own_but h hb (by simpa [Value.ownBlock] using hne)
theorem kn_met {K M B g g1 g2 g3 : Nat} {w0 X : World} {l1 l2 l3 : List Int} (hA : X.heap[g]? = some (.cells #[.int .i64 0, .slice none 0 0, .slice none 0 0, .slice none 0 0] 25)) (o1 : OwnI X B (.slice (some ⟨g1, 0, none⟩) M M) l1) (o2 : OwnI X B (.slice (some ⟨g2, 0, none⟩) M M) l2) (o3 : OwnI X B (.slice (some ⟨g3, 0, none⟩) M M) l3)
    (n1 : g ≠ g1) (n2 : g ≠ g2) (n3 : g ≠ g3) (n4 : g1 ≠ g2) (n5 : g1 ≠ g3) (n6 : g2 ≠ g3) (hb : Below B w0 X) (b0 : B ≤ g) (b1 : B ≤ g1) (b2 : B ≤ g2) (b3 : B ≤ g3) :
    KnAt B w0 g g1 g2 g3 K M ((((X.setCell ⟨g, 0, none⟩ (.int .i64 (K : Int))).setCell ⟨g, 1, none⟩ (.slice (some ⟨g1, 0, none⟩) M M)).setCell ⟨g, 2, none⟩ (.slice (some ⟨g2, 0, none⟩) M M)).setCell ⟨g, 3, none⟩ (.slice (some ⟨g3, 0, none⟩) M M)) l1 l2 l3 := by
  have hbut : ButRow g X ((((X.setCell ⟨g, 0, none⟩ (.int .i64 (K : Int))).setCell ⟨g, 1, none⟩ (.slice (some ⟨g1, 0, none⟩) M M)).setCell ⟨g, 2, none⟩ (.slice (some ⟨g2, 0, none⟩) M M)).setCell ⟨g, 3, none⟩ (.slice (some ⟨g3, 0, none⟩) M M)) := ((((ButRow.refl g X).setCell 0 _).setCell 1 _).setCell 2 _).setCell 3 _
  exact ⟨(((hb.setCell (by exact b0) _).setCell (by exact b0) _).setCell (by exact b0) _).setCell (by exact b0) _, four_cells hA _ _ _ _, kn_own o1 hbut n1.symm, kn_own o2 hbut n2.symm, kn_own o3 hbut n3.symm, ⟨n1, n2, n3, n4, n5, n6⟩, ⟨b0, b1, b2, b3⟩⟩
/-- Rows, and a block, that were laid one behind the other. -/
structure KR (B M : Nat) (w0 w : World) (gs A : List Nat) : Prop where
  bel : Below B w0 w
  le : B ≤ w.heap.size
  own : ∀ g ∈ gs, OwnI w B (.slice (some ⟨g, 0, none⟩) M M) (List.replicate M 0) ∧ B ≤ g ∧ g < w.heap.size
  ob : ∀ g ∈ A, w.heap[g]? = some (.cells #[.int .i64 0, .slice none 0 0, .slice none 0 0, .slice none 0 0] 25) ∧ B ≤ g ∧ g < w.heap.size
  nd : (A ++ gs).Nodup
theorem KR.start (B M : Nat) (w : World) (h : B ≤ w.heap.size) : KR B M w w [] [] := ⟨(Below.refl _ _).mono h, h, fun g h => (by cases h), fun g h => (by cases h), List.nodup_nil⟩
theorem KR.fresh {B M : Nat} {w0 w : World} {gs A : List Nat} (h : KR B M w0 w gs A) : w.heap.size ∉ A ++ gs := fun hm => by
  rcases List.mem_append.1 hm with hm | hm
  · have := (h.ob _ hm).2.2; omega
  · have := (h.own _ hm).2.2; omega
theorem KR.make {B M : Nat} {w0 w w' : World} {gs A : List Nat} (h : KR B M w0 w gs A) (ho : OwnI w' w.heap.size (.slice (some ⟨w.heap.size, 0, none⟩) M M) (List.replicate M 0)) (hl : Below w.heap.size w w') : KR B M w0 w' (w.heap.size :: gs) A := by
  have hBs := h.le
  refine ⟨h.bel.trans (hl.mono hBs), Nat.le_trans hBs hl.size, fun g hg => ?_, fun g hg => ?_, ?_⟩
  · rcases List.mem_cons.1 hg with e | hg
    · subst e; exact ⟨own_base ho hBs, hBs, (ho.lt _ rfl).2⟩
    · obtain ⟨a, b, c⟩ := h.own g hg
      exact ⟨own_below a hl, b, Nat.lt_of_lt_of_le c hl.size⟩
  · obtain ⟨a, b, c⟩ := h.ob g hg
    exact ⟨(hl.block _ c).trans a, b, Nat.lt_of_lt_of_le c hl.size⟩
  · obtain ⟨n1, n2, n3⟩ := List.nodup_append.1 h.nd
    refine List.nodup_append.2 ⟨n1, List.nodup_cons.2 ⟨fun hm => h.fresh (List.mem_append.2 (.inr hm)), n2⟩, fun a ha b hb e => ?_⟩
    rcases List.mem_cons.1 hb with e2 | hb
    · exact h.fresh (List.mem_append.2 (.inl (by rw [← e2, ← e]; exact ha)))
    · exact n3 a ha b hb e
theorem KR.alloc {B M : Nat} {w0 w : World} {gs A : List Nat} (h : KR B M w0 w gs A) : KR B M w0 (w.alloc (.cells #[.int .i64 0, .slice none 0 0, .slice none 0 0, .slice none 0 0] 25)) gs (w.heap.size :: A) := by
  have hl : Below w.heap.size w (w.alloc (.cells #[.int .i64 0, .slice none 0 0, .slice none 0 0, .slice none 0 0] 25)) := (Below.refl _ _).alloc (Nat.le_refl _) _
  have hA := heap_alloc_new w (.cells #[.int .i64 0, .slice none 0 0, .slice none 0 0, .slice none 0 0] 25)
  have hBs := h.le
  refine ⟨h.bel.trans (hl.mono hBs), Nat.le_trans hBs hl.size, fun g hg => ?_, fun g hg => ?_, List.nodup_cons.2 ⟨h.fresh, h.nd⟩⟩
  · obtain ⟨a, b, c⟩ := h.own g hg
    exact ⟨own_below a hl, b, Nat.lt_of_lt_of_le c hl.size⟩
  · rcases List.mem_cons.1 hg with e | hg
    · subst e; exact ⟨hA, hBs, heap_lt hA⟩
    · obtain ⟨a, b, c⟩ := h.ob g hg
      exact ⟨(hl.block _ c).trans a, b, Nat.lt_of_lt_of_le c hl.size⟩
theorem KR.met {K M B g g1 g2 g3 : Nat} {w0 X : World} {gs : List Nat} (h : KR B M w0 X gs [g]) (m1 : g1 ∈ gs) (m2 : g2 ∈ gs) (m3 : g3 ∈ gs) (n4 : g1 ≠ g2) (n5 : g1 ≠ g3) (n6 : g2 ≠ g3) :
    KnAt B w0 g g1 g2 g3 K M ((((X.setCell ⟨g, 0, none⟩ (.int .i64 (K : Int))).setCell ⟨g, 1, none⟩ (.slice (some ⟨g1, 0, none⟩) M M)).setCell ⟨g, 2, none⟩ (.slice (some ⟨g2, 0, none⟩) M M)).setCell ⟨g, 3, none⟩ (.slice (some ⟨g3, 0, none⟩) M M)) (List.replicate M 0) (List.replicate M 0) (List.replicate M 0) := by
  obtain ⟨hA, bA, -⟩ := h.ob g (by simp)
  obtain ⟨o1, b1, -⟩ := h.own g1 m1
  obtain ⟨o2, b2, -⟩ := h.own g2 m2
  obtain ⟨o3, b3, -⟩ := h.own g3 m3
  have hn := (List.nodup_cons.1 (show (g :: gs).Nodup from h.nd)).1
  have ne : ∀ x, x ∈ gs → g ≠ x := fun x hx e => hn (by rw [e]; exact hx)
  exact kn_met hA o1 o2 o3 (ne _ m1) (ne _ m2) (ne _ m3) n4 n5 n6 h.bel bA b1 b2 b3
theorem KnAt.below {B g g1 g2 g3 K M : Nat} {w0 wx w5 : World} {T X Z : List Int} (h : KnAt B w0 g g1 g2 g3 K M wx T X Z) (hb : Below wx.heap.size wx w5) : KnAt B w0 g g1 g2 g3 K M w5 T X Z :=
  ⟨h.bel.trans (hb.mono (by have := heap_lt h.ob; have := h.b.1; omega)), (hb.block _ (heap_lt h.ob)).trans h.ob, own_below h.o1 hb, own_below h.o2 hb, own_below h.o3 hb, h.n, h.b⟩
theorem KnAt.setT {B g g1 g2 g3 K M : Nat} {w0 wx : World} {T X Z : List Int} (h : KnAt B w0 g g1 g2 g3 K M wx T X Z) (x : Nat) (v : Int) : KnAt B w0 g g1 g2 g3 K M (wx.setCell ⟨g1, x, none⟩ (.int .i64 v)) (T.set x v) X Z := by
  have hbut : ButRow g1 wx (wx.setCell ⟨g1, x, none⟩ (.int .i64 v)) := (ButRow.refl g1 wx).setCell x _
  obtain ⟨n1, n2, n3, n4, n5, n6⟩ := h.n
  exact ⟨h.bel.setCell (by exact h.b.2.1) _, (hbut.block g n1).trans h.ob, own_setCell h.o1 x v, kn_own h.o2 hbut n4.symm, kn_own h.o3 hbut n5.symm, h.n, h.b⟩
theorem KnAt.setX {B g g1 g2 g3 K M : Nat} {w0 wx : World} {T X Z : List Int} (h : KnAt B w0 g g1 g2 g3 K M wx T X Z) (x : Nat) (v : Int) : KnAt B w0 g g1 g2 g3 K M (wx.setCell ⟨g2, x, none⟩ (.int .i64 v)) T (X.set x v) Z := by
  have hbut : ButRow g2 wx (wx.setCell ⟨g2, x, none⟩ (.int .i64 v)) := (ButRow.refl g2 wx).setCell x _
  obtain ⟨n1, n2, n3, n4, n5, n6⟩ := h.n
  exact ⟨h.bel.setCell (by exact h.b.2.2.1) _, (hbut.block g n2).trans h.ob, kn_own h.o1 hbut n4, own_setCell h.o2 x v, kn_own h.o3 hbut n6.symm, h.n, h.b⟩
set_option maxRecDepth 100000 in
set_option maxHeartbeats 8000000 in
theorem treeKnown_any (size at_ : Int) (w : World) :
    Calls Try.prog 4 #[.int .i64 size, .int .i64 at_] w fun e w' => e = .returned (.bool true) ∧ Below w.heap.size w w' := by
  obtain ⟨P, hP⟩ : ∃ P : Ending → World → Prop, P = fun e w' => e = .returned (.bool true) ∧ Below w.heap.size w w' := ⟨_, rfl⟩
  rw [← hP]
  have HP := hide hP
  clear hP
  have HWs := hide (fun w' => within4_any size 9 w' (by decide) (by decide))
  obtain ⟨s9, hs9⟩ : ∃ s : Nat, size % 9 = (s : Int) := ⟨(size % 9).toNat, by omega⟩
  rw [hs9] at HWs
  obtain ⟨K, hK⟩ : ∃ K, 3 + s9 = K := ⟨_, rfl⟩
  have hK3 : 3 ≤ K := by omega
  have hK11 : K ≤ 11 := by omega
  have hKw : IntKind.i64.wrap (3 + (s9 : Int)) = (K : Int) := by rw [IntKind.wrap_i64]; omega
  obtain ⟨M, hM⟩ : ∃ M, 2 * K = M := ⟨_, rfl⟩
  have hMw : IntKind.i64.wrap (2 * (K : Int)) = (M : Int) := by rw [IntKind.wrap_i64]; omega
  have hM22 : M ≤ 22 := by omega
  have HM := hide hM
  have HWa := hide (fun w' => within4_any at_ K w' (by omega) (by omega))
  obtain ⟨r, hr⟩ : ∃ r : Nat, at_ % (K : Int) = (r : Int) := ⟨(at_ % (K : Int)).toNat, by have := Int.emod_nonneg at_ (show (K : Int) ≠ 0 by omega); omega⟩
  have hrK : r < K := by have := Int.emod_lt_of_pos at_ (show (0 : Int) < (K : Int) by omega); omega
  rw [hr] at HWa
  have hok : Sp.knOk K r = true := kn_okF ⟨K, by omega⟩ ⟨r, by omega⟩ hK3 hrK
  have HN : Hid (Sp.checkI (Sp.kn K) = 0 ∧ (Sp.kn K).tail.all (fun x => decide (0 ≤ x ∧ x < (K : Int))) = true ∧ (Sp.kn K).tail.length = 2 * K ∧ (Sp.kn K).next.length = 2 * K) := hide (kn_okN ⟨K, by omega⟩ hK3)
  unfold Sp.knOk at hok
  simp only [Bool.and_eq_true, decide_eq_true_eq, List.all_eq_true, List.mem_range] at hok
  obtain ⟨hR, hL1, hFa, hWy⟩ := hok
  have HR := hide hR
  have HL1 := hide hL1
  have HFa := hide hFa
  have HWy := hide hWy
  clear hR hL1 hFa hWy hr hK hM hs9
  obtain ⟨Fm, hF⟩ := make_runs M (by omega)
  have hF1 := fun w => (hF w).1
  have hF2 := hide fun w => (hF w).2.1
  have hF3 := hide fun w => (hF w).2.2
  clear hF
  go_enter Try.func4, Try.ntmps4
  go_wp2_with fail
  go_at_call 6
  refine (known4_any w).mono ?_
  rintro e w2 ⟨rfl, hb2⟩
  have Hb2 := hide hb2
  clear hb2
  go_wp2_with fail
  go_at_call 8
  refine (unhide HWs _).mono ?_
  rintro e w3 ⟨rfl, h3⟩
  have h3' := h3.symm
  subst h3'
  clear h3
  go_upto_region 4 with fail
  obtain ⟨w0q, hw0q⟩ : ∃ wq, wq = w2.drew := ⟨_, rfl⟩
  have HB0 : Hid (∀ w', Below w2.heap.size w0q w' → Below w.heap.size w w') := hide fun w' hb => by
    have h := (unhide Hb2).drew
    rw [← hw0q] at h
    exact h.trans (hb.mono (unhide Hb2).size)
  have HW0 := hide hw0q
  clear HWs hw0q
  go_cut [6] (fun s6 wx => ∃ g g1 g2 g3, s6 = .pointer (some ⟨g, 0, none⟩) ∧ Hid (KnAt w2.heap.size w0q g g1 g2 g3 K M wx (List.replicate M 0) (List.replicate M 0) (List.replicate M 0)))
  case first =>
    have HX0 := hide (KR.start w2.heap.size M w0q (by rw [unhide HW0]; exact Nat.le_refl _))
    refine wp_region_G (fun _ => True) (fun i => i == 12) (by kernel_rfl) trivial (fun hHeld => ?_)
    rw [← unhide HW0]
    refine wpAnyG_take (v := ?_) 0 (by rfl) (by kernel_rfl) (by kernel_rfl) (by kernel_rfl) (by kernel_rfl) (fun _ _ _ h => h) (Or.inl ⟨by rfl, ?_⟩) (by assumption) ?_
    rotate_left
    · (intro w' hSw; (try dsimp only at hSw); (try simp only [List.getElem_toArray, List.getElem_cons_zero]); go_simp; try (with_reducible rfl))
    simp only [Act.put, List.getElem_toArray, List.getElem_cons_zero, List.setIfInBounds_toArray, List.set_cons_zero, List.set_cons_succ]
    refine wpAnyG_take (v := ?_) 1 (by rfl) (by kernel_rfl) (by kernel_rfl) (by kernel_rfl) (by kernel_rfl) (fun _ _ _ h => h) (Or.inl ⟨by rfl, ?_⟩) (by assumption) ?_
    rotate_left
    · (intro w' hSw; (try dsimp only at hSw); (try simp only [List.getElem_toArray, List.getElem_cons_succ, List.getElem_cons_zero]); go_simp; try (with_reducible rfl))
    simp only [Act.put, List.getElem_toArray, List.getElem_cons_succ, List.getElem_cons_zero, List.setIfInBounds_toArray, List.set_cons_zero, List.set_cons_succ]
    refine wpAnyG_take (v := ?_) 2 (by rfl) (by kernel_rfl) (by kernel_rfl) (by kernel_rfl) (by kernel_rfl) (fun _ _ _ h => h) (Or.inl ⟨by rfl, ?_⟩) (by assumption) ?_
    rotate_left
    · (intro w' hSw; (try dsimp only at hSw); (try simp only [List.getElem_toArray, List.getElem_cons_succ, List.getElem_cons_zero]); go_simp; try (with_reducible rfl))
    simp only [Act.put, List.getElem_toArray, List.getElem_cons_succ, List.getElem_cons_zero, List.setIfInBounds_toArray, List.set_cons_zero, List.set_cons_succ]
    refine wpAnyG_take (v := ?_) 4 (by rfl) (by kernel_rfl) (by kernel_rfl) (by kernel_rfl) (by kernel_rfl) (fun _ _ _ h => h) (Or.inl ⟨by rfl, ?_⟩) (by assumption) ?_
    rotate_left
    · (intro w' hSw; (try dsimp only at hSw); (try simp only [List.getElem_toArray, List.getElem_cons_succ, List.getElem_cons_zero]); go_simp; try (with_reducible rfl))
    simp only [Act.put, List.getElem_toArray, List.getElem_cons_succ, List.getElem_cons_zero, List.setIfInBounds_toArray, List.set_cons_zero, List.set_cons_succ]
    refine wpAnyG_take (v := ?_) 5 (by rfl) (by kernel_rfl) (by kernel_rfl) (by kernel_rfl) (by kernel_rfl) (fun _ _ _ h => h) (Or.inl ⟨by rfl, ?_⟩) (by assumption) ?_
    rotate_left
    · (intro w' hSw; (try dsimp only at hSw); (try simp only [List.getElem_toArray, List.getElem_cons_succ, List.getElem_cons_zero]); go_simp; try (with_reducible rfl))
    simp only [Act.put, List.getElem_toArray, List.getElem_cons_succ, List.getElem_cons_zero, List.setIfInBounds_toArray, List.set_cons_zero, List.set_cons_succ]
    refine wpAnyG_take (v := ?_) 7 (by rfl) (by kernel_rfl) (by kernel_rfl) (by kernel_rfl) (by kernel_rfl) (fun _ _ _ h => h) (Or.inl ⟨by rfl, ?_⟩) (by assumption) ?_
    rotate_left
    · (intro w' hSw; (try dsimp only at hSw); (try simp only [List.getElem_toArray, List.getElem_cons_succ, List.getElem_cons_zero]); go_simp; try (with_reducible rfl))
    simp only [Act.put, List.getElem_toArray, List.getElem_cons_succ, List.getElem_cons_zero, List.setIfInBounds_toArray, List.set_cons_zero, List.set_cons_succ]
    refine wpAnyG_take (v := ?_) 8 (by rfl) (by kernel_rfl) (by kernel_rfl) (by kernel_rfl) (by kernel_rfl) (fun _ _ _ h => h) (Or.inl ⟨by rfl, ?_⟩) (by assumption) ?_
    rotate_left
    · (intro w' hSw; (try dsimp only at hSw); (try simp only [List.getElem_toArray, List.getElem_cons_succ, List.getElem_cons_zero]); go_simp; try (with_reducible rfl))
    simp only [Act.put, List.getElem_toArray, List.getElem_cons_succ, List.getElem_cons_zero, List.setIfInBounds_toArray, List.set_cons_zero, List.set_cons_succ]
    refine wpAnyG_ready [3, 6, 9, 11] (by kernel_rfl) (by simp) ?_
    refine AllReadyG.cons 3 (by rfl) (fun K hK => ?_) ?_
    · simp only [List.getElem_toArray, List.getElem_cons_succ, List.getElem_cons_zero]
      go_simp
      refine hK.out _ _ trivial (fun _ => ?_)
      clear hK K
      try simp only [Act.put, List.setIfInBounds_toArray, List.set_cons_zero, List.set_cons_succ]
      have HX1 := hide ((unhide HX0).make (unhide hF2 w0q) (unhide hF3 w0q))
      obtain ⟨G1, hG1⟩ : ∃ g, w0q.heap.size = g := ⟨_, rfl⟩
      rw [hG1] at HX1
      try rw [hG1]
      clear hG1 HX0
      generalize Fm w0q = wk1 at *
      refine wpAnyG_ready [6, 9, 11] (by kernel_rfl) (by simp) ?_
      refine AllReadyG.cons 6 (by rfl) (fun K hK => ?_) ?_
      · simp only [List.getElem_toArray, List.getElem_cons_succ, List.getElem_cons_zero]
        go_simp
        refine hK.out _ _ trivial (fun _ => ?_)
        clear hK K
        try simp only [Act.put, List.setIfInBounds_toArray, List.set_cons_zero, List.set_cons_succ]
        have HX2 := hide ((unhide HX1).make (unhide hF2 wk1) (unhide hF3 wk1))
        obtain ⟨G2, hG2⟩ : ∃ g, wk1.heap.size = g := ⟨_, rfl⟩
        rw [hG2] at HX2
        try rw [hG2]
        clear hG2 HX1
        generalize Fm wk1 = wk2 at *
        refine wpAnyG_ready [9, 11] (by kernel_rfl) (by simp) ?_
        refine AllReadyG.cons 9 (by rfl) (fun K hK => ?_) ?_
        · simp only [List.getElem_toArray, List.getElem_cons_succ, List.getElem_cons_zero]
          go_simp
          refine hK.out _ _ trivial (fun _ => ?_)
          clear hK K
          try simp only [Act.put, List.setIfInBounds_toArray, List.set_cons_zero, List.set_cons_succ]
          have HX3 := hide ((unhide HX2).make (unhide hF2 wk2) (unhide hF3 wk2))
          obtain ⟨G3, hG3⟩ : ∃ g, wk2.heap.size = g := ⟨_, rfl⟩
          rw [hG3] at HX3
          try rw [hG3]
          clear hG3 HX2
          generalize Fm wk2 = wk3 at *
          refine wpAnyG_take (v := ?_) 10 (by rfl) (by kernel_rfl) (by kernel_rfl) (by kernel_rfl) (by kernel_rfl) (fun _ _ _ h => h) (Or.inl ⟨by rfl, ?_⟩) (by assumption) ?_
          rotate_left
          · (intro w' hSw; (try dsimp only at hSw); (try simp only [List.getElem_toArray, List.getElem_cons_succ, List.getElem_cons_zero]); go_simp; try (with_reducible rfl))
          simp only [Act.put, List.getElem_toArray, List.getElem_cons_succ, List.getElem_cons_zero, List.setIfInBounds_toArray, List.set_cons_zero, List.set_cons_succ]
          refine wpAnyG_ready [11] (by kernel_rfl) (by simp) ?_
          refine AllReadyG.cons 11 (by rfl) (fun K hK => ?_) ?_
          · simp only [List.getElem_toArray, List.getElem_cons_succ, List.getElem_cons_zero]
            go_simp
            refine hK.out _ _ trivial (fun _ => ?_)
            clear hK K
            try simp only [Act.put, List.setIfInBounds_toArray, List.set_cons_zero, List.set_cons_succ]
            have HX4 := hide (unhide HX3).alloc
            obtain ⟨GA, hGA⟩ : ∃ g, wk3.heap.size = g := ⟨_, rfl⟩
            rw [hGA] at HX4
            try rw [hGA]
            clear hGA HX3
            generalize wk3.alloc (.cells #[.int .i64 0, .slice none 0 0, .slice none 0 0, .slice none 0 0] 25) = wk4 at *
            obtain ⟨z0, z1, z2, z3, k0, k1, k2, k3⟩ := obj_cells ((unhide HX4).ob GA (by simp)).1
            refine wpAnyG_ready [12] (by kernel_rfl) (by simp) ?_
            refine AllReadyG.last 12 (by rfl) (by kernel_rfl) (fun K hK => ?_) ?_
            · simp only [List.getElem_toArray, List.getElem_cons_succ, List.getElem_cons_zero]
              go_simp
              refine hK.out _ _ ?_
              clear hK K
              try simp only [Act.put, List.setIfInBounds_toArray, List.set_cons_zero, List.set_cons_succ]
              refine wpAnyG_done (by kernel_rfl) ?_ _
              refine NoPanic.normal ?_
              go_wp2
              go_meet
              exact ⟨GA, G1, G2, G3, rfl, hide ((unhide HX4).met (K := K) (g1 := G1) (g2 := G2) (g3 := G3) (by simp) (by simp) (by simp) (by have := (unhide HX4).nd; simp at this; omega) (by have := (unhide HX4).nd; simp at this; omega) (by have := (unhide HX4).nd; simp at this; omega))⟩
            exact AllReadyG.nil
          exact AllReadyG.nil
        refine AllReadyG.cons 11 (by rfl) (fun K hK => ?_) ?_
        · simp only [List.getElem_toArray, List.getElem_cons_succ, List.getElem_cons_zero]
          go_simp
          refine hK.out _ _ trivial (fun _ => ?_)
          clear hK K
          try simp only [Act.put, List.setIfInBounds_toArray, List.set_cons_zero, List.set_cons_succ]
          have HX3 := hide (unhide HX2).alloc
          obtain ⟨GA, hGA⟩ : ∃ g, wk2.heap.size = g := ⟨_, rfl⟩
          rw [hGA] at HX3
          try rw [hGA]
          clear hGA HX2
          generalize wk2.alloc (.cells #[.int .i64 0, .slice none 0 0, .slice none 0 0, .slice none 0 0] 25) = wk3 at *
          refine wpAnyG_ready [9] (by kernel_rfl) (by simp) ?_
          refine AllReadyG.cons 9 (by rfl) (fun K hK => ?_) ?_
          · simp only [List.getElem_toArray, List.getElem_cons_succ, List.getElem_cons_zero]
            go_simp
            refine hK.out _ _ trivial (fun _ => ?_)
            clear hK K
            try simp only [Act.put, List.setIfInBounds_toArray, List.set_cons_zero, List.set_cons_succ]
            have HX4 := hide ((unhide HX3).make (unhide hF2 wk3) (unhide hF3 wk3))
            obtain ⟨G3, hG3⟩ : ∃ g, wk3.heap.size = g := ⟨_, rfl⟩
            rw [hG3] at HX4
            try rw [hG3]
            clear hG3 HX3
            generalize Fm wk3 = wk4 at *
            refine wpAnyG_take (v := ?_) 10 (by rfl) (by kernel_rfl) (by kernel_rfl) (by kernel_rfl) (by kernel_rfl) (fun _ _ _ h => h) (Or.inl ⟨by rfl, ?_⟩) (by assumption) ?_
            rotate_left
            · (intro w' hSw; (try dsimp only at hSw); (try simp only [List.getElem_toArray, List.getElem_cons_succ, List.getElem_cons_zero]); go_simp; try (with_reducible rfl))
            simp only [Act.put, List.getElem_toArray, List.getElem_cons_succ, List.getElem_cons_zero, List.setIfInBounds_toArray, List.set_cons_zero, List.set_cons_succ]
            obtain ⟨z0, z1, z2, z3, k0, k1, k2, k3⟩ := obj_cells ((unhide HX4).ob GA (by simp)).1
            refine wpAnyG_ready [12] (by kernel_rfl) (by simp) ?_
            refine AllReadyG.last 12 (by rfl) (by kernel_rfl) (fun K hK => ?_) ?_
            · simp only [List.getElem_toArray, List.getElem_cons_succ, List.getElem_cons_zero]
              go_simp
              refine hK.out _ _ ?_
              clear hK K
              try simp only [Act.put, List.setIfInBounds_toArray, List.set_cons_zero, List.set_cons_succ]
              refine wpAnyG_done (by kernel_rfl) ?_ _
              refine NoPanic.normal ?_
              go_wp2
              go_meet
              exact ⟨GA, G1, G2, G3, rfl, hide ((unhide HX4).met (K := K) (g1 := G1) (g2 := G2) (g3 := G3) (by simp) (by simp) (by simp) (by have := (unhide HX4).nd; simp at this; omega) (by have := (unhide HX4).nd; simp at this; omega) (by have := (unhide HX4).nd; simp at this; omega))⟩
            exact AllReadyG.nil
          exact AllReadyG.nil
        exact AllReadyG.nil
      refine AllReadyG.cons 9 (by rfl) (fun K hK => ?_) ?_
      · simp only [List.getElem_toArray, List.getElem_cons_succ, List.getElem_cons_zero]
        go_simp
        refine hK.out _ _ trivial (fun _ => ?_)
        clear hK K
        try simp only [Act.put, List.setIfInBounds_toArray, List.set_cons_zero, List.set_cons_succ]
        have HX2 := hide ((unhide HX1).make (unhide hF2 wk1) (unhide hF3 wk1))
        obtain ⟨G3, hG3⟩ : ∃ g, wk1.heap.size = g := ⟨_, rfl⟩
        rw [hG3] at HX2
        try rw [hG3]
        clear hG3 HX1
        generalize Fm wk1 = wk2 at *
        refine wpAnyG_ready [6, 11] (by kernel_rfl) (by simp) ?_
        refine AllReadyG.cons 6 (by rfl) (fun K hK => ?_) ?_
        · simp only [List.getElem_toArray, List.getElem_cons_succ, List.getElem_cons_zero]
          go_simp
          refine hK.out _ _ trivial (fun _ => ?_)
          clear hK K
          try simp only [Act.put, List.setIfInBounds_toArray, List.set_cons_zero, List.set_cons_succ]
          have HX3 := hide ((unhide HX2).make (unhide hF2 wk2) (unhide hF3 wk2))
          obtain ⟨G2, hG2⟩ : ∃ g, wk2.heap.size = g := ⟨_, rfl⟩
          rw [hG2] at HX3
          try rw [hG2]
          clear hG2 HX2
          generalize Fm wk2 = wk3 at *
          refine wpAnyG_take (v := ?_) 10 (by rfl) (by kernel_rfl) (by kernel_rfl) (by kernel_rfl) (by kernel_rfl) (fun _ _ _ h => h) (Or.inl ⟨by rfl, ?_⟩) (by assumption) ?_
          rotate_left
          · (intro w' hSw; (try dsimp only at hSw); (try simp only [List.getElem_toArray, List.getElem_cons_succ, List.getElem_cons_zero]); go_simp; try (with_reducible rfl))
          simp only [Act.put, List.getElem_toArray, List.getElem_cons_succ, List.getElem_cons_zero, List.setIfInBounds_toArray, List.set_cons_zero, List.set_cons_succ]
          refine wpAnyG_ready [11] (by kernel_rfl) (by simp) ?_
          refine AllReadyG.cons 11 (by rfl) (fun K hK => ?_) ?_
          · simp only [List.getElem_toArray, List.getElem_cons_succ, List.getElem_cons_zero]
            go_simp
            refine hK.out _ _ trivial (fun _ => ?_)
            clear hK K
            try simp only [Act.put, List.setIfInBounds_toArray, List.set_cons_zero, List.set_cons_succ]
            have HX4 := hide (unhide HX3).alloc
            obtain ⟨GA, hGA⟩ : ∃ g, wk3.heap.size = g := ⟨_, rfl⟩
            rw [hGA] at HX4
            try rw [hGA]
            clear hGA HX3
            generalize wk3.alloc (.cells #[.int .i64 0, .slice none 0 0, .slice none 0 0, .slice none 0 0] 25) = wk4 at *
            obtain ⟨z0, z1, z2, z3, k0, k1, k2, k3⟩ := obj_cells ((unhide HX4).ob GA (by simp)).1
            refine wpAnyG_ready [12] (by kernel_rfl) (by simp) ?_
            refine AllReadyG.last 12 (by rfl) (by kernel_rfl) (fun K hK => ?_) ?_
            · simp only [List.getElem_toArray, List.getElem_cons_succ, List.getElem_cons_zero]
              go_simp
              refine hK.out _ _ ?_
              clear hK K
              try simp only [Act.put, List.setIfInBounds_toArray, List.set_cons_zero, List.set_cons_succ]
              refine wpAnyG_done (by kernel_rfl) ?_ _
              refine NoPanic.normal ?_
              go_wp2
              go_meet
              exact ⟨GA, G1, G2, G3, rfl, hide ((unhide HX4).met (K := K) (g1 := G1) (g2 := G2) (g3 := G3) (by simp) (by simp) (by simp) (by have := (unhide HX4).nd; simp at this; omega) (by have := (unhide HX4).nd; simp at this; omega) (by have := (unhide HX4).nd; simp at this; omega))⟩
            exact AllReadyG.nil
          exact AllReadyG.nil
        refine AllReadyG.cons 11 (by rfl) (fun K hK => ?_) ?_
        · simp only [List.getElem_toArray, List.getElem_cons_succ, List.getElem_cons_zero]
          go_simp
          refine hK.out _ _ trivial (fun _ => ?_)
          clear hK K
          try simp only [Act.put, List.setIfInBounds_toArray, List.set_cons_zero, List.set_cons_succ]
          have HX3 := hide (unhide HX2).alloc
          obtain ⟨GA, hGA⟩ : ∃ g, wk2.heap.size = g := ⟨_, rfl⟩
          rw [hGA] at HX3
          try rw [hGA]
          clear hGA HX2
          generalize wk2.alloc (.cells #[.int .i64 0, .slice none 0 0, .slice none 0 0, .slice none 0 0] 25) = wk3 at *
          refine wpAnyG_ready [6] (by kernel_rfl) (by simp) ?_
          refine AllReadyG.cons 6 (by rfl) (fun K hK => ?_) ?_
          · simp only [List.getElem_toArray, List.getElem_cons_succ, List.getElem_cons_zero]
            go_simp
            refine hK.out _ _ trivial (fun _ => ?_)
            clear hK K
            try simp only [Act.put, List.setIfInBounds_toArray, List.set_cons_zero, List.set_cons_succ]
            have HX4 := hide ((unhide HX3).make (unhide hF2 wk3) (unhide hF3 wk3))
            obtain ⟨G2, hG2⟩ : ∃ g, wk3.heap.size = g := ⟨_, rfl⟩
            rw [hG2] at HX4
            try rw [hG2]
            clear hG2 HX3
            generalize Fm wk3 = wk4 at *
            refine wpAnyG_take (v := ?_) 10 (by rfl) (by kernel_rfl) (by kernel_rfl) (by kernel_rfl) (by kernel_rfl) (fun _ _ _ h => h) (Or.inl ⟨by rfl, ?_⟩) (by assumption) ?_
            rotate_left
            · (intro w' hSw; (try dsimp only at hSw); (try simp only [List.getElem_toArray, List.getElem_cons_succ, List.getElem_cons_zero]); go_simp; try (with_reducible rfl))
            simp only [Act.put, List.getElem_toArray, List.getElem_cons_succ, List.getElem_cons_zero, List.setIfInBounds_toArray, List.set_cons_zero, List.set_cons_succ]
            obtain ⟨z0, z1, z2, z3, k0, k1, k2, k3⟩ := obj_cells ((unhide HX4).ob GA (by simp)).1
            refine wpAnyG_ready [12] (by kernel_rfl) (by simp) ?_
            refine AllReadyG.last 12 (by rfl) (by kernel_rfl) (fun K hK => ?_) ?_
            · simp only [List.getElem_toArray, List.getElem_cons_succ, List.getElem_cons_zero]
              go_simp
              refine hK.out _ _ ?_
              clear hK K
              try simp only [Act.put, List.setIfInBounds_toArray, List.set_cons_zero, List.set_cons_succ]
              refine wpAnyG_done (by kernel_rfl) ?_ _
              refine NoPanic.normal ?_
              go_wp2
              go_meet
              exact ⟨GA, G1, G2, G3, rfl, hide ((unhide HX4).met (K := K) (g1 := G1) (g2 := G2) (g3 := G3) (by simp) (by simp) (by simp) (by have := (unhide HX4).nd; simp at this; omega) (by have := (unhide HX4).nd; simp at this; omega) (by have := (unhide HX4).nd; simp at this; omega))⟩
            exact AllReadyG.nil
          exact AllReadyG.nil
        exact AllReadyG.nil
      refine AllReadyG.cons 11 (by rfl) (fun K hK => ?_) ?_
      · simp only [List.getElem_toArray, List.getElem_cons_succ, List.getElem_cons_zero]
        go_simp
        refine hK.out _ _ trivial (fun _ => ?_)
        clear hK K
        try simp only [Act.put, List.setIfInBounds_toArray, List.set_cons_zero, List.set_cons_succ]
        have HX2 := hide (unhide HX1).alloc
        obtain ⟨GA, hGA⟩ : ∃ g, wk1.heap.size = g := ⟨_, rfl⟩
        rw [hGA] at HX2
        try rw [hGA]
        clear hGA HX1
        generalize wk1.alloc (.cells #[.int .i64 0, .slice none 0 0, .slice none 0 0, .slice none 0 0] 25) = wk2 at *
        refine wpAnyG_ready [6, 9] (by kernel_rfl) (by simp) ?_
        refine AllReadyG.cons 6 (by rfl) (fun K hK => ?_) ?_
        · simp only [List.getElem_toArray, List.getElem_cons_succ, List.getElem_cons_zero]
          go_simp
          refine hK.out _ _ trivial (fun _ => ?_)
          clear hK K
          try simp only [Act.put, List.setIfInBounds_toArray, List.set_cons_zero, List.set_cons_succ]
          have HX3 := hide ((unhide HX2).make (unhide hF2 wk2) (unhide hF3 wk2))
          obtain ⟨G2, hG2⟩ : ∃ g, wk2.heap.size = g := ⟨_, rfl⟩
          rw [hG2] at HX3
          try rw [hG2]
          clear hG2 HX2
          generalize Fm wk2 = wk3 at *
          refine wpAnyG_ready [9] (by kernel_rfl) (by simp) ?_
          refine AllReadyG.cons 9 (by rfl) (fun K hK => ?_) ?_
          · simp only [List.getElem_toArray, List.getElem_cons_succ, List.getElem_cons_zero]
            go_simp
            refine hK.out _ _ trivial (fun _ => ?_)
            clear hK K
            try simp only [Act.put, List.setIfInBounds_toArray, List.set_cons_zero, List.set_cons_succ]
            have HX4 := hide ((unhide HX3).make (unhide hF2 wk3) (unhide hF3 wk3))
            obtain ⟨G3, hG3⟩ : ∃ g, wk3.heap.size = g := ⟨_, rfl⟩
            rw [hG3] at HX4
            try rw [hG3]
            clear hG3 HX3
            generalize Fm wk3 = wk4 at *
            refine wpAnyG_take (v := ?_) 10 (by rfl) (by kernel_rfl) (by kernel_rfl) (by kernel_rfl) (by kernel_rfl) (fun _ _ _ h => h) (Or.inl ⟨by rfl, ?_⟩) (by assumption) ?_
            rotate_left
            · (intro w' hSw; (try dsimp only at hSw); (try simp only [List.getElem_toArray, List.getElem_cons_succ, List.getElem_cons_zero]); go_simp; try (with_reducible rfl))
            simp only [Act.put, List.getElem_toArray, List.getElem_cons_succ, List.getElem_cons_zero, List.setIfInBounds_toArray, List.set_cons_zero, List.set_cons_succ]
            obtain ⟨z0, z1, z2, z3, k0, k1, k2, k3⟩ := obj_cells ((unhide HX4).ob GA (by simp)).1
            refine wpAnyG_ready [12] (by kernel_rfl) (by simp) ?_
            refine AllReadyG.last 12 (by rfl) (by kernel_rfl) (fun K hK => ?_) ?_
            · simp only [List.getElem_toArray, List.getElem_cons_succ, List.getElem_cons_zero]
              go_simp
              refine hK.out _ _ ?_
              clear hK K
              try simp only [Act.put, List.setIfInBounds_toArray, List.set_cons_zero, List.set_cons_succ]
              refine wpAnyG_done (by kernel_rfl) ?_ _
              refine NoPanic.normal ?_
              go_wp2
              go_meet
              exact ⟨GA, G1, G2, G3, rfl, hide ((unhide HX4).met (K := K) (g1 := G1) (g2 := G2) (g3 := G3) (by simp) (by simp) (by simp) (by have := (unhide HX4).nd; simp at this; omega) (by have := (unhide HX4).nd; simp at this; omega) (by have := (unhide HX4).nd; simp at this; omega))⟩
            exact AllReadyG.nil
          exact AllReadyG.nil
        refine AllReadyG.cons 9 (by rfl) (fun K hK => ?_) ?_
        · simp only [List.getElem_toArray, List.getElem_cons_succ, List.getElem_cons_zero]
          go_simp
          refine hK.out _ _ trivial (fun _ => ?_)
          clear hK K
          try simp only [Act.put, List.setIfInBounds_toArray, List.set_cons_zero, List.set_cons_succ]
          have HX3 := hide ((unhide HX2).make (unhide hF2 wk2) (unhide hF3 wk2))
          obtain ⟨G3, hG3⟩ : ∃ g, wk2.heap.size = g := ⟨_, rfl⟩
          rw [hG3] at HX3
          try rw [hG3]
          clear hG3 HX2
          generalize Fm wk2 = wk3 at *
          refine wpAnyG_ready [6] (by kernel_rfl) (by simp) ?_
          refine AllReadyG.cons 6 (by rfl) (fun K hK => ?_) ?_
          · simp only [List.getElem_toArray, List.getElem_cons_succ, List.getElem_cons_zero]
            go_simp
            refine hK.out _ _ trivial (fun _ => ?_)
            clear hK K
            try simp only [Act.put, List.setIfInBounds_toArray, List.set_cons_zero, List.set_cons_succ]
            have HX4 := hide ((unhide HX3).make (unhide hF2 wk3) (unhide hF3 wk3))
            obtain ⟨G2, hG2⟩ : ∃ g, wk3.heap.size = g := ⟨_, rfl⟩
            rw [hG2] at HX4
            try rw [hG2]
            clear hG2 HX3
            generalize Fm wk3 = wk4 at *
            refine wpAnyG_take (v := ?_) 10 (by rfl) (by kernel_rfl) (by kernel_rfl) (by kernel_rfl) (by kernel_rfl) (fun _ _ _ h => h) (Or.inl ⟨by rfl, ?_⟩) (by assumption) ?_
            rotate_left
            · (intro w' hSw; (try dsimp only at hSw); (try simp only [List.getElem_toArray, List.getElem_cons_succ, List.getElem_cons_zero]); go_simp; try (with_reducible rfl))
            simp only [Act.put, List.getElem_toArray, List.getElem_cons_succ, List.getElem_cons_zero, List.setIfInBounds_toArray, List.set_cons_zero, List.set_cons_succ]
            obtain ⟨z0, z1, z2, z3, k0, k1, k2, k3⟩ := obj_cells ((unhide HX4).ob GA (by simp)).1
            refine wpAnyG_ready [12] (by kernel_rfl) (by simp) ?_
            refine AllReadyG.last 12 (by rfl) (by kernel_rfl) (fun K hK => ?_) ?_
            · simp only [List.getElem_toArray, List.getElem_cons_succ, List.getElem_cons_zero]
              go_simp
              refine hK.out _ _ ?_
              clear hK K
              try simp only [Act.put, List.setIfInBounds_toArray, List.set_cons_zero, List.set_cons_succ]
              refine wpAnyG_done (by kernel_rfl) ?_ _
              refine NoPanic.normal ?_
              go_wp2
              go_meet
              exact ⟨GA, G1, G2, G3, rfl, hide ((unhide HX4).met (K := K) (g1 := G1) (g2 := G2) (g3 := G3) (by simp) (by simp) (by simp) (by have := (unhide HX4).nd; simp at this; omega) (by have := (unhide HX4).nd; simp at this; omega) (by have := (unhide HX4).nd; simp at this; omega))⟩
            exact AllReadyG.nil
          exact AllReadyG.nil
        exact AllReadyG.nil
      exact AllReadyG.nil
    refine AllReadyG.cons 6 (by rfl) (fun K hK => ?_) ?_
    · simp only [List.getElem_toArray, List.getElem_cons_succ, List.getElem_cons_zero]
      go_simp
      refine hK.out _ _ trivial (fun _ => ?_)
      clear hK K
      try simp only [Act.put, List.setIfInBounds_toArray, List.set_cons_zero, List.set_cons_succ]
      have HX1 := hide ((unhide HX0).make (unhide hF2 w0q) (unhide hF3 w0q))
      obtain ⟨G2, hG2⟩ : ∃ g, w0q.heap.size = g := ⟨_, rfl⟩
      rw [hG2] at HX1
      try rw [hG2]
      clear hG2 HX0
      generalize Fm w0q = wk1 at *
      refine wpAnyG_ready [3, 9, 11] (by kernel_rfl) (by simp) ?_
      refine AllReadyG.cons 3 (by rfl) (fun K hK => ?_) ?_
      · simp only [List.getElem_toArray, List.getElem_cons_succ, List.getElem_cons_zero]
        go_simp
        refine hK.out _ _ trivial (fun _ => ?_)
        clear hK K
        try simp only [Act.put, List.setIfInBounds_toArray, List.set_cons_zero, List.set_cons_succ]
        have HX2 := hide ((unhide HX1).make (unhide hF2 wk1) (unhide hF3 wk1))
        obtain ⟨G1, hG1⟩ : ∃ g, wk1.heap.size = g := ⟨_, rfl⟩
        rw [hG1] at HX2
        try rw [hG1]
        clear hG1 HX1
        generalize Fm wk1 = wk2 at *
        refine wpAnyG_ready [9, 11] (by kernel_rfl) (by simp) ?_
        refine AllReadyG.cons 9 (by rfl) (fun K hK => ?_) ?_
        · simp only [List.getElem_toArray, List.getElem_cons_succ, List.getElem_cons_zero]
          go_simp
          refine hK.out _ _ trivial (fun _ => ?_)
          clear hK K
          try simp only [Act.put, List.setIfInBounds_toArray, List.set_cons_zero, List.set_cons_succ]
          have HX3 := hide ((unhide HX2).make (unhide hF2 wk2) (unhide hF3 wk2))
          obtain ⟨G3, hG3⟩ : ∃ g, wk2.heap.size = g := ⟨_, rfl⟩
          rw [hG3] at HX3
          try rw [hG3]
          clear hG3 HX2
          generalize Fm wk2 = wk3 at *
          refine wpAnyG_take (v := ?_) 10 (by rfl) (by kernel_rfl) (by kernel_rfl) (by kernel_rfl) (by kernel_rfl) (fun _ _ _ h => h) (Or.inl ⟨by rfl, ?_⟩) (by assumption) ?_
          rotate_left
          · (intro w' hSw; (try dsimp only at hSw); (try simp only [List.getElem_toArray, List.getElem_cons_succ, List.getElem_cons_zero]); go_simp; try (with_reducible rfl))
          simp only [Act.put, List.getElem_toArray, List.getElem_cons_succ, List.getElem_cons_zero, List.setIfInBounds_toArray, List.set_cons_zero, List.set_cons_succ]
          refine wpAnyG_ready [11] (by kernel_rfl) (by simp) ?_
          refine AllReadyG.cons 11 (by rfl) (fun K hK => ?_) ?_
          · simp only [List.getElem_toArray, List.getElem_cons_succ, List.getElem_cons_zero]
            go_simp
            refine hK.out _ _ trivial (fun _ => ?_)
            clear hK K
            try simp only [Act.put, List.setIfInBounds_toArray, List.set_cons_zero, List.set_cons_succ]
            have HX4 := hide (unhide HX3).alloc
            obtain ⟨GA, hGA⟩ : ∃ g, wk3.heap.size = g := ⟨_, rfl⟩
            rw [hGA] at HX4
            try rw [hGA]
            clear hGA HX3
            generalize wk3.alloc (.cells #[.int .i64 0, .slice none 0 0, .slice none 0 0, .slice none 0 0] 25) = wk4 at *
            obtain ⟨z0, z1, z2, z3, k0, k1, k2, k3⟩ := obj_cells ((unhide HX4).ob GA (by simp)).1
            refine wpAnyG_ready [12] (by kernel_rfl) (by simp) ?_
            refine AllReadyG.last 12 (by rfl) (by kernel_rfl) (fun K hK => ?_) ?_
            · simp only [List.getElem_toArray, List.getElem_cons_succ, List.getElem_cons_zero]
              go_simp
              refine hK.out _ _ ?_
              clear hK K
              try simp only [Act.put, List.setIfInBounds_toArray, List.set_cons_zero, List.set_cons_succ]
              refine wpAnyG_done (by kernel_rfl) ?_ _
              refine NoPanic.normal ?_
              go_wp2
              go_meet
              exact ⟨GA, G1, G2, G3, rfl, hide ((unhide HX4).met (K := K) (g1 := G1) (g2 := G2) (g3 := G3) (by simp) (by simp) (by simp) (by have := (unhide HX4).nd; simp at this; omega) (by have := (unhide HX4).nd; simp at this; omega) (by have := (unhide HX4).nd; simp at this; omega))⟩
            exact AllReadyG.nil
          exact AllReadyG.nil
        refine AllReadyG.cons 11 (by rfl) (fun K hK => ?_) ?_
        · simp only [List.getElem_toArray, List.getElem_cons_succ, List.getElem_cons_zero]
          go_simp
          refine hK.out _ _ trivial (fun _ => ?_)
          clear hK K
          try simp only [Act.put, List.setIfInBounds_toArray, List.set_cons_zero, List.set_cons_succ]
          have HX3 := hide (unhide HX2).alloc
          obtain ⟨GA, hGA⟩ : ∃ g, wk2.heap.size = g := ⟨_, rfl⟩
          rw [hGA] at HX3
          try rw [hGA]
          clear hGA HX2
          generalize wk2.alloc (.cells #[.int .i64 0, .slice none 0 0, .slice none 0 0, .slice none 0 0] 25) = wk3 at *
          refine wpAnyG_ready [9] (by kernel_rfl) (by simp) ?_
          refine AllReadyG.cons 9 (by rfl) (fun K hK => ?_) ?_
          · simp only [List.getElem_toArray, List.getElem_cons_succ, List.getElem_cons_zero]
            go_simp
            refine hK.out _ _ trivial (fun _ => ?_)
            clear hK K
            try simp only [Act.put, List.setIfInBounds_toArray, List.set_cons_zero, List.set_cons_succ]
            have HX4 := hide ((unhide HX3).make (unhide hF2 wk3) (unhide hF3 wk3))
            obtain ⟨G3, hG3⟩ : ∃ g, wk3.heap.size = g := ⟨_, rfl⟩
            rw [hG3] at HX4
            try rw [hG3]
            clear hG3 HX3
            generalize Fm wk3 = wk4 at *
            refine wpAnyG_take (v := ?_) 10 (by rfl) (by kernel_rfl) (by kernel_rfl) (by kernel_rfl) (by kernel_rfl) (fun _ _ _ h => h) (Or.inl ⟨by rfl, ?_⟩) (by assumption) ?_
            rotate_left
            · (intro w' hSw; (try dsimp only at hSw); (try simp only [List.getElem_toArray, List.getElem_cons_succ, List.getElem_cons_zero]); go_simp; try (with_reducible rfl))
            simp only [Act.put, List.getElem_toArray, List.getElem_cons_succ, List.getElem_cons_zero, List.setIfInBounds_toArray, List.set_cons_zero, List.set_cons_succ]
            obtain ⟨z0, z1, z2, z3, k0, k1, k2, k3⟩ := obj_cells ((unhide HX4).ob GA (by simp)).1
            refine wpAnyG_ready [12] (by kernel_rfl) (by simp) ?_
            refine AllReadyG.last 12 (by rfl) (by kernel_rfl) (fun K hK => ?_) ?_
            · simp only [List.getElem_toArray, List.getElem_cons_succ, List.getElem_cons_zero]
              go_simp
              refine hK.out _ _ ?_
              clear hK K
              try simp only [Act.put, List.setIfInBounds_toArray, List.set_cons_zero, List.set_cons_succ]
              refine wpAnyG_done (by kernel_rfl) ?_ _
              refine NoPanic.normal ?_
              go_wp2
              go_meet
              exact ⟨GA, G1, G2, G3, rfl, hide ((unhide HX4).met (K := K) (g1 := G1) (g2 := G2) (g3 := G3) (by simp) (by simp) (by simp) (by have := (unhide HX4).nd; simp at this; omega) (by have := (unhide HX4).nd; simp at this; omega) (by have := (unhide HX4).nd; simp at this; omega))⟩
            exact AllReadyG.nil
          exact AllReadyG.nil
        exact AllReadyG.nil
      refine AllReadyG.cons 9 (by rfl) (fun K hK => ?_) ?_
      · simp only [List.getElem_toArray, List.getElem_cons_succ, List.getElem_cons_zero]
        go_simp
        refine hK.out _ _ trivial (fun _ => ?_)
        clear hK K
        try simp only [Act.put, List.setIfInBounds_toArray, List.set_cons_zero, List.set_cons_succ]
        have HX2 := hide ((unhide HX1).make (unhide hF2 wk1) (unhide hF3 wk1))
        obtain ⟨G3, hG3⟩ : ∃ g, wk1.heap.size = g := ⟨_, rfl⟩
        rw [hG3] at HX2
        try rw [hG3]
        clear hG3 HX1
        generalize Fm wk1 = wk2 at *
        refine wpAnyG_ready [3, 11] (by kernel_rfl) (by simp) ?_
        refine AllReadyG.cons 3 (by rfl) (fun K hK => ?_) ?_
        · simp only [List.getElem_toArray, List.getElem_cons_succ, List.getElem_cons_zero]
          go_simp
          refine hK.out _ _ trivial (fun _ => ?_)
          clear hK K
          try simp only [Act.put, List.setIfInBounds_toArray, List.set_cons_zero, List.set_cons_succ]
          have HX3 := hide ((unhide HX2).make (unhide hF2 wk2) (unhide hF3 wk2))
          obtain ⟨G1, hG1⟩ : ∃ g, wk2.heap.size = g := ⟨_, rfl⟩
          rw [hG1] at HX3
          try rw [hG1]
          clear hG1 HX2
          generalize Fm wk2 = wk3 at *
          refine wpAnyG_take (v := ?_) 10 (by rfl) (by kernel_rfl) (by kernel_rfl) (by kernel_rfl) (by kernel_rfl) (fun _ _ _ h => h) (Or.inl ⟨by rfl, ?_⟩) (by assumption) ?_
          rotate_left
          · (intro w' hSw; (try dsimp only at hSw); (try simp only [List.getElem_toArray, List.getElem_cons_succ, List.getElem_cons_zero]); go_simp; try (with_reducible rfl))
          simp only [Act.put, List.getElem_toArray, List.getElem_cons_succ, List.getElem_cons_zero, List.setIfInBounds_toArray, List.set_cons_zero, List.set_cons_succ]
          refine wpAnyG_ready [11] (by kernel_rfl) (by simp) ?_
          refine AllReadyG.cons 11 (by rfl) (fun K hK => ?_) ?_
          · simp only [List.getElem_toArray, List.getElem_cons_succ, List.getElem_cons_zero]
            go_simp
            refine hK.out _ _ trivial (fun _ => ?_)
            clear hK K
            try simp only [Act.put, List.setIfInBounds_toArray, List.set_cons_zero, List.set_cons_succ]
            have HX4 := hide (unhide HX3).alloc
            obtain ⟨GA, hGA⟩ : ∃ g, wk3.heap.size = g := ⟨_, rfl⟩
            rw [hGA] at HX4
            try rw [hGA]
            clear hGA HX3
            generalize wk3.alloc (.cells #[.int .i64 0, .slice none 0 0, .slice none 0 0, .slice none 0 0] 25) = wk4 at *
            obtain ⟨z0, z1, z2, z3, k0, k1, k2, k3⟩ := obj_cells ((unhide HX4).ob GA (by simp)).1
            refine wpAnyG_ready [12] (by kernel_rfl) (by simp) ?_
            refine AllReadyG.last 12 (by rfl) (by kernel_rfl) (fun K hK => ?_) ?_
            · simp only [List.getElem_toArray, List.getElem_cons_succ, List.getElem_cons_zero]
              go_simp
              refine hK.out _ _ ?_
              clear hK K
              try simp only [Act.put, List.setIfInBounds_toArray, List.set_cons_zero, List.set_cons_succ]
              refine wpAnyG_done (by kernel_rfl) ?_ _
              refine NoPanic.normal ?_
              go_wp2
              go_meet
              exact ⟨GA, G1, G2, G3, rfl, hide ((unhide HX4).met (K := K) (g1 := G1) (g2 := G2) (g3 := G3) (by simp) (by simp) (by simp) (by have := (unhide HX4).nd; simp at this; omega) (by have := (unhide HX4).nd; simp at this; omega) (by have := (unhide HX4).nd; simp at this; omega))⟩
            exact AllReadyG.nil
          exact AllReadyG.nil
        refine AllReadyG.cons 11 (by rfl) (fun K hK => ?_) ?_
        · simp only [List.getElem_toArray, List.getElem_cons_succ, List.getElem_cons_zero]
          go_simp
          refine hK.out _ _ trivial (fun _ => ?_)
          clear hK K
          try simp only [Act.put, List.setIfInBounds_toArray, List.set_cons_zero, List.set_cons_succ]
          have HX3 := hide (unhide HX2).alloc
          obtain ⟨GA, hGA⟩ : ∃ g, wk2.heap.size = g := ⟨_, rfl⟩
          rw [hGA] at HX3
          try rw [hGA]
          clear hGA HX2
          generalize wk2.alloc (.cells #[.int .i64 0, .slice none 0 0, .slice none 0 0, .slice none 0 0] 25) = wk3 at *
          refine wpAnyG_ready [3] (by kernel_rfl) (by simp) ?_
          refine AllReadyG.cons 3 (by rfl) (fun K hK => ?_) ?_
          · simp only [List.getElem_toArray, List.getElem_cons_succ, List.getElem_cons_zero]
            go_simp
            refine hK.out _ _ trivial (fun _ => ?_)
            clear hK K
            try simp only [Act.put, List.setIfInBounds_toArray, List.set_cons_zero, List.set_cons_succ]
            have HX4 := hide ((unhide HX3).make (unhide hF2 wk3) (unhide hF3 wk3))
            obtain ⟨G1, hG1⟩ : ∃ g, wk3.heap.size = g := ⟨_, rfl⟩
            rw [hG1] at HX4
            try rw [hG1]
            clear hG1 HX3
            generalize Fm wk3 = wk4 at *
            refine wpAnyG_take (v := ?_) 10 (by rfl) (by kernel_rfl) (by kernel_rfl) (by kernel_rfl) (by kernel_rfl) (fun _ _ _ h => h) (Or.inl ⟨by rfl, ?_⟩) (by assumption) ?_
            rotate_left
            · (intro w' hSw; (try dsimp only at hSw); (try simp only [List.getElem_toArray, List.getElem_cons_succ, List.getElem_cons_zero]); go_simp; try (with_reducible rfl))
            simp only [Act.put, List.getElem_toArray, List.getElem_cons_succ, List.getElem_cons_zero, List.setIfInBounds_toArray, List.set_cons_zero, List.set_cons_succ]
            obtain ⟨z0, z1, z2, z3, k0, k1, k2, k3⟩ := obj_cells ((unhide HX4).ob GA (by simp)).1
            refine wpAnyG_ready [12] (by kernel_rfl) (by simp) ?_
            refine AllReadyG.last 12 (by rfl) (by kernel_rfl) (fun K hK => ?_) ?_
            · simp only [List.getElem_toArray, List.getElem_cons_succ, List.getElem_cons_zero]
              go_simp
              refine hK.out _ _ ?_
              clear hK K
              try simp only [Act.put, List.setIfInBounds_toArray, List.set_cons_zero, List.set_cons_succ]
              refine wpAnyG_done (by kernel_rfl) ?_ _
              refine NoPanic.normal ?_
              go_wp2
              go_meet
              exact ⟨GA, G1, G2, G3, rfl, hide ((unhide HX4).met (K := K) (g1 := G1) (g2 := G2) (g3 := G3) (by simp) (by simp) (by simp) (by have := (unhide HX4).nd; simp at this; omega) (by have := (unhide HX4).nd; simp at this; omega) (by have := (unhide HX4).nd; simp at this; omega))⟩
            exact AllReadyG.nil
          exact AllReadyG.nil
        exact AllReadyG.nil
      refine AllReadyG.cons 11 (by rfl) (fun K hK => ?_) ?_
      · simp only [List.getElem_toArray, List.getElem_cons_succ, List.getElem_cons_zero]
        go_simp
        refine hK.out _ _ trivial (fun _ => ?_)
        clear hK K
        try simp only [Act.put, List.setIfInBounds_toArray, List.set_cons_zero, List.set_cons_succ]
        have HX2 := hide (unhide HX1).alloc
        obtain ⟨GA, hGA⟩ : ∃ g, wk1.heap.size = g := ⟨_, rfl⟩
        rw [hGA] at HX2
        try rw [hGA]
        clear hGA HX1
        generalize wk1.alloc (.cells #[.int .i64 0, .slice none 0 0, .slice none 0 0, .slice none 0 0] 25) = wk2 at *
        refine wpAnyG_ready [3, 9] (by kernel_rfl) (by simp) ?_
        refine AllReadyG.cons 3 (by rfl) (fun K hK => ?_) ?_
        · simp only [List.getElem_toArray, List.getElem_cons_succ, List.getElem_cons_zero]
          go_simp
          refine hK.out _ _ trivial (fun _ => ?_)
          clear hK K
          try simp only [Act.put, List.setIfInBounds_toArray, List.set_cons_zero, List.set_cons_succ]
          have HX3 := hide ((unhide HX2).make (unhide hF2 wk2) (unhide hF3 wk2))
          obtain ⟨G1, hG1⟩ : ∃ g, wk2.heap.size = g := ⟨_, rfl⟩
          rw [hG1] at HX3
          try rw [hG1]
          clear hG1 HX2
          generalize Fm wk2 = wk3 at *
          refine wpAnyG_ready [9] (by kernel_rfl) (by simp) ?_
          refine AllReadyG.cons 9 (by rfl) (fun K hK => ?_) ?_
          · simp only [List.getElem_toArray, List.getElem_cons_succ, List.getElem_cons_zero]
            go_simp
            refine hK.out _ _ trivial (fun _ => ?_)
            clear hK K
            try simp only [Act.put, List.setIfInBounds_toArray, List.set_cons_zero, List.set_cons_succ]
            have HX4 := hide ((unhide HX3).make (unhide hF2 wk3) (unhide hF3 wk3))
            obtain ⟨G3, hG3⟩ : ∃ g, wk3.heap.size = g := ⟨_, rfl⟩
            rw [hG3] at HX4
            try rw [hG3]
            clear hG3 HX3
            generalize Fm wk3 = wk4 at *
            refine wpAnyG_take (v := ?_) 10 (by rfl) (by kernel_rfl) (by kernel_rfl) (by kernel_rfl) (by kernel_rfl) (fun _ _ _ h => h) (Or.inl ⟨by rfl, ?_⟩) (by assumption) ?_
            rotate_left
            · (intro w' hSw; (try dsimp only at hSw); (try simp only [List.getElem_toArray, List.getElem_cons_succ, List.getElem_cons_zero]); go_simp; try (with_reducible rfl))
            simp only [Act.put, List.getElem_toArray, List.getElem_cons_succ, List.getElem_cons_zero, List.setIfInBounds_toArray, List.set_cons_zero, List.set_cons_succ]
            obtain ⟨z0, z1, z2, z3, k0, k1, k2, k3⟩ := obj_cells ((unhide HX4).ob GA (by simp)).1
            refine wpAnyG_ready [12] (by kernel_rfl) (by simp) ?_
            refine AllReadyG.last 12 (by rfl) (by kernel_rfl) (fun K hK => ?_) ?_
            · simp only [List.getElem_toArray, List.getElem_cons_succ, List.getElem_cons_zero]
              go_simp
              refine hK.out _ _ ?_
              clear hK K
              try simp only [Act.put, List.setIfInBounds_toArray, List.set_cons_zero, List.set_cons_succ]
              refine wpAnyG_done (by kernel_rfl) ?_ _
              refine NoPanic.normal ?_
              go_wp2
              go_meet
              exact ⟨GA, G1, G2, G3, rfl, hide ((unhide HX4).met (K := K) (g1 := G1) (g2 := G2) (g3 := G3) (by simp) (by simp) (by simp) (by have := (unhide HX4).nd; simp at this; omega) (by have := (unhide HX4).nd; simp at this; omega) (by have := (unhide HX4).nd; simp at this; omega))⟩
            exact AllReadyG.nil
          exact AllReadyG.nil
        refine AllReadyG.cons 9 (by rfl) (fun K hK => ?_) ?_
        · simp only [List.getElem_toArray, List.getElem_cons_succ, List.getElem_cons_zero]
          go_simp
          refine hK.out _ _ trivial (fun _ => ?_)
          clear hK K
          try simp only [Act.put, List.setIfInBounds_toArray, List.set_cons_zero, List.set_cons_succ]
          have HX3 := hide ((unhide HX2).make (unhide hF2 wk2) (unhide hF3 wk2))
          obtain ⟨G3, hG3⟩ : ∃ g, wk2.heap.size = g := ⟨_, rfl⟩
          rw [hG3] at HX3
          try rw [hG3]
          clear hG3 HX2
          generalize Fm wk2 = wk3 at *
          refine wpAnyG_ready [3] (by kernel_rfl) (by simp) ?_
          refine AllReadyG.cons 3 (by rfl) (fun K hK => ?_) ?_
          · simp only [List.getElem_toArray, List.getElem_cons_succ, List.getElem_cons_zero]
            go_simp
            refine hK.out _ _ trivial (fun _ => ?_)
            clear hK K
            try simp only [Act.put, List.setIfInBounds_toArray, List.set_cons_zero, List.set_cons_succ]
            have HX4 := hide ((unhide HX3).make (unhide hF2 wk3) (unhide hF3 wk3))
            obtain ⟨G1, hG1⟩ : ∃ g, wk3.heap.size = g := ⟨_, rfl⟩
            rw [hG1] at HX4
            try rw [hG1]
            clear hG1 HX3
            generalize Fm wk3 = wk4 at *
            refine wpAnyG_take (v := ?_) 10 (by rfl) (by kernel_rfl) (by kernel_rfl) (by kernel_rfl) (by kernel_rfl) (fun _ _ _ h => h) (Or.inl ⟨by rfl, ?_⟩) (by assumption) ?_
            rotate_left
            · (intro w' hSw; (try dsimp only at hSw); (try simp only [List.getElem_toArray, List.getElem_cons_succ, List.getElem_cons_zero]); go_simp; try (with_reducible rfl))
            simp only [Act.put, List.getElem_toArray, List.getElem_cons_succ, List.getElem_cons_zero, List.setIfInBounds_toArray, List.set_cons_zero, List.set_cons_succ]
            obtain ⟨z0, z1, z2, z3, k0, k1, k2, k3⟩ := obj_cells ((unhide HX4).ob GA (by simp)).1
            refine wpAnyG_ready [12] (by kernel_rfl) (by simp) ?_
            refine AllReadyG.last 12 (by rfl) (by kernel_rfl) (fun K hK => ?_) ?_
            · simp only [List.getElem_toArray, List.getElem_cons_succ, List.getElem_cons_zero]
              go_simp
              refine hK.out _ _ ?_
              clear hK K
              try simp only [Act.put, List.setIfInBounds_toArray, List.set_cons_zero, List.set_cons_succ]
              refine wpAnyG_done (by kernel_rfl) ?_ _
              refine NoPanic.normal ?_
              go_wp2
              go_meet
              exact ⟨GA, G1, G2, G3, rfl, hide ((unhide HX4).met (K := K) (g1 := G1) (g2 := G2) (g3 := G3) (by simp) (by simp) (by simp) (by have := (unhide HX4).nd; simp at this; omega) (by have := (unhide HX4).nd; simp at this; omega) (by have := (unhide HX4).nd; simp at this; omega))⟩
            exact AllReadyG.nil
          exact AllReadyG.nil
        exact AllReadyG.nil
      exact AllReadyG.nil
    refine AllReadyG.cons 9 (by rfl) (fun K hK => ?_) ?_
    · simp only [List.getElem_toArray, List.getElem_cons_succ, List.getElem_cons_zero]
      go_simp
      refine hK.out _ _ trivial (fun _ => ?_)
      clear hK K
      try simp only [Act.put, List.setIfInBounds_toArray, List.set_cons_zero, List.set_cons_succ]
      have HX1 := hide ((unhide HX0).make (unhide hF2 w0q) (unhide hF3 w0q))
      obtain ⟨G3, hG3⟩ : ∃ g, w0q.heap.size = g := ⟨_, rfl⟩
      rw [hG3] at HX1
      try rw [hG3]
      clear hG3 HX0
      generalize Fm w0q = wk1 at *
      refine wpAnyG_ready [3, 6, 11] (by kernel_rfl) (by simp) ?_
      refine AllReadyG.cons 3 (by rfl) (fun K hK => ?_) ?_
      · simp only [List.getElem_toArray, List.getElem_cons_succ, List.getElem_cons_zero]
        go_simp
        refine hK.out _ _ trivial (fun _ => ?_)
        clear hK K
        try simp only [Act.put, List.setIfInBounds_toArray, List.set_cons_zero, List.set_cons_succ]
        have HX2 := hide ((unhide HX1).make (unhide hF2 wk1) (unhide hF3 wk1))
        obtain ⟨G1, hG1⟩ : ∃ g, wk1.heap.size = g := ⟨_, rfl⟩
        rw [hG1] at HX2
        try rw [hG1]
        clear hG1 HX1
        generalize Fm wk1 = wk2 at *
        refine wpAnyG_ready [6, 11] (by kernel_rfl) (by simp) ?_
        refine AllReadyG.cons 6 (by rfl) (fun K hK => ?_) ?_
        · simp only [List.getElem_toArray, List.getElem_cons_succ, List.getElem_cons_zero]
          go_simp
          refine hK.out _ _ trivial (fun _ => ?_)
          clear hK K
          try simp only [Act.put, List.setIfInBounds_toArray, List.set_cons_zero, List.set_cons_succ]
          have HX3 := hide ((unhide HX2).make (unhide hF2 wk2) (unhide hF3 wk2))
          obtain ⟨G2, hG2⟩ : ∃ g, wk2.heap.size = g := ⟨_, rfl⟩
          rw [hG2] at HX3
          try rw [hG2]
          clear hG2 HX2
          generalize Fm wk2 = wk3 at *
          refine wpAnyG_take (v := ?_) 10 (by rfl) (by kernel_rfl) (by kernel_rfl) (by kernel_rfl) (by kernel_rfl) (fun _ _ _ h => h) (Or.inl ⟨by rfl, ?_⟩) (by assumption) ?_
          rotate_left
          · (intro w' hSw; (try dsimp only at hSw); (try simp only [List.getElem_toArray, List.getElem_cons_succ, List.getElem_cons_zero]); go_simp; try (with_reducible rfl))
          simp only [Act.put, List.getElem_toArray, List.getElem_cons_succ, List.getElem_cons_zero, List.setIfInBounds_toArray, List.set_cons_zero, List.set_cons_succ]
          refine wpAnyG_ready [11] (by kernel_rfl) (by simp) ?_
          refine AllReadyG.cons 11 (by rfl) (fun K hK => ?_) ?_
          · simp only [List.getElem_toArray, List.getElem_cons_succ, List.getElem_cons_zero]
            go_simp
            refine hK.out _ _ trivial (fun _ => ?_)
            clear hK K
            try simp only [Act.put, List.setIfInBounds_toArray, List.set_cons_zero, List.set_cons_succ]
            have HX4 := hide (unhide HX3).alloc
            obtain ⟨GA, hGA⟩ : ∃ g, wk3.heap.size = g := ⟨_, rfl⟩
            rw [hGA] at HX4
            try rw [hGA]
            clear hGA HX3
            generalize wk3.alloc (.cells #[.int .i64 0, .slice none 0 0, .slice none 0 0, .slice none 0 0] 25) = wk4 at *
            obtain ⟨z0, z1, z2, z3, k0, k1, k2, k3⟩ := obj_cells ((unhide HX4).ob GA (by simp)).1
            refine wpAnyG_ready [12] (by kernel_rfl) (by simp) ?_
            refine AllReadyG.last 12 (by rfl) (by kernel_rfl) (fun K hK => ?_) ?_
            · simp only [List.getElem_toArray, List.getElem_cons_succ, List.getElem_cons_zero]
              go_simp
              refine hK.out _ _ ?_
              clear hK K
              try simp only [Act.put, List.setIfInBounds_toArray, List.set_cons_zero, List.set_cons_succ]
              refine wpAnyG_done (by kernel_rfl) ?_ _
              refine NoPanic.normal ?_
              go_wp2
              go_meet
              exact ⟨GA, G1, G2, G3, rfl, hide ((unhide HX4).met (K := K) (g1 := G1) (g2 := G2) (g3 := G3) (by simp) (by simp) (by simp) (by have := (unhide HX4).nd; simp at this; omega) (by have := (unhide HX4).nd; simp at this; omega) (by have := (unhide HX4).nd; simp at this; omega))⟩
            exact AllReadyG.nil
          exact AllReadyG.nil
        refine AllReadyG.cons 11 (by rfl) (fun K hK => ?_) ?_
        · simp only [List.getElem_toArray, List.getElem_cons_succ, List.getElem_cons_zero]
          go_simp
          refine hK.out _ _ trivial (fun _ => ?_)
          clear hK K
          try simp only [Act.put, List.setIfInBounds_toArray, List.set_cons_zero, List.set_cons_succ]
          have HX3 := hide (unhide HX2).alloc
          obtain ⟨GA, hGA⟩ : ∃ g, wk2.heap.size = g := ⟨_, rfl⟩
          rw [hGA] at HX3
          try rw [hGA]
          clear hGA HX2
          generalize wk2.alloc (.cells #[.int .i64 0, .slice none 0 0, .slice none 0 0, .slice none 0 0] 25) = wk3 at *
          refine wpAnyG_ready [6] (by kernel_rfl) (by simp) ?_
          refine AllReadyG.cons 6 (by rfl) (fun K hK => ?_) ?_
          · simp only [List.getElem_toArray, List.getElem_cons_succ, List.getElem_cons_zero]
            go_simp
            refine hK.out _ _ trivial (fun _ => ?_)
            clear hK K
            try simp only [Act.put, List.setIfInBounds_toArray, List.set_cons_zero, List.set_cons_succ]
            have HX4 := hide ((unhide HX3).make (unhide hF2 wk3) (unhide hF3 wk3))
            obtain ⟨G2, hG2⟩ : ∃ g, wk3.heap.size = g := ⟨_, rfl⟩
            rw [hG2] at HX4
            try rw [hG2]
            clear hG2 HX3
            generalize Fm wk3 = wk4 at *
            refine wpAnyG_take (v := ?_) 10 (by rfl) (by kernel_rfl) (by kernel_rfl) (by kernel_rfl) (by kernel_rfl) (fun _ _ _ h => h) (Or.inl ⟨by rfl, ?_⟩) (by assumption) ?_
            rotate_left
            · (intro w' hSw; (try dsimp only at hSw); (try simp only [List.getElem_toArray, List.getElem_cons_succ, List.getElem_cons_zero]); go_simp; try (with_reducible rfl))
            simp only [Act.put, List.getElem_toArray, List.getElem_cons_succ, List.getElem_cons_zero, List.setIfInBounds_toArray, List.set_cons_zero, List.set_cons_succ]
            obtain ⟨z0, z1, z2, z3, k0, k1, k2, k3⟩ := obj_cells ((unhide HX4).ob GA (by simp)).1
            refine wpAnyG_ready [12] (by kernel_rfl) (by simp) ?_
            refine AllReadyG.last 12 (by rfl) (by kernel_rfl) (fun K hK => ?_) ?_
            · simp only [List.getElem_toArray, List.getElem_cons_succ, List.getElem_cons_zero]
              go_simp
              refine hK.out _ _ ?_
              clear hK K
              try simp only [Act.put, List.setIfInBounds_toArray, List.set_cons_zero, List.set_cons_succ]
              refine wpAnyG_done (by kernel_rfl) ?_ _
              refine NoPanic.normal ?_
              go_wp2
              go_meet
              exact ⟨GA, G1, G2, G3, rfl, hide ((unhide HX4).met (K := K) (g1 := G1) (g2 := G2) (g3 := G3) (by simp) (by simp) (by simp) (by have := (unhide HX4).nd; simp at this; omega) (by have := (unhide HX4).nd; simp at this; omega) (by have := (unhide HX4).nd; simp at this; omega))⟩
            exact AllReadyG.nil
          exact AllReadyG.nil
        exact AllReadyG.nil
      refine AllReadyG.cons 6 (by rfl) (fun K hK => ?_) ?_
      · simp only [List.getElem_toArray, List.getElem_cons_succ, List.getElem_cons_zero]
        go_simp
        refine hK.out _ _ trivial (fun _ => ?_)
        clear hK K
        try simp only [Act.put, List.setIfInBounds_toArray, List.set_cons_zero, List.set_cons_succ]
        have HX2 := hide ((unhide HX1).make (unhide hF2 wk1) (unhide hF3 wk1))
        obtain ⟨G2, hG2⟩ : ∃ g, wk1.heap.size = g := ⟨_, rfl⟩
        rw [hG2] at HX2
        try rw [hG2]
        clear hG2 HX1
        generalize Fm wk1 = wk2 at *
        refine wpAnyG_ready [3, 11] (by kernel_rfl) (by simp) ?_
        refine AllReadyG.cons 3 (by rfl) (fun K hK => ?_) ?_
        · simp only [List.getElem_toArray, List.getElem_cons_succ, List.getElem_cons_zero]
          go_simp
          refine hK.out _ _ trivial (fun _ => ?_)
          clear hK K
          try simp only [Act.put, List.setIfInBounds_toArray, List.set_cons_zero, List.set_cons_succ]
          have HX3 := hide ((unhide HX2).make (unhide hF2 wk2) (unhide hF3 wk2))
          obtain ⟨G1, hG1⟩ : ∃ g, wk2.heap.size = g := ⟨_, rfl⟩
          rw [hG1] at HX3
          try rw [hG1]
          clear hG1 HX2
          generalize Fm wk2 = wk3 at *
          refine wpAnyG_take (v := ?_) 10 (by rfl) (by kernel_rfl) (by kernel_rfl) (by kernel_rfl) (by kernel_rfl) (fun _ _ _ h => h) (Or.inl ⟨by rfl, ?_⟩) (by assumption) ?_
          rotate_left
          · (intro w' hSw; (try dsimp only at hSw); (try simp only [List.getElem_toArray, List.getElem_cons_succ, List.getElem_cons_zero]); go_simp; try (with_reducible rfl))
          simp only [Act.put, List.getElem_toArray, List.getElem_cons_succ, List.getElem_cons_zero, List.setIfInBounds_toArray, List.set_cons_zero, List.set_cons_succ]
          refine wpAnyG_ready [11] (by kernel_rfl) (by simp) ?_
          refine AllReadyG.cons 11 (by rfl) (fun K hK => ?_) ?_
          · simp only [List.getElem_toArray, List.getElem_cons_succ, List.getElem_cons_zero]
            go_simp
            refine hK.out _ _ trivial (fun _ => ?_)
            clear hK K
            try simp only [Act.put, List.setIfInBounds_toArray, List.set_cons_zero, List.set_cons_succ]
            have HX4 := hide (unhide HX3).alloc
            obtain ⟨GA, hGA⟩ : ∃ g, wk3.heap.size = g := ⟨_, rfl⟩
            rw [hGA] at HX4
            try rw [hGA]
            clear hGA HX3
            generalize wk3.alloc (.cells #[.int .i64 0, .slice none 0 0, .slice none 0 0, .slice none 0 0] 25) = wk4 at *
            obtain ⟨z0, z1, z2, z3, k0, k1, k2, k3⟩ := obj_cells ((unhide HX4).ob GA (by simp)).1
            refine wpAnyG_ready [12] (by kernel_rfl) (by simp) ?_
            refine AllReadyG.last 12 (by rfl) (by kernel_rfl) (fun K hK => ?_) ?_
            · simp only [List.getElem_toArray, List.getElem_cons_succ, List.getElem_cons_zero]
              go_simp
              refine hK.out _ _ ?_
              clear hK K
              try simp only [Act.put, List.setIfInBounds_toArray, List.set_cons_zero, List.set_cons_succ]
              refine wpAnyG_done (by kernel_rfl) ?_ _
              refine NoPanic.normal ?_
              go_wp2
              go_meet
              exact ⟨GA, G1, G2, G3, rfl, hide ((unhide HX4).met (K := K) (g1 := G1) (g2 := G2) (g3 := G3) (by simp) (by simp) (by simp) (by have := (unhide HX4).nd; simp at this; omega) (by have := (unhide HX4).nd; simp at this; omega) (by have := (unhide HX4).nd; simp at this; omega))⟩
            exact AllReadyG.nil
          exact AllReadyG.nil
        refine AllReadyG.cons 11 (by rfl) (fun K hK => ?_) ?_
        · simp only [List.getElem_toArray, List.getElem_cons_succ, List.getElem_cons_zero]
          go_simp
          refine hK.out _ _ trivial (fun _ => ?_)
          clear hK K
          try simp only [Act.put, List.setIfInBounds_toArray, List.set_cons_zero, List.set_cons_succ]
          have HX3 := hide (unhide HX2).alloc
          obtain ⟨GA, hGA⟩ : ∃ g, wk2.heap.size = g := ⟨_, rfl⟩
          rw [hGA] at HX3
          try rw [hGA]
          clear hGA HX2
          generalize wk2.alloc (.cells #[.int .i64 0, .slice none 0 0, .slice none 0 0, .slice none 0 0] 25) = wk3 at *
          refine wpAnyG_ready [3] (by kernel_rfl) (by simp) ?_
          refine AllReadyG.cons 3 (by rfl) (fun K hK => ?_) ?_
          · simp only [List.getElem_toArray, List.getElem_cons_succ, List.getElem_cons_zero]
            go_simp
            refine hK.out _ _ trivial (fun _ => ?_)
            clear hK K
            try simp only [Act.put, List.setIfInBounds_toArray, List.set_cons_zero, List.set_cons_succ]
            have HX4 := hide ((unhide HX3).make (unhide hF2 wk3) (unhide hF3 wk3))
            obtain ⟨G1, hG1⟩ : ∃ g, wk3.heap.size = g := ⟨_, rfl⟩
            rw [hG1] at HX4
            try rw [hG1]
            clear hG1 HX3
            generalize Fm wk3 = wk4 at *
            refine wpAnyG_take (v := ?_) 10 (by rfl) (by kernel_rfl) (by kernel_rfl) (by kernel_rfl) (by kernel_rfl) (fun _ _ _ h => h) (Or.inl ⟨by rfl, ?_⟩) (by assumption) ?_
            rotate_left
            · (intro w' hSw; (try dsimp only at hSw); (try simp only [List.getElem_toArray, List.getElem_cons_succ, List.getElem_cons_zero]); go_simp; try (with_reducible rfl))
            simp only [Act.put, List.getElem_toArray, List.getElem_cons_succ, List.getElem_cons_zero, List.setIfInBounds_toArray, List.set_cons_zero, List.set_cons_succ]
            obtain ⟨z0, z1, z2, z3, k0, k1, k2, k3⟩ := obj_cells ((unhide HX4).ob GA (by simp)).1
            refine wpAnyG_ready [12] (by kernel_rfl) (by simp) ?_
            refine AllReadyG.last 12 (by rfl) (by kernel_rfl) (fun K hK => ?_) ?_
            · simp only [List.getElem_toArray, List.getElem_cons_succ, List.getElem_cons_zero]
              go_simp
              refine hK.out _ _ ?_
              clear hK K
              try simp only [Act.put, List.setIfInBounds_toArray, List.set_cons_zero, List.set_cons_succ]
              refine wpAnyG_done (by kernel_rfl) ?_ _
              refine NoPanic.normal ?_
              go_wp2
              go_meet
              exact ⟨GA, G1, G2, G3, rfl, hide ((unhide HX4).met (K := K) (g1 := G1) (g2 := G2) (g3 := G3) (by simp) (by simp) (by simp) (by have := (unhide HX4).nd; simp at this; omega) (by have := (unhide HX4).nd; simp at this; omega) (by have := (unhide HX4).nd; simp at this; omega))⟩
            exact AllReadyG.nil
          exact AllReadyG.nil
        exact AllReadyG.nil
      refine AllReadyG.cons 11 (by rfl) (fun K hK => ?_) ?_
      · simp only [List.getElem_toArray, List.getElem_cons_succ, List.getElem_cons_zero]
        go_simp
        refine hK.out _ _ trivial (fun _ => ?_)
        clear hK K
        try simp only [Act.put, List.setIfInBounds_toArray, List.set_cons_zero, List.set_cons_succ]
        have HX2 := hide (unhide HX1).alloc
        obtain ⟨GA, hGA⟩ : ∃ g, wk1.heap.size = g := ⟨_, rfl⟩
        rw [hGA] at HX2
        try rw [hGA]
        clear hGA HX1
        generalize wk1.alloc (.cells #[.int .i64 0, .slice none 0 0, .slice none 0 0, .slice none 0 0] 25) = wk2 at *
        refine wpAnyG_ready [3, 6] (by kernel_rfl) (by simp) ?_
        refine AllReadyG.cons 3 (by rfl) (fun K hK => ?_) ?_
        · simp only [List.getElem_toArray, List.getElem_cons_succ, List.getElem_cons_zero]
          go_simp
          refine hK.out _ _ trivial (fun _ => ?_)
          clear hK K
          try simp only [Act.put, List.setIfInBounds_toArray, List.set_cons_zero, List.set_cons_succ]
          have HX3 := hide ((unhide HX2).make (unhide hF2 wk2) (unhide hF3 wk2))
          obtain ⟨G1, hG1⟩ : ∃ g, wk2.heap.size = g := ⟨_, rfl⟩
          rw [hG1] at HX3
          try rw [hG1]
          clear hG1 HX2
          generalize Fm wk2 = wk3 at *
          refine wpAnyG_ready [6] (by kernel_rfl) (by simp) ?_
          refine AllReadyG.cons 6 (by rfl) (fun K hK => ?_) ?_
          · simp only [List.getElem_toArray, List.getElem_cons_succ, List.getElem_cons_zero]
            go_simp
            refine hK.out _ _ trivial (fun _ => ?_)
            clear hK K
            try simp only [Act.put, List.setIfInBounds_toArray, List.set_cons_zero, List.set_cons_succ]
            have HX4 := hide ((unhide HX3).make (unhide hF2 wk3) (unhide hF3 wk3))
            obtain ⟨G2, hG2⟩ : ∃ g, wk3.heap.size = g := ⟨_, rfl⟩
            rw [hG2] at HX4
            try rw [hG2]
            clear hG2 HX3
            generalize Fm wk3 = wk4 at *
            refine wpAnyG_take (v := ?_) 10 (by rfl) (by kernel_rfl) (by kernel_rfl) (by kernel_rfl) (by kernel_rfl) (fun _ _ _ h => h) (Or.inl ⟨by rfl, ?_⟩) (by assumption) ?_
            rotate_left
            · (intro w' hSw; (try dsimp only at hSw); (try simp only [List.getElem_toArray, List.getElem_cons_succ, List.getElem_cons_zero]); go_simp; try (with_reducible rfl))
            simp only [Act.put, List.getElem_toArray, List.getElem_cons_succ, List.getElem_cons_zero, List.setIfInBounds_toArray, List.set_cons_zero, List.set_cons_succ]
            obtain ⟨z0, z1, z2, z3, k0, k1, k2, k3⟩ := obj_cells ((unhide HX4).ob GA (by simp)).1
            refine wpAnyG_ready [12] (by kernel_rfl) (by simp) ?_
            refine AllReadyG.last 12 (by rfl) (by kernel_rfl) (fun K hK => ?_) ?_
            · simp only [List.getElem_toArray, List.getElem_cons_succ, List.getElem_cons_zero]
              go_simp
              refine hK.out _ _ ?_
              clear hK K
              try simp only [Act.put, List.setIfInBounds_toArray, List.set_cons_zero, List.set_cons_succ]
              refine wpAnyG_done (by kernel_rfl) ?_ _
              refine NoPanic.normal ?_
              go_wp2
              go_meet
              exact ⟨GA, G1, G2, G3, rfl, hide ((unhide HX4).met (K := K) (g1 := G1) (g2 := G2) (g3 := G3) (by simp) (by simp) (by simp) (by have := (unhide HX4).nd; simp at this; omega) (by have := (unhide HX4).nd; simp at this; omega) (by have := (unhide HX4).nd; simp at this; omega))⟩
            exact AllReadyG.nil
          exact AllReadyG.nil
        refine AllReadyG.cons 6 (by rfl) (fun K hK => ?_) ?_
        · simp only [List.getElem_toArray, List.getElem_cons_succ, List.getElem_cons_zero]
          go_simp
          refine hK.out _ _ trivial (fun _ => ?_)
          clear hK K
          try simp only [Act.put, List.setIfInBounds_toArray, List.set_cons_zero, List.set_cons_succ]
          have HX3 := hide ((unhide HX2).make (unhide hF2 wk2) (unhide hF3 wk2))
          obtain ⟨G2, hG2⟩ : ∃ g, wk2.heap.size = g := ⟨_, rfl⟩
          rw [hG2] at HX3
          try rw [hG2]
          clear hG2 HX2
          generalize Fm wk2 = wk3 at *
          refine wpAnyG_ready [3] (by kernel_rfl) (by simp) ?_
          refine AllReadyG.cons 3 (by rfl) (fun K hK => ?_) ?_
          · simp only [List.getElem_toArray, List.getElem_cons_succ, List.getElem_cons_zero]
            go_simp
            refine hK.out _ _ trivial (fun _ => ?_)
            clear hK K
            try simp only [Act.put, List.setIfInBounds_toArray, List.set_cons_zero, List.set_cons_succ]
            have HX4 := hide ((unhide HX3).make (unhide hF2 wk3) (unhide hF3 wk3))
            obtain ⟨G1, hG1⟩ : ∃ g, wk3.heap.size = g := ⟨_, rfl⟩
            rw [hG1] at HX4
            try rw [hG1]
            clear hG1 HX3
            generalize Fm wk3 = wk4 at *
            refine wpAnyG_take (v := ?_) 10 (by rfl) (by kernel_rfl) (by kernel_rfl) (by kernel_rfl) (by kernel_rfl) (fun _ _ _ h => h) (Or.inl ⟨by rfl, ?_⟩) (by assumption) ?_
            rotate_left
            · (intro w' hSw; (try dsimp only at hSw); (try simp only [List.getElem_toArray, List.getElem_cons_succ, List.getElem_cons_zero]); go_simp; try (with_reducible rfl))
            simp only [Act.put, List.getElem_toArray, List.getElem_cons_succ, List.getElem_cons_zero, List.setIfInBounds_toArray, List.set_cons_zero, List.set_cons_succ]
            obtain ⟨z0, z1, z2, z3, k0, k1, k2, k3⟩ := obj_cells ((unhide HX4).ob GA (by simp)).1
            refine wpAnyG_ready [12] (by kernel_rfl) (by simp) ?_
            refine AllReadyG.last 12 (by rfl) (by kernel_rfl) (fun K hK => ?_) ?_
            · simp only [List.getElem_toArray, List.getElem_cons_succ, List.getElem_cons_zero]
              go_simp
              refine hK.out _ _ ?_
              clear hK K
              try simp only [Act.put, List.setIfInBounds_toArray, List.set_cons_zero, List.set_cons_succ]
              refine wpAnyG_done (by kernel_rfl) ?_ _
              refine NoPanic.normal ?_
              go_wp2
              go_meet
              exact ⟨GA, G1, G2, G3, rfl, hide ((unhide HX4).met (K := K) (g1 := G1) (g2 := G2) (g3 := G3) (by simp) (by simp) (by simp) (by have := (unhide HX4).nd; simp at this; omega) (by have := (unhide HX4).nd; simp at this; omega) (by have := (unhide HX4).nd; simp at this; omega))⟩
            exact AllReadyG.nil
          exact AllReadyG.nil
        exact AllReadyG.nil
      exact AllReadyG.nil
    refine AllReadyG.cons 11 (by rfl) (fun K hK => ?_) ?_
    · simp only [List.getElem_toArray, List.getElem_cons_succ, List.getElem_cons_zero]
      go_simp
      refine hK.out _ _ trivial (fun _ => ?_)
      clear hK K
      try simp only [Act.put, List.setIfInBounds_toArray, List.set_cons_zero, List.set_cons_succ]
      have HX1 := hide (unhide HX0).alloc
      obtain ⟨GA, hGA⟩ : ∃ g, w0q.heap.size = g := ⟨_, rfl⟩
      rw [hGA] at HX1
      try rw [hGA]
      clear hGA HX0
      generalize w0q.alloc (.cells #[.int .i64 0, .slice none 0 0, .slice none 0 0, .slice none 0 0] 25) = wk1 at *
      refine wpAnyG_ready [3, 6, 9] (by kernel_rfl) (by simp) ?_
      refine AllReadyG.cons 3 (by rfl) (fun K hK => ?_) ?_
      · simp only [List.getElem_toArray, List.getElem_cons_succ, List.getElem_cons_zero]
        go_simp
        refine hK.out _ _ trivial (fun _ => ?_)
        clear hK K
        try simp only [Act.put, List.setIfInBounds_toArray, List.set_cons_zero, List.set_cons_succ]
        have HX2 := hide ((unhide HX1).make (unhide hF2 wk1) (unhide hF3 wk1))
        obtain ⟨G1, hG1⟩ : ∃ g, wk1.heap.size = g := ⟨_, rfl⟩
        rw [hG1] at HX2
        try rw [hG1]
        clear hG1 HX1
        generalize Fm wk1 = wk2 at *
        refine wpAnyG_ready [6, 9] (by kernel_rfl) (by simp) ?_
        refine AllReadyG.cons 6 (by rfl) (fun K hK => ?_) ?_
        · simp only [List.getElem_toArray, List.getElem_cons_succ, List.getElem_cons_zero]
          go_simp
          refine hK.out _ _ trivial (fun _ => ?_)
          clear hK K
          try simp only [Act.put, List.setIfInBounds_toArray, List.set_cons_zero, List.set_cons_succ]
          have HX3 := hide ((unhide HX2).make (unhide hF2 wk2) (unhide hF3 wk2))
          obtain ⟨G2, hG2⟩ : ∃ g, wk2.heap.size = g := ⟨_, rfl⟩
          rw [hG2] at HX3
          try rw [hG2]
          clear hG2 HX2
          generalize Fm wk2 = wk3 at *
          refine wpAnyG_ready [9] (by kernel_rfl) (by simp) ?_
          refine AllReadyG.cons 9 (by rfl) (fun K hK => ?_) ?_
          · simp only [List.getElem_toArray, List.getElem_cons_succ, List.getElem_cons_zero]
            go_simp
            refine hK.out _ _ trivial (fun _ => ?_)
            clear hK K
            try simp only [Act.put, List.setIfInBounds_toArray, List.set_cons_zero, List.set_cons_succ]
            have HX4 := hide ((unhide HX3).make (unhide hF2 wk3) (unhide hF3 wk3))
            obtain ⟨G3, hG3⟩ : ∃ g, wk3.heap.size = g := ⟨_, rfl⟩
            rw [hG3] at HX4
            try rw [hG3]
            clear hG3 HX3
            generalize Fm wk3 = wk4 at *
            refine wpAnyG_take (v := ?_) 10 (by rfl) (by kernel_rfl) (by kernel_rfl) (by kernel_rfl) (by kernel_rfl) (fun _ _ _ h => h) (Or.inl ⟨by rfl, ?_⟩) (by assumption) ?_
            rotate_left
            · (intro w' hSw; (try dsimp only at hSw); (try simp only [List.getElem_toArray, List.getElem_cons_succ, List.getElem_cons_zero]); go_simp; try (with_reducible rfl))
            simp only [Act.put, List.getElem_toArray, List.getElem_cons_succ, List.getElem_cons_zero, List.setIfInBounds_toArray, List.set_cons_zero, List.set_cons_succ]
            obtain ⟨z0, z1, z2, z3, k0, k1, k2, k3⟩ := obj_cells ((unhide HX4).ob GA (by simp)).1
            refine wpAnyG_ready [12] (by kernel_rfl) (by simp) ?_
            refine AllReadyG.last 12 (by rfl) (by kernel_rfl) (fun K hK => ?_) ?_
            · simp only [List.getElem_toArray, List.getElem_cons_succ, List.getElem_cons_zero]
              go_simp
              refine hK.out _ _ ?_
              clear hK K
              try simp only [Act.put, List.setIfInBounds_toArray, List.set_cons_zero, List.set_cons_succ]
              refine wpAnyG_done (by kernel_rfl) ?_ _
              refine NoPanic.normal ?_
              go_wp2
              go_meet
              exact ⟨GA, G1, G2, G3, rfl, hide ((unhide HX4).met (K := K) (g1 := G1) (g2 := G2) (g3 := G3) (by simp) (by simp) (by simp) (by have := (unhide HX4).nd; simp at this; omega) (by have := (unhide HX4).nd; simp at this; omega) (by have := (unhide HX4).nd; simp at this; omega))⟩
            exact AllReadyG.nil
          exact AllReadyG.nil
        refine AllReadyG.cons 9 (by rfl) (fun K hK => ?_) ?_
        · simp only [List.getElem_toArray, List.getElem_cons_succ, List.getElem_cons_zero]
          go_simp
          refine hK.out _ _ trivial (fun _ => ?_)
          clear hK K
          try simp only [Act.put, List.setIfInBounds_toArray, List.set_cons_zero, List.set_cons_succ]
          have HX3 := hide ((unhide HX2).make (unhide hF2 wk2) (unhide hF3 wk2))
          obtain ⟨G3, hG3⟩ : ∃ g, wk2.heap.size = g := ⟨_, rfl⟩
          rw [hG3] at HX3
          try rw [hG3]
          clear hG3 HX2
          generalize Fm wk2 = wk3 at *
          refine wpAnyG_ready [6] (by kernel_rfl) (by simp) ?_
          refine AllReadyG.cons 6 (by rfl) (fun K hK => ?_) ?_
          · simp only [List.getElem_toArray, List.getElem_cons_succ, List.getElem_cons_zero]
            go_simp
            refine hK.out _ _ trivial (fun _ => ?_)
            clear hK K
            try simp only [Act.put, List.setIfInBounds_toArray, List.set_cons_zero, List.set_cons_succ]
            have HX4 := hide ((unhide HX3).make (unhide hF2 wk3) (unhide hF3 wk3))
            obtain ⟨G2, hG2⟩ : ∃ g, wk3.heap.size = g := ⟨_, rfl⟩
            rw [hG2] at HX4
            try rw [hG2]
            clear hG2 HX3
            generalize Fm wk3 = wk4 at *
            refine wpAnyG_take (v := ?_) 10 (by rfl) (by kernel_rfl) (by kernel_rfl) (by kernel_rfl) (by kernel_rfl) (fun _ _ _ h => h) (Or.inl ⟨by rfl, ?_⟩) (by assumption) ?_
            rotate_left
            · (intro w' hSw; (try dsimp only at hSw); (try simp only [List.getElem_toArray, List.getElem_cons_succ, List.getElem_cons_zero]); go_simp; try (with_reducible rfl))
            simp only [Act.put, List.getElem_toArray, List.getElem_cons_succ, List.getElem_cons_zero, List.setIfInBounds_toArray, List.set_cons_zero, List.set_cons_succ]
            obtain ⟨z0, z1, z2, z3, k0, k1, k2, k3⟩ := obj_cells ((unhide HX4).ob GA (by simp)).1
            refine wpAnyG_ready [12] (by kernel_rfl) (by simp) ?_
            refine AllReadyG.last 12 (by rfl) (by kernel_rfl) (fun K hK => ?_) ?_
            · simp only [List.getElem_toArray, List.getElem_cons_succ, List.getElem_cons_zero]
              go_simp
              refine hK.out _ _ ?_
              clear hK K
              try simp only [Act.put, List.setIfInBounds_toArray, List.set_cons_zero, List.set_cons_succ]
              refine wpAnyG_done (by kernel_rfl) ?_ _
              refine NoPanic.normal ?_
              go_wp2
              go_meet
              exact ⟨GA, G1, G2, G3, rfl, hide ((unhide HX4).met (K := K) (g1 := G1) (g2 := G2) (g3 := G3) (by simp) (by simp) (by simp) (by have := (unhide HX4).nd; simp at this; omega) (by have := (unhide HX4).nd; simp at this; omega) (by have := (unhide HX4).nd; simp at this; omega))⟩
            exact AllReadyG.nil
          exact AllReadyG.nil
        exact AllReadyG.nil
      refine AllReadyG.cons 6 (by rfl) (fun K hK => ?_) ?_
      · simp only [List.getElem_toArray, List.getElem_cons_succ, List.getElem_cons_zero]
        go_simp
        refine hK.out _ _ trivial (fun _ => ?_)
        clear hK K
        try simp only [Act.put, List.setIfInBounds_toArray, List.set_cons_zero, List.set_cons_succ]
        have HX2 := hide ((unhide HX1).make (unhide hF2 wk1) (unhide hF3 wk1))
        obtain ⟨G2, hG2⟩ : ∃ g, wk1.heap.size = g := ⟨_, rfl⟩
        rw [hG2] at HX2
        try rw [hG2]
        clear hG2 HX1
        generalize Fm wk1 = wk2 at *
        refine wpAnyG_ready [3, 9] (by kernel_rfl) (by simp) ?_
        refine AllReadyG.cons 3 (by rfl) (fun K hK => ?_) ?_
        · simp only [List.getElem_toArray, List.getElem_cons_succ, List.getElem_cons_zero]
          go_simp
          refine hK.out _ _ trivial (fun _ => ?_)
          clear hK K
          try simp only [Act.put, List.setIfInBounds_toArray, List.set_cons_zero, List.set_cons_succ]
          have HX3 := hide ((unhide HX2).make (unhide hF2 wk2) (unhide hF3 wk2))
          obtain ⟨G1, hG1⟩ : ∃ g, wk2.heap.size = g := ⟨_, rfl⟩
          rw [hG1] at HX3
          try rw [hG1]
          clear hG1 HX2
          generalize Fm wk2 = wk3 at *
          refine wpAnyG_ready [9] (by kernel_rfl) (by simp) ?_
          refine AllReadyG.cons 9 (by rfl) (fun K hK => ?_) ?_
          · simp only [List.getElem_toArray, List.getElem_cons_succ, List.getElem_cons_zero]
            go_simp
            refine hK.out _ _ trivial (fun _ => ?_)
            clear hK K
            try simp only [Act.put, List.setIfInBounds_toArray, List.set_cons_zero, List.set_cons_succ]
            have HX4 := hide ((unhide HX3).make (unhide hF2 wk3) (unhide hF3 wk3))
            obtain ⟨G3, hG3⟩ : ∃ g, wk3.heap.size = g := ⟨_, rfl⟩
            rw [hG3] at HX4
            try rw [hG3]
            clear hG3 HX3
            generalize Fm wk3 = wk4 at *
            refine wpAnyG_take (v := ?_) 10 (by rfl) (by kernel_rfl) (by kernel_rfl) (by kernel_rfl) (by kernel_rfl) (fun _ _ _ h => h) (Or.inl ⟨by rfl, ?_⟩) (by assumption) ?_
            rotate_left
            · (intro w' hSw; (try dsimp only at hSw); (try simp only [List.getElem_toArray, List.getElem_cons_succ, List.getElem_cons_zero]); go_simp; try (with_reducible rfl))
            simp only [Act.put, List.getElem_toArray, List.getElem_cons_succ, List.getElem_cons_zero, List.setIfInBounds_toArray, List.set_cons_zero, List.set_cons_succ]
            obtain ⟨z0, z1, z2, z3, k0, k1, k2, k3⟩ := obj_cells ((unhide HX4).ob GA (by simp)).1
            refine wpAnyG_ready [12] (by kernel_rfl) (by simp) ?_
            refine AllReadyG.last 12 (by rfl) (by kernel_rfl) (fun K hK => ?_) ?_
            · simp only [List.getElem_toArray, List.getElem_cons_succ, List.getElem_cons_zero]
              go_simp
              refine hK.out _ _ ?_
              clear hK K
              try simp only [Act.put, List.setIfInBounds_toArray, List.set_cons_zero, List.set_cons_succ]
              refine wpAnyG_done (by kernel_rfl) ?_ _
              refine NoPanic.normal ?_
              go_wp2
              go_meet
              exact ⟨GA, G1, G2, G3, rfl, hide ((unhide HX4).met (K := K) (g1 := G1) (g2 := G2) (g3 := G3) (by simp) (by simp) (by simp) (by have := (unhide HX4).nd; simp at this; omega) (by have := (unhide HX4).nd; simp at this; omega) (by have := (unhide HX4).nd; simp at this; omega))⟩
            exact AllReadyG.nil
          exact AllReadyG.nil
        refine AllReadyG.cons 9 (by rfl) (fun K hK => ?_) ?_
        · simp only [List.getElem_toArray, List.getElem_cons_succ, List.getElem_cons_zero]
          go_simp
          refine hK.out _ _ trivial (fun _ => ?_)
          clear hK K
          try simp only [Act.put, List.setIfInBounds_toArray, List.set_cons_zero, List.set_cons_succ]
          have HX3 := hide ((unhide HX2).make (unhide hF2 wk2) (unhide hF3 wk2))
          obtain ⟨G3, hG3⟩ : ∃ g, wk2.heap.size = g := ⟨_, rfl⟩
          rw [hG3] at HX3
          try rw [hG3]
          clear hG3 HX2
          generalize Fm wk2 = wk3 at *
          refine wpAnyG_ready [3] (by kernel_rfl) (by simp) ?_
          refine AllReadyG.cons 3 (by rfl) (fun K hK => ?_) ?_
          · simp only [List.getElem_toArray, List.getElem_cons_succ, List.getElem_cons_zero]
            go_simp
            refine hK.out _ _ trivial (fun _ => ?_)
            clear hK K
            try simp only [Act.put, List.setIfInBounds_toArray, List.set_cons_zero, List.set_cons_succ]
            have HX4 := hide ((unhide HX3).make (unhide hF2 wk3) (unhide hF3 wk3))
            obtain ⟨G1, hG1⟩ : ∃ g, wk3.heap.size = g := ⟨_, rfl⟩
            rw [hG1] at HX4
            try rw [hG1]
            clear hG1 HX3
            generalize Fm wk3 = wk4 at *
            refine wpAnyG_take (v := ?_) 10 (by rfl) (by kernel_rfl) (by kernel_rfl) (by kernel_rfl) (by kernel_rfl) (fun _ _ _ h => h) (Or.inl ⟨by rfl, ?_⟩) (by assumption) ?_
            rotate_left
            · (intro w' hSw; (try dsimp only at hSw); (try simp only [List.getElem_toArray, List.getElem_cons_succ, List.getElem_cons_zero]); go_simp; try (with_reducible rfl))
            simp only [Act.put, List.getElem_toArray, List.getElem_cons_succ, List.getElem_cons_zero, List.setIfInBounds_toArray, List.set_cons_zero, List.set_cons_succ]
            obtain ⟨z0, z1, z2, z3, k0, k1, k2, k3⟩ := obj_cells ((unhide HX4).ob GA (by simp)).1
            refine wpAnyG_ready [12] (by kernel_rfl) (by simp) ?_
            refine AllReadyG.last 12 (by rfl) (by kernel_rfl) (fun K hK => ?_) ?_
            · simp only [List.getElem_toArray, List.getElem_cons_succ, List.getElem_cons_zero]
              go_simp
              refine hK.out _ _ ?_
              clear hK K
              try simp only [Act.put, List.setIfInBounds_toArray, List.set_cons_zero, List.set_cons_succ]
              refine wpAnyG_done (by kernel_rfl) ?_ _
              refine NoPanic.normal ?_
              go_wp2
              go_meet
              exact ⟨GA, G1, G2, G3, rfl, hide ((unhide HX4).met (K := K) (g1 := G1) (g2 := G2) (g3 := G3) (by simp) (by simp) (by simp) (by have := (unhide HX4).nd; simp at this; omega) (by have := (unhide HX4).nd; simp at this; omega) (by have := (unhide HX4).nd; simp at this; omega))⟩
            exact AllReadyG.nil
          exact AllReadyG.nil
        exact AllReadyG.nil
      refine AllReadyG.cons 9 (by rfl) (fun K hK => ?_) ?_
      · simp only [List.getElem_toArray, List.getElem_cons_succ, List.getElem_cons_zero]
        go_simp
        refine hK.out _ _ trivial (fun _ => ?_)
        clear hK K
        try simp only [Act.put, List.setIfInBounds_toArray, List.set_cons_zero, List.set_cons_succ]
        have HX2 := hide ((unhide HX1).make (unhide hF2 wk1) (unhide hF3 wk1))
        obtain ⟨G3, hG3⟩ : ∃ g, wk1.heap.size = g := ⟨_, rfl⟩
        rw [hG3] at HX2
        try rw [hG3]
        clear hG3 HX1
        generalize Fm wk1 = wk2 at *
        refine wpAnyG_ready [3, 6] (by kernel_rfl) (by simp) ?_
        refine AllReadyG.cons 3 (by rfl) (fun K hK => ?_) ?_
        · simp only [List.getElem_toArray, List.getElem_cons_succ, List.getElem_cons_zero]
          go_simp
          refine hK.out _ _ trivial (fun _ => ?_)
          clear hK K
          try simp only [Act.put, List.setIfInBounds_toArray, List.set_cons_zero, List.set_cons_succ]
          have HX3 := hide ((unhide HX2).make (unhide hF2 wk2) (unhide hF3 wk2))
          obtain ⟨G1, hG1⟩ : ∃ g, wk2.heap.size = g := ⟨_, rfl⟩
          rw [hG1] at HX3
          try rw [hG1]
          clear hG1 HX2
          generalize Fm wk2 = wk3 at *
          refine wpAnyG_ready [6] (by kernel_rfl) (by simp) ?_
          refine AllReadyG.cons 6 (by rfl) (fun K hK => ?_) ?_
          · simp only [List.getElem_toArray, List.getElem_cons_succ, List.getElem_cons_zero]
            go_simp
            refine hK.out _ _ trivial (fun _ => ?_)
            clear hK K
            try simp only [Act.put, List.setIfInBounds_toArray, List.set_cons_zero, List.set_cons_succ]
            have HX4 := hide ((unhide HX3).make (unhide hF2 wk3) (unhide hF3 wk3))
            obtain ⟨G2, hG2⟩ : ∃ g, wk3.heap.size = g := ⟨_, rfl⟩
            rw [hG2] at HX4
            try rw [hG2]
            clear hG2 HX3
            generalize Fm wk3 = wk4 at *
            refine wpAnyG_take (v := ?_) 10 (by rfl) (by kernel_rfl) (by kernel_rfl) (by kernel_rfl) (by kernel_rfl) (fun _ _ _ h => h) (Or.inl ⟨by rfl, ?_⟩) (by assumption) ?_
            rotate_left
            · (intro w' hSw; (try dsimp only at hSw); (try simp only [List.getElem_toArray, List.getElem_cons_succ, List.getElem_cons_zero]); go_simp; try (with_reducible rfl))
            simp only [Act.put, List.getElem_toArray, List.getElem_cons_succ, List.getElem_cons_zero, List.setIfInBounds_toArray, List.set_cons_zero, List.set_cons_succ]
            obtain ⟨z0, z1, z2, z3, k0, k1, k2, k3⟩ := obj_cells ((unhide HX4).ob GA (by simp)).1
            refine wpAnyG_ready [12] (by kernel_rfl) (by simp) ?_
            refine AllReadyG.last 12 (by rfl) (by kernel_rfl) (fun K hK => ?_) ?_
            · simp only [List.getElem_toArray, List.getElem_cons_succ, List.getElem_cons_zero]
              go_simp
              refine hK.out _ _ ?_
              clear hK K
              try simp only [Act.put, List.setIfInBounds_toArray, List.set_cons_zero, List.set_cons_succ]
              refine wpAnyG_done (by kernel_rfl) ?_ _
              refine NoPanic.normal ?_
              go_wp2
              go_meet
              exact ⟨GA, G1, G2, G3, rfl, hide ((unhide HX4).met (K := K) (g1 := G1) (g2 := G2) (g3 := G3) (by simp) (by simp) (by simp) (by have := (unhide HX4).nd; simp at this; omega) (by have := (unhide HX4).nd; simp at this; omega) (by have := (unhide HX4).nd; simp at this; omega))⟩
            exact AllReadyG.nil
          exact AllReadyG.nil
        refine AllReadyG.cons 6 (by rfl) (fun K hK => ?_) ?_
        · simp only [List.getElem_toArray, List.getElem_cons_succ, List.getElem_cons_zero]
          go_simp
          refine hK.out _ _ trivial (fun _ => ?_)
          clear hK K
          try simp only [Act.put, List.setIfInBounds_toArray, List.set_cons_zero, List.set_cons_succ]
          have HX3 := hide ((unhide HX2).make (unhide hF2 wk2) (unhide hF3 wk2))
          obtain ⟨G2, hG2⟩ : ∃ g, wk2.heap.size = g := ⟨_, rfl⟩
          rw [hG2] at HX3
          try rw [hG2]
          clear hG2 HX2
          generalize Fm wk2 = wk3 at *
          refine wpAnyG_ready [3] (by kernel_rfl) (by simp) ?_
          refine AllReadyG.cons 3 (by rfl) (fun K hK => ?_) ?_
          · simp only [List.getElem_toArray, List.getElem_cons_succ, List.getElem_cons_zero]
            go_simp
            refine hK.out _ _ trivial (fun _ => ?_)
            clear hK K
            try simp only [Act.put, List.setIfInBounds_toArray, List.set_cons_zero, List.set_cons_succ]
            have HX4 := hide ((unhide HX3).make (unhide hF2 wk3) (unhide hF3 wk3))
            obtain ⟨G1, hG1⟩ : ∃ g, wk3.heap.size = g := ⟨_, rfl⟩
            rw [hG1] at HX4
            try rw [hG1]
            clear hG1 HX3
            generalize Fm wk3 = wk4 at *
            refine wpAnyG_take (v := ?_) 10 (by rfl) (by kernel_rfl) (by kernel_rfl) (by kernel_rfl) (by kernel_rfl) (fun _ _ _ h => h) (Or.inl ⟨by rfl, ?_⟩) (by assumption) ?_
            rotate_left
            · (intro w' hSw; (try dsimp only at hSw); (try simp only [List.getElem_toArray, List.getElem_cons_succ, List.getElem_cons_zero]); go_simp; try (with_reducible rfl))
            simp only [Act.put, List.getElem_toArray, List.getElem_cons_succ, List.getElem_cons_zero, List.setIfInBounds_toArray, List.set_cons_zero, List.set_cons_succ]
            obtain ⟨z0, z1, z2, z3, k0, k1, k2, k3⟩ := obj_cells ((unhide HX4).ob GA (by simp)).1
            refine wpAnyG_ready [12] (by kernel_rfl) (by simp) ?_
            refine AllReadyG.last 12 (by rfl) (by kernel_rfl) (fun K hK => ?_) ?_
            · simp only [List.getElem_toArray, List.getElem_cons_succ, List.getElem_cons_zero]
              go_simp
              refine hK.out _ _ ?_
              clear hK K
              try simp only [Act.put, List.setIfInBounds_toArray, List.set_cons_zero, List.set_cons_succ]
              refine wpAnyG_done (by kernel_rfl) ?_ _
              refine NoPanic.normal ?_
              go_wp2
              go_meet
              exact ⟨GA, G1, G2, G3, rfl, hide ((unhide HX4).met (K := K) (g1 := G1) (g2 := G2) (g3 := G3) (by simp) (by simp) (by simp) (by have := (unhide HX4).nd; simp at this; omega) (by have := (unhide HX4).nd; simp at this; omega) (by have := (unhide HX4).nd; simp at this; omega))⟩
            exact AllReadyG.nil
          exact AllReadyG.nil
        exact AllReadyG.nil
      exact AllReadyG.nil
    exact AllReadyG.nil
  case rest =>
    obtain ⟨wP, rfl⟩ : ∃ wP, wP = wc := ⟨_, rfl⟩
    obtain ⟨g, g1, g2, g3, rfl, HK0⟩ := hcut
    have HK1 : Hid (KnAt w2.heap.size w0q g g1 g2 g3 K M wP (Sp.knT K 0) (Sp.knX K 0) (List.replicate (2 * K) 0)) := hide (by
      have h := unhide HK0
      rw [← unhide HM] at h ⊢
      exact h)
    clear HK0 hF1 hF2 hF3 Hb2 HW0
    go_wp2
    go_loopg [7] K (fun gg s7 wr => ∃ e : Nat, e + gg = K ∧ s7 = .int .i64 (e : Int) ∧ Hid (KnAt w2.heap.size w0q g g1 g2 g3 K M wr (Sp.knT K e) (Sp.knX K 0) (List.replicate (2 * K) 0)))
    case atStart => exact ⟨0, by omega, rfl, HK1⟩
    case round =>
      clear HK1
      obtain ⟨e, heg, rfl, HI⟩ := hrel
      cases gk with
      | succ g' =>
        have heK : e < K := by omega
        have heI : (e : Int) < (K : Int) := by omega
        obtain ⟨a, ha⟩ : ∃ a, 2 * e = a := ⟨_, rfl⟩
        obtain ⟨b, hb⟩ : ∃ b, a + 1 = b := ⟨_, rfl⟩
        obtain ⟨y, hy⟩ : ∃ y, (e + 1) % K = y := ⟨_, rfl⟩
        have haw : IntKind.i64.wrap (2 * (e : Int)) = (a : Int) := by rw [IntKind.wrap_i64]; omega
        have hbw : IntKind.i64.wrap ((a : Int) + 1) = (b : Int) := by rw [IntKind.wrap_i64]; omega
        have hew : IntKind.i64.wrap ((e : Int) + 1) = ((e + 1 : Nat) : Int) := by rw [IntKind.wrap_i64]; omega
        have hrm : ((e + 1 : Nat) : Int).tmod (K : Int) = (y : Int) := by rw [Int.tmod_eq_emod_of_nonneg (by omega), ← hy]; omega
        have hMM := unhide HM
        have hK0 : ¬ (K : Int) = 0 := by omega
        have hK0N : ¬ K = 0 := by omega
        have hK0b : ((K : Int) == 0) = false := beq_eq_false_iff_ne.2 hK0
        obtain ⟨e1, he1⟩ : ∃ e1, e + 1 = e1 := ⟨_, rfl⟩
        rw [he1] at hew hrm
        have HE1 := hide he1
        have hyl : y < K := by rw [← hy]; exact Nat.mod_lt _ (by omega)
        have hyw : IntKind.i64.wrap (y : Int) = (y : Int) := by rw [IntKind.wrap_i64]; omega
        have haM : a < M := by omega
        have hbM : b < M := by omega
        have haI : (a : Int) < (M : Int) := by omega
        have hbI : (b : Int) < (M : Int) := by omega
        have hkw := (unhide HI).below (Below.refl _ wr).drew
        obtain ⟨x0, x1, x2, x3, -⟩ := obj_cells hkw.ob
        have hTl : (Sp.knT K e).length = M := by rw [Sp.knT_len]; exact hMM
        have c1 := own_getD hkw.o1 a (by omega)
        have f1 := own_frozen hkw.o1 a
        have hk1 := fun v => hkw.setT a v
        have hk2 := fun v v' => (hkw.setT a v).setT b v'
        have cc2 : ∀ v : Value, ∃ z, (wr.drew.setCell ⟨g1, a, none⟩ v).cell? ⟨g1, b, none⟩ = some z := fun v => cell?_setCell_some (own_getD hkw.o1 b (by omega))
        have ff2 : ∀ v : Value, (wr.drew.setCell ⟨g1, a, none⟩ v).frozen? ⟨g1, b, none⟩ = false := fun v => by have := own_frozen hkw.o1 b; simpa using this
        have HKn : Hid (KnAt w2.heap.size w0q g g1 g2 g3 K M ((wr.drew.setCell ⟨g1, a, none⟩ (.int .i64 (e : Int))).setCell ⟨g1, b, none⟩ (.int .i64 (y : Int))) (Sp.knT K (e + 1)) (Sp.knX K 0) (List.replicate (2 * K) 0)) := hide (by
          have h := hk2 (e : Int) (y : Int)
          rw [Sp.knT, ha, hb, hy]
          exact h)
        clear hMM ha hb hy he1 hkw HI hK0
        go_upto_region 8 with fail
        refine wp_region_G (fun w' => w'.cell? ⟨g, 0, none⟩ = some (.int .i64 (K : Int)) ∧ w'.cell? ⟨g, 1, none⟩ = some (.slice (some ⟨g1, 0, none⟩) M M) ∧ w'.cell? ⟨g, 2, none⟩ = some (.slice (some ⟨g2, 0, none⟩) M M) ∧ w'.cell? ⟨g, 3, none⟩ = some (.slice (some ⟨g3, 0, none⟩) M M)) (fun _ => false) (by kernel_rfl) ⟨x0, x1, x2, x3⟩ (fun hHeld => ?_)
        generalize wr.drew = wD at *
        refine wpAnyG_take (v := ?_) 0 (by rfl) (by kernel_rfl) (by kernel_rfl) (by kernel_rfl) (by kernel_rfl) (fun _ _ _ h => h) (Or.inl ⟨by rfl, ?_⟩) (by assumption) ?_
        rotate_left
        · (intro w' hSw; (try dsimp only at hSw); (try simp only [List.getElem_toArray, List.getElem_cons_zero]); go_simp; try (with_reducible rfl))
        simp only [Act.put, List.getElem_toArray, List.getElem_cons_zero, List.setIfInBounds_toArray, List.set_cons_zero, List.set_cons_succ]
        refine wpAnyG_take (v := ?_) 1 (by rfl) (by kernel_rfl) (by kernel_rfl) (by kernel_rfl) (by kernel_rfl) (fun _ _ _ h => h) (Or.inl ⟨by rfl, ?_⟩) (by assumption) ?_
        rotate_left
        · (intro w' hSw; (try dsimp only at hSw); (try simp only [List.getElem_toArray, List.getElem_cons_succ, List.getElem_cons_zero]); go_simp; try (with_reducible rfl))
        simp only [Act.put, List.getElem_toArray, List.getElem_cons_succ, List.getElem_cons_zero, List.setIfInBounds_toArray, List.set_cons_zero, List.set_cons_succ]
        refine wpAnyG_take (v := ?_) 2 (by rfl) (by kernel_rfl) (by kernel_rfl) (by kernel_rfl) (by kernel_rfl) (fun _ _ _ h => h) (Or.inl ⟨by rfl, ?_⟩) (by assumption) ?_
        rotate_left
        · (intro w' hSw; (try dsimp only at hSw); (try simp only [List.getElem_toArray, List.getElem_cons_succ, List.getElem_cons_zero]); go_simp; try (with_reducible rfl))
        simp only [Act.put, List.getElem_toArray, List.getElem_cons_succ, List.getElem_cons_zero, List.setIfInBounds_toArray, List.set_cons_zero, List.set_cons_succ]
        refine wpAnyG_take (v := ?_) 3 (by rfl) (by kernel_rfl) (by kernel_rfl) (by kernel_rfl) (by kernel_rfl) (fun _ _ _ h => h) (Or.inl ⟨by rfl, ?_⟩) (by assumption) ?_
        rotate_left
        · (intro w' hSw; (try dsimp only at hSw); (try simp only [List.getElem_toArray, List.getElem_cons_succ, List.getElem_cons_zero]); go_simp; try (with_reducible rfl))
        simp only [Act.put, List.getElem_toArray, List.getElem_cons_succ, List.getElem_cons_zero, List.setIfInBounds_toArray, List.set_cons_zero, List.set_cons_succ]
        refine wpAnyG_take (v := ?_) 4 (by rfl) (by kernel_rfl) (by kernel_rfl) (by kernel_rfl) (by kernel_rfl) (fun _ _ _ h => h) (Or.inl ⟨by rfl, ?_⟩) (by assumption) ?_
        rotate_left
        · (intro w' hSw; (try dsimp only at hSw); (try simp only [List.getElem_toArray, List.getElem_cons_succ, List.getElem_cons_zero]); go_simp; try (with_reducible rfl))
        simp only [Act.put, List.getElem_toArray, List.getElem_cons_succ, List.getElem_cons_zero, List.setIfInBounds_toArray, List.set_cons_zero, List.set_cons_succ]
        refine wpAnyG_take (v := ?_) 5 (by rfl) (by kernel_rfl) (by kernel_rfl) (by kernel_rfl) (by kernel_rfl) (fun _ _ _ h => h) (Or.inl ⟨by rfl, ?_⟩) (by assumption) ?_
        rotate_left
        · (intro w' hSw; (try dsimp only at hSw); (try simp only [List.getElem_toArray, List.getElem_cons_succ, List.getElem_cons_zero]); go_simp; try (with_reducible rfl))
        simp only [Act.put, List.getElem_toArray, List.getElem_cons_succ, List.getElem_cons_zero, List.setIfInBounds_toArray, List.set_cons_zero, List.set_cons_succ]
        refine wpAnyG_take (v := ?_) 6 (by rfl) (by kernel_rfl) (by kernel_rfl) (by kernel_rfl) (by kernel_rfl) (fun _ _ _ h => h) (Or.inl ⟨by rfl, ?_⟩) (by assumption) ?_
        rotate_left
        · (intro w' hSw; (try dsimp only at hSw); (try simp only [List.getElem_toArray, List.getElem_cons_succ, List.getElem_cons_zero]); go_simp; try (with_reducible rfl))
        simp only [Act.put, List.getElem_toArray, List.getElem_cons_succ, List.getElem_cons_zero, List.setIfInBounds_toArray, List.set_cons_zero, List.set_cons_succ]
        refine wpAnyG_take (v := ?_) 7 (by rfl) (by kernel_rfl) (by kernel_rfl) (by kernel_rfl) (by kernel_rfl) (fun _ _ _ h => h) (Or.inl ⟨by rfl, ?_⟩) (by assumption) ?_
        rotate_left
        · (intro w' hSw; (try dsimp only at hSw); (try simp only [List.getElem_toArray, List.getElem_cons_succ, List.getElem_cons_zero]); go_simp; try (with_reducible rfl))
        simp only [Act.put, List.getElem_toArray, List.getElem_cons_succ, List.getElem_cons_zero, List.setIfInBounds_toArray, List.set_cons_zero, List.set_cons_succ]
        refine wpAnyG_take (v := ?_) 8 (by rfl) (by kernel_rfl) (by kernel_rfl) (by kernel_rfl) (by kernel_rfl) (fun _ _ _ h => h) (Or.inl ⟨by rfl, ?_⟩) (by assumption) ?_
        rotate_left
        · (intro w' hSw; (try dsimp only at hSw); (try simp only [List.getElem_toArray, List.getElem_cons_succ, List.getElem_cons_zero]); go_simp; try (with_reducible rfl))
        simp only [Act.put, List.getElem_toArray, List.getElem_cons_succ, List.getElem_cons_zero, List.setIfInBounds_toArray, List.set_cons_zero, List.set_cons_succ]
        refine wpAnyG_take (v := ?_) 9 (by rfl) (by kernel_rfl) (by kernel_rfl) (by kernel_rfl) (by kernel_rfl) (fun _ _ _ h => h) (Or.inl ⟨by rfl, ?_⟩) (by assumption) ?_
        rotate_left
        · (intro w' hSw; (try dsimp only at hSw); (try simp only [List.getElem_toArray, List.getElem_cons_succ, List.getElem_cons_zero]); go_simp; try (with_reducible rfl))
        simp only [Act.put, List.getElem_toArray, List.getElem_cons_succ, List.getElem_cons_zero, List.setIfInBounds_toArray, List.set_cons_zero, List.set_cons_succ]
        refine wpAnyG_take (v := ?_) 10 (by rfl) (by kernel_rfl) (by kernel_rfl) (by kernel_rfl) (by kernel_rfl) (fun _ _ _ h => h) (Or.inl ⟨by rfl, ?_⟩) (by assumption) ?_
        rotate_left
        · (intro w' hSw; (try dsimp only at hSw); (try simp only [List.getElem_toArray, List.getElem_cons_succ, List.getElem_cons_zero]); go_simp; try (with_reducible rfl))
        simp only [Act.put, List.getElem_toArray, List.getElem_cons_succ, List.getElem_cons_zero, List.setIfInBounds_toArray, List.set_cons_zero, List.set_cons_succ]
        refine wpAnyG_take (v := ?_) 11 (by rfl) (by kernel_rfl) (by kernel_rfl) (by kernel_rfl) (by kernel_rfl) (fun _ _ _ h => h) (Or.inl ⟨by rfl, ?_⟩) (by assumption) ?_
        rotate_left
        · (intro w' hSw; (try dsimp only at hSw); (try simp only [List.getElem_toArray, List.getElem_cons_succ, List.getElem_cons_zero]); go_simp; try (with_reducible rfl))
        simp only [Act.put, List.getElem_toArray, List.getElem_cons_succ, List.getElem_cons_zero, List.setIfInBounds_toArray, List.set_cons_zero, List.set_cons_succ]
        refine wpAnyG_take (v := ?_) 12 (by rfl) (by kernel_rfl) (by kernel_rfl) (by kernel_rfl) (by kernel_rfl) (fun _ _ _ h => h) (Or.inl ⟨by rfl, ?_⟩) (by assumption) ?_
        rotate_left
        · (intro w' hSw; (try dsimp only at hSw); (try simp only [List.getElem_toArray, List.getElem_cons_succ, List.getElem_cons_zero]); go_simp; try (with_reducible rfl))
        simp only [Act.put, List.getElem_toArray, List.getElem_cons_succ, List.getElem_cons_zero, List.setIfInBounds_toArray, List.set_cons_zero, List.set_cons_succ]
        refine wpAnyG_take (v := ?_) 13 (by rfl) (by kernel_rfl) (by kernel_rfl) (by kernel_rfl) (by kernel_rfl) (fun _ _ _ h => h) (Or.inl ⟨by rfl, ?_⟩) (by assumption) ?_
        rotate_left
        · (intro w' hSw; (try dsimp only at hSw); (try simp only [List.getElem_toArray, List.getElem_cons_succ, List.getElem_cons_zero]); go_simp; try (with_reducible rfl))
        simp only [Act.put, List.getElem_toArray, List.getElem_cons_succ, List.getElem_cons_zero, List.setIfInBounds_toArray, List.set_cons_zero, List.set_cons_succ]
        refine wpAnyG_take (v := ?_) 14 (by rfl) (by kernel_rfl) (by kernel_rfl) (by kernel_rfl) (by kernel_rfl) (fun _ _ _ h => h) (Or.inl ⟨by rfl, ?_⟩) (by assumption) ?_
        rotate_left
        · (intro w' hSw; (try dsimp only at hSw); (try simp only [List.getElem_toArray, List.getElem_cons_succ, List.getElem_cons_zero]); go_simp; try (with_reducible rfl))
        simp only [Act.put, List.getElem_toArray, List.getElem_cons_succ, List.getElem_cons_zero, List.setIfInBounds_toArray, List.set_cons_zero, List.set_cons_succ]
        refine wpAnyG_ready [15] (by kernel_rfl) (by simp) ?_
        refine AllReadyG.cons 15 (by rfl) (fun K hK => ?_) ?_
        · simp only [List.getElem_toArray, List.getElem_cons_succ, List.getElem_cons_zero]
          go_simp
          refine hK.out _ _ (by obtain ⟨q0, q1, q2, q3, -⟩ := obj_cells (hk1 _).ob; exact ⟨q0, q1, q2, q3⟩) (fun _ => ?_)
          clear hK K
          try simp only [Act.put, List.setIfInBounds_toArray, List.set_cons_zero, List.set_cons_succ]
          have f2 : (wD.setCell ⟨g1, a, none⟩ (.int .i64 (e : Int))).frozen? ⟨g1, b, none⟩ = false := ff2 _
          obtain ⟨zz, c2⟩ := cc2 (.int .i64 (e : Int))
          refine wpAnyG_take (v := ?_) 16 (by rfl) (by kernel_rfl) (by kernel_rfl) (by kernel_rfl) (by kernel_rfl) (fun _ _ _ h => h) (Or.inl ⟨by rfl, ?_⟩) (by assumption) ?_
          rotate_left
          · (intro w' hSw; (try dsimp only at hSw); (try simp only [List.getElem_toArray, List.getElem_cons_succ, List.getElem_cons_zero]); go_simp; try (with_reducible rfl))
          simp only [Act.put, List.getElem_toArray, List.getElem_cons_succ, List.getElem_cons_zero, List.setIfInBounds_toArray, List.set_cons_zero, List.set_cons_succ]
          refine wpAnyG_ready [17] (by kernel_rfl) (by simp) ?_
          refine AllReadyG.cons 17 (by rfl) (fun K hK => ?_) ?_
          · simp only [List.getElem_toArray, List.getElem_cons_succ, List.getElem_cons_zero]
            go_simp
            refine hK.out _ _ (by obtain ⟨q0, q1, q2, q3, -⟩ := obj_cells (hk2 _ _).ob; exact ⟨q0, q1, q2, q3⟩) (fun _ => ?_)
            clear hK K
            try simp only [Act.put, List.setIfInBounds_toArray, List.set_cons_zero, List.set_cons_succ]
            refine wpAnyG_done (by kernel_rfl) ?_ _
            refine NoPanic.normal ?_
            go_wp2
            go_roundg g'
            case rel => exact ⟨e1, by have := unhide HE1; omega, by go_num, by rw [← unhide HE1]; exact HKn⟩
            case measure => omega
          exact AllReadyG.nil
        exact AllReadyG.nil
      | zero =>
        have heK : e = K := by omega
        have HI1 : Hid (KnAt w2.heap.size w0q g g1 g2 g3 K M wr (Sp.knT K K) (Sp.knX K 0) (List.replicate (2 * K) 0)) := by rw [heK] at HI; exact HI
        clear HI
        rw [heK]
        clear heK heg
        go_wp2
        go_loopg [8] K (fun gg s8 wr => ∃ v : Nat, v + gg = K ∧ s8 = .int .i64 (v : Int) ∧ Hid (KnAt w2.heap.size w0q g g1 g2 g3 K M wr (Sp.knT K K) (Sp.knX K v) (List.replicate (2 * K) 0)))
        case atStart => exact ⟨0, by omega, rfl, HI1⟩
        case round =>
          clear HI1
          obtain ⟨v, hvg, rfl, HI⟩ := hrel
          cases gk with
          | succ g' =>
            have hvK : v < K := by omega
            have hvI : (v : Int) < (K : Int) := by omega
            obtain ⟨a, ha⟩ : ∃ a, 2 * v = a := ⟨_, rfl⟩
            obtain ⟨u, hu⟩ : ∃ u, (v + K - 1) % K = u := ⟨_, rfl⟩
            obtain ⟨b, hb⟩ : ∃ b, 2 * u + 1 = b := ⟨_, rfl⟩
            obtain ⟨u2, hu2⟩ : ∃ u2, 2 * u = u2 := ⟨_, rfl⟩
            obtain ⟨vk, hvk⟩ : ∃ vk, v + K = vk := ⟨_, rfl⟩
            obtain ⟨vk1, hvk1⟩ : ∃ vk1, vk - 1 = vk1 := ⟨_, rfl⟩
            have huK : u < K := by rw [← hu]; exact Nat.mod_lt _ (by omega)
            have haw : IntKind.i64.wrap (2 * (v : Int)) = (a : Int) := by rw [IntKind.wrap_i64]; omega
            have hvw : IntKind.i64.wrap ((v : Int) + (K : Int)) = (vk : Int) := by rw [IntKind.wrap_i64]; omega
            have hvw1 : IntKind.i64.wrap ((vk : Int) - 1) = (vk1 : Int) := by rw [IntKind.wrap_i64]; omega
            have hrm : ((vk1 : Nat) : Int).tmod (K : Int) = (u : Int) := by rw [Int.tmod_eq_emod_of_nonneg (by omega), ← hu, ← hvk1, ← hvk]; omega
            have huw : IntKind.i64.wrap (u : Int) = (u : Int) := by rw [IntKind.wrap_i64]; omega
            have hu2w : IntKind.i64.wrap (2 * (u : Int)) = (u2 : Int) := by rw [IntKind.wrap_i64]; omega
            have hbw : IntKind.i64.wrap ((u2 : Int) + 1) = (b : Int) := by rw [IntKind.wrap_i64]; omega
            have hMM := unhide HM
            have hK0 : ¬ (K : Int) = 0 := by omega
            have hK0N : ¬ K = 0 := by omega
            have hK0b : ((K : Int) == 0) = false := beq_eq_false_iff_ne.2 hK0
            have haM : a < M := by omega
            have hbM : b < M := by omega
            have haI : (a : Int) < (M : Int) := by omega
            have hbI : (b : Int) < (M : Int) := by omega
            have hXl : (Sp.knX K v).length = M := by rw [Sp.knX_len]; exact hMM
            have HKW : Hid (∀ wr', Below wr.heap.size wr wr' → KnAt w2.heap.size w0q g g1 g2 g3 K M wr' (Sp.knT K K) (Sp.knX K v) (List.replicate (2 * K) 0)) := hide fun wr' hb => (unhide HI).below hb
            have HST : Hid (((Sp.knX K v).set a (b : Int)).set b (a : Int) = Sp.knX K (v + 1)) := hide (by rw [Sp.knX, ha, hu, hb])
            clear hMM ha hb hu hu2 hvk hvk1 HI hK0
            go_upto_region 12 with fail
            refine wp_region_G (fun _ => True) (fun _ => false) (by kernel_rfl) trivial (fun hHeld => ?_)
            refine wpAnyG_take (v := ?_) 0 (by rfl) (by kernel_rfl) (by kernel_rfl) (by kernel_rfl) (by kernel_rfl) (fun _ _ _ h => h) (Or.inl ⟨by rfl, ?_⟩) (by assumption) ?_
            rotate_left
            · (intro w' hSw; (try dsimp only at hSw); (try simp only [List.getElem_toArray, List.getElem_cons_zero]); go_simp; try (with_reducible rfl))
            simp only [Act.put, List.getElem_toArray, List.getElem_cons_zero, List.setIfInBounds_toArray, List.set_cons_zero, List.set_cons_succ]
            refine wpAnyG_take (v := ?_) 1 (by rfl) (by kernel_rfl) (by kernel_rfl) (by kernel_rfl) (by kernel_rfl) (fun _ _ _ h => h) (Or.inl ⟨by rfl, ?_⟩) (by assumption) ?_
            rotate_left
            · (intro w' hSw; (try dsimp only at hSw); (try simp only [List.getElem_toArray, List.getElem_cons_succ, List.getElem_cons_zero]); go_simp; try (with_reducible rfl))
            simp only [Act.put, List.getElem_toArray, List.getElem_cons_succ, List.getElem_cons_zero, List.setIfInBounds_toArray, List.set_cons_zero, List.set_cons_succ]
            refine wpAnyG_take (v := ?_) 2 (by rfl) (by kernel_rfl) (by kernel_rfl) (by kernel_rfl) (by kernel_rfl) (fun _ _ _ h => h) (Or.inl ⟨by rfl, ?_⟩) (by assumption) ?_
            rotate_left
            · (intro w' hSw; (try dsimp only at hSw); (try simp only [List.getElem_toArray, List.getElem_cons_succ, List.getElem_cons_zero]); go_simp; try (with_reducible rfl))
            simp only [Act.put, List.getElem_toArray, List.getElem_cons_succ, List.getElem_cons_zero, List.setIfInBounds_toArray, List.set_cons_zero, List.set_cons_succ]
            refine wpAnyG_take (v := ?_) 3 (by rfl) (by kernel_rfl) (by kernel_rfl) (by kernel_rfl) (by kernel_rfl) (fun _ _ _ h => h) (Or.inl ⟨by rfl, ?_⟩) (by assumption) ?_
            rotate_left
            · (intro w' hSw; (try dsimp only at hSw); (try simp only [List.getElem_toArray, List.getElem_cons_succ, List.getElem_cons_zero]); go_simp; try (with_reducible rfl))
            simp only [Act.put, List.getElem_toArray, List.getElem_cons_succ, List.getElem_cons_zero, List.setIfInBounds_toArray, List.set_cons_zero, List.set_cons_succ]
            refine wpAnyG_take (v := ?_) 4 (by rfl) (by kernel_rfl) (by kernel_rfl) (by kernel_rfl) (by kernel_rfl) (fun _ _ _ h => h) (Or.inl ⟨by rfl, ?_⟩) (by assumption) ?_
            rotate_left
            · (intro w' hSw; (try dsimp only at hSw); (try simp only [List.getElem_toArray, List.getElem_cons_succ, List.getElem_cons_zero]); go_simp; try (with_reducible rfl))
            simp only [Act.put, List.getElem_toArray, List.getElem_cons_succ, List.getElem_cons_zero, List.setIfInBounds_toArray, List.set_cons_zero, List.set_cons_succ]
            refine wpAnyG_take (v := ?_) 5 (by rfl) (by kernel_rfl) (by kernel_rfl) (by kernel_rfl) (by kernel_rfl) (fun _ _ _ h => h) (Or.inl ⟨by rfl, ?_⟩) (by assumption) ?_
            rotate_left
            · (intro w' hSw; (try dsimp only at hSw); (try simp only [List.getElem_toArray, List.getElem_cons_succ, List.getElem_cons_zero]); go_simp; try (with_reducible rfl))
            simp only [Act.put, List.getElem_toArray, List.getElem_cons_succ, List.getElem_cons_zero, List.setIfInBounds_toArray, List.set_cons_zero, List.set_cons_succ]
            refine wpAnyG_take (v := ?_) 6 (by rfl) (by kernel_rfl) (by kernel_rfl) (by kernel_rfl) (by kernel_rfl) (fun _ _ _ h => h) (Or.inl ⟨by rfl, ?_⟩) (by assumption) ?_
            rotate_left
            · (intro w' hSw; (try dsimp only at hSw); (try simp only [List.getElem_toArray, List.getElem_cons_succ, List.getElem_cons_zero]); go_simp; try (with_reducible rfl))
            simp only [Act.put, List.getElem_toArray, List.getElem_cons_succ, List.getElem_cons_zero, List.setIfInBounds_toArray, List.set_cons_zero, List.set_cons_succ]
            refine wpAnyG_take (v := ?_) 7 (by rfl) (by kernel_rfl) (by kernel_rfl) (by kernel_rfl) (by kernel_rfl) (fun _ _ _ h => h) (Or.inl ⟨by rfl, ?_⟩) (by assumption) ?_
            rotate_left
            · (intro w' hSw; (try dsimp only at hSw); (try simp only [List.getElem_toArray, List.getElem_cons_succ, List.getElem_cons_zero]); go_simp; try (with_reducible rfl))
            simp only [Act.put, List.getElem_toArray, List.getElem_cons_succ, List.getElem_cons_zero, List.setIfInBounds_toArray, List.set_cons_zero, List.set_cons_succ]
            refine wpAnyG_take (v := ?_) 8 (by rfl) (by kernel_rfl) (by kernel_rfl) (by kernel_rfl) (by kernel_rfl) (fun _ _ _ h => h) (Or.inl ⟨by rfl, ?_⟩) (by assumption) ?_
            rotate_left
            · (intro w' hSw; (try dsimp only at hSw); (try simp only [List.getElem_toArray, List.getElem_cons_succ, List.getElem_cons_zero]); go_simp; try (with_reducible rfl))
            simp only [Act.put, List.getElem_toArray, List.getElem_cons_succ, List.getElem_cons_zero, List.setIfInBounds_toArray, List.set_cons_zero, List.set_cons_succ]
            refine wpAnyG_take (v := ?_) 9 (by rfl) (by kernel_rfl) (by kernel_rfl) (by kernel_rfl) (by kernel_rfl) (fun _ _ _ h => h) (Or.inl ⟨by rfl, ?_⟩) (by assumption) ?_
            rotate_left
            · (intro w' hSw; (try dsimp only at hSw); (try simp only [List.getElem_toArray, List.getElem_cons_succ, List.getElem_cons_zero]); go_simp; try (with_reducible rfl))
            simp only [Act.put, List.getElem_toArray, List.getElem_cons_succ, List.getElem_cons_zero, List.setIfInBounds_toArray, List.set_cons_zero, List.set_cons_succ]
            refine wpAnyG_take (v := ?_) 10 (by rfl) (by kernel_rfl) (by kernel_rfl) (by kernel_rfl) (by kernel_rfl) (fun _ _ _ h => h) (Or.inl ⟨by rfl, ?_⟩) (by assumption) ?_
            rotate_left
            · (intro w' hSw; (try dsimp only at hSw); (try simp only [List.getElem_toArray, List.getElem_cons_succ, List.getElem_cons_zero]); go_simp; try (with_reducible rfl))
            simp only [Act.put, List.getElem_toArray, List.getElem_cons_succ, List.getElem_cons_zero, List.setIfInBounds_toArray, List.set_cons_zero, List.set_cons_succ]
            refine wpAnyG_take (v := ?_) 11 (by rfl) (by kernel_rfl) (by kernel_rfl) (by kernel_rfl) (by kernel_rfl) (fun _ _ _ h => h) (Or.inl ⟨by rfl, ?_⟩) (by assumption) ?_
            rotate_left
            · (intro w' hSw; (try dsimp only at hSw); (try simp only [List.getElem_toArray, List.getElem_cons_succ, List.getElem_cons_zero]); go_simp; try (with_reducible rfl))
            simp only [Act.put, List.getElem_toArray, List.getElem_cons_succ, List.getElem_cons_zero, List.setIfInBounds_toArray, List.set_cons_zero, List.set_cons_succ]
            refine wpAnyG_done (by kernel_rfl) ?_ _
            refine NoPanic.normal ?_
            go_upto_region 13 with fail
            have hkw := unhide HKW wr.drew.drew (Below.refl _ _).drew.drew
            obtain ⟨x0, x1, x2, x3, -⟩ := obj_cells hkw.ob
            have c1 := own_getD hkw.o2 a (by omega)
            have f1 := own_frozen hkw.o2 a
            have hk1 := fun v => hkw.setX a v
            have hk2 := fun v v' => (hkw.setX a v).setX b v'
            have cc2 : ∀ v : Value, ∃ z, (wr.drew.drew.setCell ⟨g2, a, none⟩ v).cell? ⟨g2, b, none⟩ = some z := fun v => cell?_setCell_some (own_getD hkw.o2 b (by omega))
            have ff2 : ∀ v : Value, (wr.drew.drew.setCell ⟨g2, a, none⟩ v).frozen? ⟨g2, b, none⟩ = false := fun v => by have := own_frozen hkw.o2 b; simpa using this
            have HKn : Hid (KnAt w2.heap.size w0q g g1 g2 g3 K M ((wr.drew.drew.setCell ⟨g2, a, none⟩ (.int .i64 (b : Int))).setCell ⟨g2, b, none⟩ (.int .i64 (a : Int))) (Sp.knT K K) (Sp.knX K (v + 1)) (List.replicate (2 * K) 0)) := hide (by
              have h := hk2 (b : Int) (a : Int)
              rw [unhide HST] at h
              exact h)
            clear hkw
            refine wp_region_G (fun w' => w'.cell? ⟨g, 0, none⟩ = some (.int .i64 (K : Int)) ∧ w'.cell? ⟨g, 1, none⟩ = some (.slice (some ⟨g1, 0, none⟩) M M) ∧ w'.cell? ⟨g, 2, none⟩ = some (.slice (some ⟨g2, 0, none⟩) M M) ∧ w'.cell? ⟨g, 3, none⟩ = some (.slice (some ⟨g3, 0, none⟩) M M)) (fun _ => false) (by kernel_rfl) ⟨x0, x1, x2, x3⟩ (fun hHeld => ?_)
            generalize wr.drew.drew = wD at *
            refine wpAnyG_take (v := ?_) 0 (by rfl) (by kernel_rfl) (by kernel_rfl) (by kernel_rfl) (by kernel_rfl) (fun _ _ _ h => h) (Or.inl ⟨by rfl, ?_⟩) (by assumption) ?_
            rotate_left
            · (intro w' hSw; (try dsimp only at hSw); (try simp only [List.getElem_toArray, List.getElem_cons_zero]); go_simp; try (with_reducible rfl))
            simp only [Act.put, List.getElem_toArray, List.getElem_cons_zero, List.setIfInBounds_toArray, List.set_cons_zero, List.set_cons_succ]
            refine wpAnyG_take (v := ?_) 1 (by rfl) (by kernel_rfl) (by kernel_rfl) (by kernel_rfl) (by kernel_rfl) (fun _ _ _ h => h) (Or.inl ⟨by rfl, ?_⟩) (by assumption) ?_
            rotate_left
            · (intro w' hSw; (try dsimp only at hSw); (try simp only [List.getElem_toArray, List.getElem_cons_succ, List.getElem_cons_zero]); go_simp; try (with_reducible rfl))
            simp only [Act.put, List.getElem_toArray, List.getElem_cons_succ, List.getElem_cons_zero, List.setIfInBounds_toArray, List.set_cons_zero, List.set_cons_succ]
            refine wpAnyG_take (v := ?_) 2 (by rfl) (by kernel_rfl) (by kernel_rfl) (by kernel_rfl) (by kernel_rfl) (fun _ _ _ h => h) (Or.inl ⟨by rfl, ?_⟩) (by assumption) ?_
            rotate_left
            · (intro w' hSw; (try dsimp only at hSw); (try simp only [List.getElem_toArray, List.getElem_cons_succ, List.getElem_cons_zero]); go_simp; try (with_reducible rfl))
            simp only [Act.put, List.getElem_toArray, List.getElem_cons_succ, List.getElem_cons_zero, List.setIfInBounds_toArray, List.set_cons_zero, List.set_cons_succ]
            refine wpAnyG_take (v := ?_) 3 (by rfl) (by kernel_rfl) (by kernel_rfl) (by kernel_rfl) (by kernel_rfl) (fun _ _ _ h => h) (Or.inl ⟨by rfl, ?_⟩) (by assumption) ?_
            rotate_left
            · (intro w' hSw; (try dsimp only at hSw); (try simp only [List.getElem_toArray, List.getElem_cons_succ, List.getElem_cons_zero]); go_simp; try (with_reducible rfl))
            simp only [Act.put, List.getElem_toArray, List.getElem_cons_succ, List.getElem_cons_zero, List.setIfInBounds_toArray, List.set_cons_zero, List.set_cons_succ]
            refine wpAnyG_take (v := ?_) 4 (by rfl) (by kernel_rfl) (by kernel_rfl) (by kernel_rfl) (by kernel_rfl) (fun _ _ _ h => h) (Or.inl ⟨by rfl, ?_⟩) (by assumption) ?_
            rotate_left
            · (intro w' hSw; (try dsimp only at hSw); (try simp only [List.getElem_toArray, List.getElem_cons_succ, List.getElem_cons_zero]); go_simp; try (with_reducible rfl))
            simp only [Act.put, List.getElem_toArray, List.getElem_cons_succ, List.getElem_cons_zero, List.setIfInBounds_toArray, List.set_cons_zero, List.set_cons_succ]
            refine wpAnyG_take (v := ?_) 5 (by rfl) (by kernel_rfl) (by kernel_rfl) (by kernel_rfl) (by kernel_rfl) (fun _ _ _ h => h) (Or.inl ⟨by rfl, ?_⟩) (by assumption) ?_
            rotate_left
            · (intro w' hSw; (try dsimp only at hSw); (try simp only [List.getElem_toArray, List.getElem_cons_succ, List.getElem_cons_zero]); go_simp; try (with_reducible rfl))
            simp only [Act.put, List.getElem_toArray, List.getElem_cons_succ, List.getElem_cons_zero, List.setIfInBounds_toArray, List.set_cons_zero, List.set_cons_succ]
            refine wpAnyG_take (v := ?_) 6 (by rfl) (by kernel_rfl) (by kernel_rfl) (by kernel_rfl) (by kernel_rfl) (fun _ _ _ h => h) (Or.inl ⟨by rfl, ?_⟩) (by assumption) ?_
            rotate_left
            · (intro w' hSw; (try dsimp only at hSw); (try simp only [List.getElem_toArray, List.getElem_cons_succ, List.getElem_cons_zero]); go_simp; try (with_reducible rfl))
            simp only [Act.put, List.getElem_toArray, List.getElem_cons_succ, List.getElem_cons_zero, List.setIfInBounds_toArray, List.set_cons_zero, List.set_cons_succ]
            refine wpAnyG_take (v := ?_) 7 (by rfl) (by kernel_rfl) (by kernel_rfl) (by kernel_rfl) (by kernel_rfl) (fun _ _ _ h => h) (Or.inl ⟨by rfl, ?_⟩) (by assumption) ?_
            rotate_left
            · (intro w' hSw; (try dsimp only at hSw); (try simp only [List.getElem_toArray, List.getElem_cons_succ, List.getElem_cons_zero]); go_simp; try (with_reducible rfl))
            simp only [Act.put, List.getElem_toArray, List.getElem_cons_succ, List.getElem_cons_zero, List.setIfInBounds_toArray, List.set_cons_zero, List.set_cons_succ]
            refine wpAnyG_take (v := ?_) 8 (by rfl) (by kernel_rfl) (by kernel_rfl) (by kernel_rfl) (by kernel_rfl) (fun _ _ _ h => h) (Or.inl ⟨by rfl, ?_⟩) (by assumption) ?_
            rotate_left
            · (intro w' hSw; (try dsimp only at hSw); (try simp only [List.getElem_toArray, List.getElem_cons_succ, List.getElem_cons_zero]); go_simp; try (with_reducible rfl))
            simp only [Act.put, List.getElem_toArray, List.getElem_cons_succ, List.getElem_cons_zero, List.setIfInBounds_toArray, List.set_cons_zero, List.set_cons_succ]
            refine wpAnyG_ready [9] (by kernel_rfl) (by simp) ?_
            refine AllReadyG.cons 9 (by rfl) (fun K hK => ?_) ?_
            · simp only [List.getElem_toArray, List.getElem_cons_succ, List.getElem_cons_zero]
              go_simp
              refine hK.out _ _ (by obtain ⟨q0, q1, q2, q3, -⟩ := obj_cells (hk1 _).ob; exact ⟨q0, q1, q2, q3⟩) (fun _ => ?_)
              clear hK K
              try simp only [Act.put, List.setIfInBounds_toArray, List.set_cons_zero, List.set_cons_succ]
              have f2 : (wD.setCell ⟨g2, a, none⟩ (.int .i64 (b : Int))).frozen? ⟨g2, b, none⟩ = false := ff2 _
              obtain ⟨zz, c2⟩ := cc2 (.int .i64 (b : Int))
              refine wpAnyG_take (v := ?_) 10 (by rfl) (by kernel_rfl) (by kernel_rfl) (by kernel_rfl) (by kernel_rfl) (fun _ _ _ h => h) (Or.inl ⟨by rfl, ?_⟩) (by assumption) ?_
              rotate_left
              · (intro w' hSw; (try dsimp only at hSw); (try simp only [List.getElem_toArray, List.getElem_cons_succ, List.getElem_cons_zero]); go_simp; try (with_reducible rfl))
              simp only [Act.put, List.getElem_toArray, List.getElem_cons_succ, List.getElem_cons_zero, List.setIfInBounds_toArray, List.set_cons_zero, List.set_cons_succ]
              refine wpAnyG_ready [11] (by kernel_rfl) (by simp) ?_
              refine AllReadyG.cons 11 (by rfl) (fun K hK => ?_) ?_
              · simp only [List.getElem_toArray, List.getElem_cons_succ, List.getElem_cons_zero]
                go_simp
                refine hK.out _ _ (by obtain ⟨q0, q1, q2, q3, -⟩ := obj_cells (hk2 _ _).ob; exact ⟨q0, q1, q2, q3⟩) (fun _ => ?_)
                clear hK K
                try simp only [Act.put, List.setIfInBounds_toArray, List.set_cons_zero, List.set_cons_succ]
                refine wpAnyG_done (by kernel_rfl) ?_ _
                refine NoPanic.normal ?_
                go_wp2
                go_roundg g'
                case rel => exact ⟨v + 1, by omega, by go_num, HKn⟩
                case measure => omega
              exact AllReadyG.nil
            exact AllReadyG.nil
          | zero =>
            have hvK : v = K := by omega
            have HI1 : Hid (KnAt w2.heap.size w0q g g1 g2 g3 K M wr (Sp.knT K K) (Sp.knX K K) (List.replicate (2 * K) 0)) := by rw [hvK] at HI; exact HI
            clear HI
            rw [hvK]
            clear hvK hvg
            obtain ⟨w10, hw10⟩ : ∃ w10, w10 = wr := ⟨_, rfl⟩
            rw [← hw10] at HI1 ⊢
            clear hw10
            have HNet : Hid (∀ w', Below w10.heap.size w10 w' → (w'.cell? ⟨g, 0, none⟩ = some (.int .i64 (K : Int)) ∧ w'.cell? ⟨g, 1, none⟩ = some (.slice (some ⟨g1, 0, none⟩) M M) ∧ w'.cell? ⟨g, 2, none⟩ = some (.slice (some ⟨g2, 0, none⟩) M M) ∧ w'.cell? ⟨g, 3, none⟩ = some (.slice (some ⟨g3, 0, none⟩) M M)) ∧ NetI w' (.agg #[.int .i64 (K : Int), .slice (some ⟨g1, 0, none⟩) M M, .slice (some ⟨g2, 0, none⟩) M M, .slice (some ⟨g3, 0, none⟩) M M]) (Sp.kn K) (.slice (some ⟨g1, 0, none⟩) M M) (.slice (some ⟨g2, 0, none⟩) M M) (.slice (some ⟨g3, 0, none⟩) M M) ∧ Below w.heap.size w w') := hide fun w' hb => by
              have h := (unhide HI1).below hb
              obtain ⟨q0, q1, q2, q3, -⟩ := obj_cells h.ob
              exact ⟨⟨q0, q1, q2, q3⟩, ⟨rfl, OwnI.ints h.o1, OwnI.ints h.o2, OwnI.ints h.o3⟩, unhide HB0 _ h.bel⟩
            have HTR : Hid (∀ w2 w5, Below w10.heap.size w10 w2 → Below w2.heap.size w2 w5 → Below w10.heap.size w10 w5) := hide fun w2 w5 h2 h5 => h2.trans (h5.mono h2.size)
            have hb10 : Below w10.heap.size w10 w10 := Below.refl _ _
            have hTb : ∀ x ∈ (Sp.kn K).tail, 0 ≤ x ∧ x < (K : Int) := fun x hx => by
              have h := List.all_eq_true.1 (unhide HN).2.1 x hx
              exact of_decide_eq_true h
            have hTl : (Sp.kn K).tail.length = 2 * K := (unhide HN).2.2.1
            have hqn : (Sp.kn K).n = (K : Int) := rfl
            have HUl : Hid ((Sp.span (Sp.kn K) (r : Int)).length = K) := hide (Sp.right_parts hqn (unhide HR)).1
            have HSp := hide (fun w' hb => span_any (Sp.kn K) r K _ _ _ _ w' (unhide HNet w' hb).2.1 (by omega) (by omega) hqn (by omega) (by rw [hTl, hqn]; omega) hrK hTb)
            have HLp := hide (fun w' uv hb hu => left_any (Sp.kn K) _ r K _ _ _ _ uv w' (unhide HNet w' hb).2.1 hu (by omega) (by omega) hqn (by omega) (by rw [hTl, hqn]; omega) hTb (unhide HR))
            have HCk := hide (fun w' hb => check2_any (Sp.kn K) _ _ _ _ w' (unhide HNet w' hb).2.1 (by rw [hqn]; omega) (by rw [hqn]; omega))
            rw [(unhide HN).1] at HCk
            have HRt := hide (fun w' uv hb hu => right_any (Sp.kn K) (Sp.span (Sp.kn K) (r : Int)) (r : Int) K _ _ _ _ uv w' (unhide HNet w' hb).2.1 hu (by omega) (by omega) hqn (by omega) (by rw [hTl, hqn]; omega) hTb)
            rw [unhide HR] at HRt
            have HWp : Hid (∀ v, v < K → ∃ R : List Int, Sp.knF K r (v + 1) = max (Sp.knF K r v) R.length ∧ R.length ≤ 20 ∧ ∀ w' uv, Below w10.heap.size w10 w' → Ints w' uv (Sp.span (Sp.kn K) (r : Int)) → Calls Try.prog 14 #[.agg #[.int .i64 (K : Int), .slice (some ⟨g1, 0, none⟩) M M, .slice (some ⟨g2, 0, none⟩) M M, .slice (some ⟨g3, 0, none⟩) M M], uv, .int .i64 (v : Int)] w' fun e w'' => ∃ la lc, e = .returned (.slice la R.length lc) ∧ Below w'.heap.size w' w'') := hide fun v hv => by
              obtain ⟨R, hR⟩ := Option.isSome_iff_exists.1 (unhide HWy v hv)
              refine ⟨R, by rw [Sp.knF, hR]; rfl, by have := Sp.way_le hR; omega, fun w' uv hb hu => ?_⟩
              refine (way_any (Sp.kn K) _ r K v (K + 1) R _ _ _ _ uv w' (unhide HNet w' hb).2.1 hu (by omega) (by omega) hqn (by omega) (by rw [hTl, hqn]; omega) hTb (unhide HR) hv (by omega) hR).mono fun e w'' ⟨lv, a1, a2, a3⟩ => ?_
              obtain ⟨la, lc, hlv, -, -⟩ := (OwnI.ints a2).form
              exact ⟨la, lc, by rw [a1, hlv], a3⟩
            clear HI1 hTb hTl hqn HB0 HWy HN
            obtain ⟨x0, x1, x2, x3⟩ := (unhide HNet _ hb10).1
            go_wp2_with fail
            go_at_call 8
            refine (unhide HWa _).mono ?_
            rintro e w11 ⟨rfl, h11⟩
            have h11' := h11.symm
            subst h11'
            clear h11
            go_wp2_with fail
            go_at_call 9
            refine (unhide HSp _ hb10).mono ?_
            rintro e w12 ⟨uv, rfl, ho12, hl12⟩
            have hU := OwnI.ints ho12
            have hb12 := unhide HTR _ _ hb10 hl12
            obtain ⟨ua, uc, huv, -, -⟩ := hU.form
            rw [unhide HUl] at huv
            subst huv
            clear x0 x1 x2 x3 ho12 hl12 hb10 HSp HWa
            obtain ⟨x0, x1, x2, x3⟩ := (unhide HNet _ hb12).1
            go_wp2_with fail
            go_at_call 12
            refine (unhide HLp _ _ hb12 hU).mono ?_
            rintro e w13 ⟨lv, rfl, ho13, hl13⟩
            obtain ⟨la, lc, hlv, -, -⟩ := (OwnI.ints ho13).form
            rw [unhide HL1] at hlv
            subst hlv
            have hb13 := unhide HTR _ _ hb12 hl13
            replace hU := hU.below hl13
            clear x0 x1 x2 x3 ho13 hl13 hb12 HLp
            obtain ⟨x0, x1, x2, x3⟩ := (unhide HNet _ hb13).1
            go_wp2_with fail
            go_at_call 13
            refine (unhide HCk _ hb13).mono ?_
            rintro e w14 ⟨rfl, hl14⟩
            have hb14 := unhide HTR _ _ hb13 hl14
            replace hU := hU.below hl14
            have hKK : ((K : Int) != (K : Int)) = false := by simp
            have HI0 : Hid (Below w10.heap.size w10 w14 ∧ Ints w14 (.slice ua K uc) (Sp.span (Sp.kn K) (r : Int))) := hide ⟨hb14, hU⟩
            clear x0 x1 x2 x3 hl14 hb13 hb14 hU HCk
            go_wp2
            go_loopg [14, 15] K (fun gg s14 s15 wr => ∃ v : Nat, v + gg = K ∧ s15 = .int .i64 (v : Int) ∧ s14 = .int .i64 ((Sp.knF K r v : Nat) : Int) ∧ Hid (Below w10.heap.size w10 wr ∧ Ints wr (.slice ua K uc) (Sp.span (Sp.kn K) (r : Int))))
            case atStart => exact ⟨0, by omega, rfl, rfl, HI0⟩
            case round =>
              clear HI0
              obtain ⟨v, hvg, rfl, rfl, HI⟩ := hrel
              obtain ⟨x0, x1, x2, x3⟩ := (unhide HNet _ (unhide HI).1).1
              cases gk with
              | succ g' =>
                have hvK : v < K := by omega
                have hvI : (v : Int) < (K : Int) := by omega
                obtain ⟨R, hf, hR20, hway⟩ := unhide HWp v hvK
                have HW1 := hide (hway wr _ (unhide HI).1 (unhide HI).2)
                have HFn := hide hf
                obtain ⟨f0, hf0⟩ : ∃ f0, Sp.knF K r v = f0 := ⟨_, rfl⟩
                rw [hf0] at HFn ⊢
                clear hway hf hf0
                go_wp2_with fail
                go_at_call 14
                refine (unhide HW1).mono ?_
                rintro e w15 ⟨wa, wc5, rfl, hl15⟩
                have HI2 := hide (And.intro (unhide HTR _ _ (unhide HI).1 hl15) ((unhide HI).2.below hl15))
                clear HI HW1 hl15 x0 x1 x2 x3
                go_wp2
                all_goals
                  go_roundg g'
                  case rel =>
                    refine ⟨v + 1, by omega, by go_num, ?_, HI2⟩
                    rw [unhide HFn]
                    first
                      | (rw [show max f0 R.length = R.length by omega])
                      | (rw [show max f0 R.length = f0 by omega])
                  case measure => omega
              | zero =>
                have hvK : v = K := by omega
                rw [hvK, unhide HFa]
                have hvI : ¬ (K : Int) < (K : Int) := by omega
                obtain ⟨h2, hh2⟩ : ∃ h2, K / 2 = h2 := ⟨_, rfl⟩
                have hdv : (K : Int).tdiv 2 = (h2 : Int) := by
                  rw [Int.tdiv_eq_ediv_of_nonneg (by omega)]; omega
                have hdw : IntKind.i64.wrap (h2 : Int) = (h2 : Int) := by rw [IntKind.wrap_i64]; omega
                have hhh : ((h2 : Int) == (h2 : Int)) = true := beq_self_eq_true _
                rw [hh2]
                have HRt1 := hide (unhide HRt wr _ (unhide HI).1 (unhide HI).2)
                have HI2 := HI
                clear hh2 hvK hvg HI
                go_wp2_with fail
                go_at_call 15
                refine (unhide HRt1).mono ?_
                rintro e w16 ⟨rfl, hl16⟩
                have HF := hide (unhide HNet _ (unhide HTR _ _ (unhide HI2).1 hl16)).2.2
                clear hl16 x0 x1 x2 x3 HI2 HRt1
                go_wp2
                rw [unhide HP]
                exact ⟨rfl, unhide HF⟩
end Go.Proofs.Ytenffkplneimlab


