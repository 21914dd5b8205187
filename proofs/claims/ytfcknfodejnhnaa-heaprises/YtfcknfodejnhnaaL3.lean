/- What the proof needs, part 3. -/
import Derived.Deep.RegionHeld3
import Derived.Test.YtfcknfodejnhnaaL2
/- The reference's heap: append of items; Put. -/
namespace Go.Proofs.Ytfcknfodejnhnaa
open Go Go.RowKit

/-- A row of items, wherever it lies. -/
def Its (w : World) (v : Value) (l : List (Int × Int)) : Prop := ∃ a c, v = .slice a l.length c ∧ ∀ j u, (Sp.cells2 l)[j]? = some u → ∃ b o, a = some ⟨b, o, none⟩ ∧ w.cell? ⟨b, o + j, none⟩ = some u
theorem Its.below {w w' : World} {v : Value} {l : List (Int × Int)} (h : Its w v l) (hb : Below w.heap.size w w') : Its w' v l := by
  obtain ⟨a, c, e, h1⟩ := h
  refine ⟨a, c, e, fun j u hj => ?_⟩
  obtain ⟨b, o, e1, e2⟩ := h1 j u hj
  exact ⟨b, o, e1, (hb.cell (cell_lt e2)).trans e2⟩
end Go.Proofs.Ytfcknfodejnhnaa


/- A region that draws its order: a load may be taken first although a later operation, which waits for it, writes its cell. -/
namespace Go.Proofs.Ytfcknfodejnhnaa
open Go

section
variable {P : Program} {ops : Array Oper} {Q : Exit → Act → World → Prop} {md : Region.Mode} {S : World → Prop} {late : Nat → Bool}

/-- None of the late ones has come up. -/
def noLate (late : Nat → Bool) (listed : Array Bool) : Bool := (List.range listed.size).all fun j => !(late j && listed.getD j false)
theorem noLate_set {late : Nat → Bool} {listed : Array Bool} {i : Nat} (h : late i = false) : noLate late (listed.setIfInBounds i true) = noLate late listed := by
  unfold noLate
  rw [Array.size_setIfInBounds, Bool.eq_iff_iff, List.all_eq_true, List.all_eq_true]
  have key : ∀ j, (!(late j && (listed.setIfInBounds i true).getD j false)) = (!(late j && listed.getD j false)) := fun j => by
    by_cases hj : i = j
    · subst hj; rw [h]; simp
    · rw [getD_set_ne false hj]
  constructor
  · intro H j hj; rw [← key]; exact H j hj
  · intro H j hj; rw [key]; exact H j hj
/-- Whatever order is picked from here on; S holds behind every operation as long as no late one has come up. -/
def wpAnyG (P : Program) (md : Region.Mode) (ops : Array Oper) (Q : Exit → Act → World → Prop) (S : World → Prop) (late : Nat → Bool) : Nat → Array Bool → Act → World → Prop
  | 0, listed, a, w => Region.ready md ops listed = [] ∧ Q .normal a w
  | fuel + 1, listed, a, w =>
    (Region.ready md ops listed = [] → Q .normal a w) ∧
    ∀ i ∈ Region.ready md ops listed, wpOp P ops Q i (fun a' w' => (noLate late (listed.setIfInBounds i true) = true → S w') ∧ wpAnyG P md ops Q S late fuel (listed.setIfInBounds i true) a' w') a w
theorem wpAny_of_G : ∀ (fuel : Nat) (listed : Array Bool) (a : Act) (w : World), wpAnyG P md ops Q S late fuel listed a w → wpAny P md ops Q fuel listed a w
  | 0, _, _, _, h => h
  | fuel + 1, _, _, _, h => ⟨h.1, fun i hi => wpOp_mono (fun a' w' h' => wpAny_of_G fuel _ a' w' h'.2) (h.2 i hi)⟩
theorem wpAnyG_first {i : Nat} {oi : Oper} {v : Value} (hi : ops[i]? = some oi) (hsel : ∀ (j : Nat) (o : Oper) cs b, ops[j]? = some o → o.op ≠ .select cs b)
    (hil : late i = false) (hl : ∀ j oj, ops[j]? = some oj → late j = true → ∃ e ∈ oj.after, Region.binds md e = true ∧ e.on = i)
    (hQ : ∀ c a w, Q (.panic c) (a.put oi.dst v) w → Q (.panic c) a w) :
    ∀ (fuel : Nat) (listed : Array Bool) (a : Act) (w : World),
      (∀ j oj, ops[j]? = some oj → j ≠ i → listed.getD j true = false → (∀ e ∈ oj.after, Region.binds md e = true → e.on ≠ i) → oi.apart ops oj = true) →
      i ∈ Region.ready md ops listed → noLate late listed = true → YieldsIf P ops S oi v a → S w →
      wpAnyG P md ops Q S late fuel (listed.setIfInBounds i true) (a.put oi.dst v) w → wpAnyG P md ops Q S late (fuel + 1) listed a w := by
  intro fuel
  induction fuel with
  | zero =>
    intro listed a w _ hr _ hy hS H
    refine ⟨fun h => (by rw [h] at hr; cases hr), fun j hj => ?_⟩
    by_cases hji : j = i
    · subst hji; exact hy.wpOp hi hS ⟨fun _ => hS, H⟩
    · have := ready_mono hj hji
      rw [H.1] at this
      cases this
  | succ fuel ih =>
    intro listed a w hfree hr hnl hy hS H
    refine ⟨fun h => (by rw [h] at hr; cases hr), fun j hj => ?_⟩
    by_cases hji : j = i
    · subst hji; exact hy.wpOp hi hS ⟨fun _ => hS, H⟩
    · have h1 := H.2 j (ready_mono hj hji)
      obtain ⟨hjun, oj, hoj, hall⟩ := mem_ready.1 hj
      have hnot : ∀ e ∈ oj.after, Region.binds md e = true → e.on ≠ i := fun e he hb heq => by
        have h1 := hall e he hb
        have h0 := (mem_ready.1 hr).1
        rw [heq] at h1
        rcases Nat.lt_or_ge i listed.size with h' | h'
        · simp [h'] at h0 h1; rw [h0] at h1; cases h1
        · simp [Array.getElem?_eq_none h'] at h1
      have hlate : late j = false := by
        cases hl' : late j with
        | false => rfl
        | true =>
          obtain ⟨e, he, hb, heq⟩ := hl j oj hoj hl'
          exact absurd heq (hnot e he hb)
      have hn1 : noLate late (listed.setIfInBounds j true) = true := by rw [noLate_set hlate]; exact hnl
      have hn2 : noLate late ((listed.setIfInBounds i true).setIfInBounds j true) = true := by rw [noLate_set hlate, noLate_set hil]; exact hnl
      have h2 := wpOp_putIf hoj (hfree j oj hoj hji hjun hnot) (fun cs b => hsel i oi cs b hi) (fun cs b => hsel j oj cs b hoj) hQ hy h1
      have hfree' : ∀ k ok, ops[k]? = some ok → k ≠ i → (listed.setIfInBounds j true).getD k true = false →
          (∀ e ∈ ok.after, Region.binds md e = true → e.on ≠ i) → oi.apart ops ok = true := fun k ok hk hki hun hno => by
        refine hfree k ok hk hki ?_ hno
        by_cases hjk : j = k
        · subst hjk; exact hjun
        · rw [getD_set_ne true hjk] at hun; exact hun
      refine wpOp_mono (fun a' w' h3 => ⟨fun _ => h3.2.1 hn2, ih (listed.setIfInBounds j true) a' w' hfree' (ready_mono hr (Ne.symm hji)) hn1 h3.1 (h3.2.1 hn2) ?_⟩) h2
      rw [Array.setIfInBounds_comm _ _ hji]
      exact h3.2.2
/-- Each late operation waits for number i. -/
def lateB (md : Region.Mode) (ops : Array Oper) (late : Nat → Bool) (i : Nat) : Bool := (List.range ops.size).all fun j => !late j || (match ops[j]? with | some o => o.after.any fun e => Region.binds md e && e.on == i | none => false)
theorem lateB_spec {i : Nat} (h : lateB md ops late i = true) : ∀ j oj, ops[j]? = some oj → late j = true → ∃ e ∈ oj.after, Region.binds md e = true ∧ e.on = i := by
  intro j oj hj hl
  unfold lateB at h
  rw [List.all_eq_true] at h
  have hlt : j < ops.size := by
    rcases Nat.lt_or_ge j ops.size with h' | h'
    · exact h'
    · rw [Array.getElem?_eq_none h'] at hj; cases hj
  have := h j (List.mem_range.2 hlt)
  rw [hl, hj] at this
  simp only [Bool.not_true, Bool.false_or, Array.any_eq_true, Bool.and_eq_true, beq_iff_eq] at this
  obtain ⟨k, hk, h1, h2⟩ := this
  exact ⟨_, Array.getElem_mem hk, h1, h2⟩
/-- Take number i first: a load. -/
theorem wpAnyG_take (i : Nat) {oi : Oper} {v : Value} {fuel : Nat} {listed : Array Bool} {a : Act} {w : World} (hi : ops[i]? = some oi)
    (hs : Region.noSelect ops = true) (hf : Region.free md ops listed i = true) (hr : (Region.ready md ops listed).contains i = true) (hl : (!late i && (lateB md ops late i && noLate late listed)) = true)
    (hQ : ∀ c a w, Q (.panic c) (a.put oi.dst v) w → Q (.panic c) a w) (hy : YieldsIf P ops S oi v a) (hS : S w)
    (h : wpAnyG P md ops Q S late fuel (listed.setIfInBounds i true) (a.put oi.dst v) w) : wpAnyG P md ops Q S late (fuel + 1) listed a w := by
  simp only [Bool.and_eq_true, Bool.not_eq_true'] at hl
  exact wpAnyG_first hi (Region.noSelect_spec hs) hl.1 (lateB_spec hl.2.1) hQ fuel listed a w (Region.free_spec hi hf) (by simpa using hr) hl.2.2 hy hS h
theorem wpAnyG_done {listed : Array Bool} {a : Act} {w : World} (hr : Region.ready md ops listed = []) (h : Q .normal a w) :
    ∀ fuel, wpAnyG P md ops Q S late fuel listed a w
  | 0 => ⟨hr, h⟩
  | _ + 1 => ⟨fun _ => h, by rw [hr]; simp⟩
def AllReadyG (P : Program) (md : Region.Mode) (ops : Array Oper) (Q : Exit → Act → World → Prop) (S : World → Prop) (late : Nat → Bool) (fuel : Nat) (listed : Array Bool) (a : Act) (w : World) (rs : List Nat) : Prop :=
  ∀ i ∈ rs, wpOp P ops Q i (fun a' w' => (noLate late (listed.setIfInBounds i true) = true → S w') ∧ wpAnyG P md ops Q S late fuel (listed.setIfInBounds i true) a' w') a w
/-- A late one, or one behind it. -/
theorem AllReadyG.last {fuel : Nat} {listed : Array Bool} {a : Act} {w : World} (i : Nat) {o : Oper} {rs : List Nat} (ho : ops[i]? = some o) (hl : noLate late (listed.setIfInBounds i true) = false)
    (h : ∀ K' : Act → World → Prop, Shut (∀ a w, wpAnyG P md ops Q S late fuel (listed.setIfInBounds i true) a w → K' a w) → if Region.wanted o (yielded ops a.tmps) = true then Oper.wp P o a w K' Q else K' (a.put o.dst undef) w)
    (hs : AllReadyG P md ops Q S late fuel listed a w rs) : AllReadyG P md ops Q S late fuel listed a w (i :: rs) := fun j hj => by
  rcases List.mem_cons.1 hj with rfl | hj
  · exact wpOp_step ho (fun K' hK => h K' (fun a w hW => hK a w ⟨fun h0 => (by rw [hl] at h0; cases h0), hW⟩))
  · exact hs j hj
theorem wp_region_G {id : Nat} {a : Act} {w : World} (S : World → Prop) (late : Nat → Bool) (hm : P.follows .mixedOrders = true) (hS : S w.drew)
    (h : S w.drew → wpAnyG P .any ops (NoPanic Q) S late ops.size (Array.replicate ops.size false) a w.drew) : (Code.region id ops true).wp P Q a w :=
  wp_region_noPanic (wp_region_any hm (wpAny_of_G _ _ _ _ (h hS)))
end
end Go.Proofs.Ytfcknfodejnhnaa


/- The reference's heap: Least, Take. -/
namespace Go.Proofs.Ytfcknfodejnhnaa
open Go Go.RowKit

/-- The least of the first i items. -/
def Sp.LM (l : List (Int × Int)) (i : Nat) (k r : Int) : Prop := (i = 0 ∧ k = 0 ∧ r = 0) ∨ (0 < i ∧ (∃ j, j < i ∧ l.getD j (0, 0) = (k, r)) ∧ ∀ j, j < i → Sp.aheadB (l.getD j (0, 0)).1 (l.getD j (0, 0)).2 k r = false)
theorem Sp.LM.take {l : List (Int × Int)} {i : Nat} {k r : Int} (h : Sp.LM l i k r) (hc : i = 0 ∨ Sp.aheadB (l.getD i (0, 0)).1 (l.getD i (0, 0)).2 k r = true) : Sp.LM l (i + 1) (l.getD i (0, 0)).1 (l.getD i (0, 0)).2 := by
  refine .inr ⟨by omega, ⟨i, by omega, rfl⟩, fun j hj => ?_⟩
  by_cases hji : j = i
  · subst hji; rw [Sp.ahead_no]; omega
  · rcases h with ⟨h0, -⟩ | ⟨h0, -, h2⟩
    · omega
    · have h3 := h2 j (by omega)
      rcases hc with hc | hc
      · omega
      · rw [Sp.ahead_yes] at hc
        rw [Sp.ahead_no] at h3 ⊢
        omega
theorem Sp.LM.least {l : List (Int × Int)} {M : Nat → Option Int} {k r : Int} (hM : Sp.RL l M) (h : Sp.LM l l.length k r) : Sp.LeastIs M k r (decide (0 < l.length)) := by
  rcases h with ⟨h0, h1, h2⟩ | ⟨h0, ⟨j, hj, e⟩, h2⟩
  · have hl : l = [] := List.eq_nil_of_length_eq_zero h0
    refine .inl ⟨decide_eq_false (by omega), h1, h2, fun i => ?_⟩
    cases hm : M i with
    | none => rfl
    | some s => have := hM.all i s hm; rw [hl] at this; cases this
  · have hmem := Sp.getD_mem2 hj
    rw [e] at hmem
    have hr := hM.rng hmem
    have hlk := hM.mem _ hmem
    obtain ⟨n, hn⟩ : ∃ n : Nat, k = (n : Int) := ⟨k.toNat, by omega⟩
    refine .inr ⟨decide_eq_true h0, n, hn, by omega, ?_, fun j' r' hm => ?_⟩
    · rw [show ((k, r) : Int × Int).1 = (n : Int) from hn, Sp.look_nat] at hlk
      exact hlk
    · obtain ⟨i, hi, e'⟩ := List.mem_iff_getElem.1 (hM.all j' r' hm)
      have := h2 i hi
      rw [List.getD_eq_getElem?_getD, List.getElem?_eq_getElem hi] at this
      simp only [Option.getD_some] at this
      rw [e'] at this
      exact this
theorem item_set {w : World} {B : Nat} {a b k r : Value} (h : w.heap[B]? = some (.cells #[a, b] 32)) : ((w.setCell ⟨B, 0, none⟩ k).setCell ⟨B, 1, none⟩ r).heap[B]? = some (.cells #[k, r] 32) := by
  have h1 : (w.setCell ⟨B, 0, none⟩ k).heap[B]? = some (.cells #[k, b] 32) := by
    simp only [World.setCell, Array.getElem?_modify, if_pos, h]; rfl
  generalize w.setCell ⟨B, 0, none⟩ k = w1 at h1
  simp only [World.setCell, Array.getElem?_modify, if_pos, h1]; rfl
theorem item_kept {w : World} {B A : Nat} {k r : Value} (h : B ≠ A) : ((w.setCell ⟨B, 0, none⟩ k).setCell ⟨B, 1, none⟩ r).heap[A]? = w.heap[A]? := by
  rw [Below.heap_setCell _ _ _ _ (by show A ≠ B; omega), Below.heap_setCell _ _ _ _ (by show A ≠ B; omega)]
end Go.Proofs.Ytfcknfodejnhnaa


/- The reference's heap: Take. -/
namespace Go.Proofs.Ytfcknfodejnhnaa
open Go Go.RowKit

theorem ButR.trans' {x : Nat} {R : Option Nat} {u w w' : World} (h : ButR x R u w) (k : Below u.heap.size w w') : ButR x R u w' :=
  ⟨k.os.trans h.os, k.tape.trans h.tape, k.output.trans h.output, Nat.le_trans h.size k.size, fun i hi hx hR => (k.block i hi).trans (h.block i hi hx hR)⟩
end Go.Proofs.Ytfcknfodejnhnaa


