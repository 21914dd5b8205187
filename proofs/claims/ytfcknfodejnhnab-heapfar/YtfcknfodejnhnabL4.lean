/- What the proof needs, part 4. -/
import Derived.Test.YtfcknfodejnhnabL3
/- The reference's heap: Least, Take. -/
namespace Go.Proofs.Ytfcknfodejnhnab
open Go Go.RowKit

/-- The least of the first i items. -/
def Sp.LM (l : List (Int × Int)) (i : Nat) (k r : Int) : Prop := (i = 0 ∧ k = 0 ∧ r = 0) ∨ (0 < i ∧ (∃ j, j < i ∧ l.getD j (0, 0) = (k, r)) ∧ ∀ j, j < i → Sp.aheadB (l.getD j (0, 0)).1 (l.getD j (0, 0)).2 k r = false)
theorem Sp.LM.take {l : List (Int × Int)} {i : Nat} {k r : Int} (h : Sp.LM l i k r) (hc : i = 0 ∨ Sp.aheadB (l.getD i (0, 0)).1 (l.getD i (0, 0)).2 k r = true) : Sp.LM l (i + 1) (l.getD i (0, 0)).1 (l.getD i (0, 0)).2 := by
  refine .inr ⟨by omega, ⟨i, by omega, rfl⟩, fun j hj => ?_⟩
  by_cases hji : j = i
  · subst hji; rw [Sp.ahead_no]; omega
  · rcases h with ⟨h0, -⟩ | ⟨h0, -, h2⟩
    · omega
    · have h3 := h2 j (by omega)
      rcases hc with hc | hc
      · omega
      · rw [Sp.ahead_yes] at hc
        rw [Sp.ahead_no] at h3 ⊢
        omega
theorem Sp.LM.stay {l : List (Int × Int)} {i : Nat} {k r : Int} (h : Sp.LM l i k r) (h0 : i ≠ 0) (hc : Sp.aheadB (l.getD i (0, 0)).1 (l.getD i (0, 0)).2 k r = false) : Sp.LM l (i + 1) k r := by
  rcases h with ⟨h1, -⟩ | ⟨-, ⟨j, hj, e⟩, h2⟩
  · omega
  · refine .inr ⟨by omega, ⟨j, by omega, e⟩, fun n hn => ?_⟩
    by_cases hni : n = i
    · rw [hni]; exact hc
    · exact h2 n (by omega)
theorem Sp.LM.least {l : List (Int × Int)} {M : Nat → Option Int} {k r : Int} (hM : Sp.RL l M) (h : Sp.LM l l.length k r) : Sp.LeastIs M k r (decide (0 < l.length)) := by
  rcases h with ⟨h0, h1, h2⟩ | ⟨h0, ⟨j, hj, e⟩, h2⟩
  · have hl : l = [] := List.eq_nil_of_length_eq_zero h0
    refine .inl ⟨decide_eq_false (by omega), h1, h2, fun i => ?_⟩
    cases hm : M i with
    | none => rfl
    | some s => have := hM.all i s hm; rw [hl] at this; cases this
  · have hmem := Sp.getD_mem2 hj
    rw [e] at hmem
    have hr := hM.rng hmem
    have hlk := hM.mem _ hmem
    obtain ⟨n, hn⟩ : ∃ n : Nat, k = (n : Int) := ⟨k.toNat, by omega⟩
    refine .inr ⟨decide_eq_true h0, n, hn, by omega, ?_, fun j' r' hm => ?_⟩
    · rw [show ((k, r) : Int × Int).1 = (n : Int) from hn, Sp.look_nat] at hlk
      exact hlk
    · obtain ⟨i, hi, e'⟩ := List.mem_iff_getElem.1 (hM.all j' r' hm)
      have := h2 i hi
      rw [List.getD_eq_getElem?_getD, List.getElem?_eq_getElem hi] at this
      simp only [Option.getD_some] at this
      rw [e'] at this
      exact this
theorem item_set {w : World} {B : Nat} {a b k r : Value} (h : w.heap[B]? = some (.cells #[a, b] 30)) : ((w.setCell ⟨B, 0, none⟩ k).setCell ⟨B, 1, none⟩ r).heap[B]? = some (.cells #[k, r] 30) := by
  have h1 : (w.setCell ⟨B, 0, none⟩ k).heap[B]? = some (.cells #[k, b] 30) := by
    simp only [World.setCell, Array.getElem?_modify, if_pos, h]; rfl
  generalize w.setCell ⟨B, 0, none⟩ k = w1 at h1
  simp only [World.setCell, Array.getElem?_modify, if_pos, h1]; rfl
theorem item_kept {w : World} {B A : Nat} {k r : Value} (h : B ≠ A) : ((w.setCell ⟨B, 0, none⟩ k).setCell ⟨B, 1, none⟩ r).heap[A]? = w.heap[A]? := by
  rw [Below.heap_setCell _ _ _ _ (by show A ≠ B; omega), Below.heap_setCell _ _ _ _ (by show A ≠ B; omega)]
set_option maxRecDepth 100000 in
set_option maxHeartbeats 8000000 in
theorem rleast_any (M : Nat → Option Int) (x : Nat) (R : Option Nat) (w : World) (h : RfIs w x R M) :
    Calls Try.prog 21 #[.pointer (some ⟨x, 0, none⟩)] w fun e w' => ∃ k r is, e = .returned (.tuple #[.agg #[.int .i64 k, .int .i64 r], .bool is]) ∧ Sp.LeastIs M k r is ∧ Below w.heap.size w w' := by
  obtain ⟨v, l, h1, h2⟩ := h
  have hle : l.length ≤ 300 := by rw [h2.len]; exact Sp.cnt_le M
  have hxl := h1.lt
  have HV : Hid (∀ w', Below w.heap.size w w' → Rf w' x R v l) := hide fun w' hb => h1.below hb
  obtain ⟨a, c, rfl, -, -, -⟩ := h1.form
  have HRL := hide h2
  obtain ⟨A, hA⟩ : ∃ A, w.heap.size = A := ⟨_, rfl⟩
  have HI0 : Hid (Below w.heap.size w ((w.alloc (.cells #[.int .i64 0, .int .i64 0] 30)).alloc (.cells #[.int .i64 0, .int .i64 0] 30)) ∧ ((w.alloc (.cells #[.int .i64 0, .int .i64 0] 30)).alloc (.cells #[.int .i64 0, .int .i64 0] 30)).heap[A]? = some (.cells #[.int .i64 0, .int .i64 0] 30) ∧ ((w.alloc (.cells #[.int .i64 0, .int .i64 0] 30)).alloc (.cells #[.int .i64 0, .int .i64 0] 30)).heap[A + 1]? = some (.cells #[.int .i64 0, .int .i64 0] 30) ∧ Sp.LM l 0 0 0) := hide (by
    have e1 : (w.alloc (.cells #[.int .i64 0, .int .i64 0] 30)).heap.size = A + 1 := by rw [← hA]; show (w.heap.push _).size = _; exact Array.size_push _
    refine ⟨((Below.refl _ w).alloc (Nat.le_refl _) _).alloc (by omega) _, ?_, ?_, .inl ⟨rfl, rfl, rfl⟩⟩
    · rw [Below.heap_alloc _ _ _ (by omega), ← hA]
      show (w.heap.push _)[w.heap.size]? = _
      rw [Array.getElem?_push, if_pos rfl]
    · rw [← e1]
      generalize w.alloc (.cells #[.int .i64 0, .int .i64 0] 30) = W
      show (W.heap.push _)[W.heap.size]? = _
      rw [Array.getElem?_push, if_pos rfl])
  clear h1 h2
  obtain ⟨P, hP⟩ : ∃ P : Ending → World → Prop, P = fun e w' => ∃ k r is, e = .returned (.tuple #[.agg #[.int .i64 k, .int .i64 r], .bool is]) ∧ Sp.LeastIs M k r is ∧ Below w.heap.size w w' := ⟨_, rfl⟩
  rw [← hP]
  have HP := hide hP
  clear hP
  go_enter Try.func21, Try.ntmps21
  go_wp2
  have hs2 : A + 2 ≤ ((w.alloc (.cells #[.int .i64 0, .int .i64 0] 30)).alloc (.cells #[.int .i64 0, .int .i64 0] 30)).heap.size := by
    have := (Array.getElem?_eq_some_iff.1 (unhide HI0).2.2.1).1
    omega
  generalize (w.alloc (.cells #[.int .i64 0, .int .i64 0] 30)).alloc (.cells #[.int .i64 0, .int .i64 0] 30) = W2 at *
  have HA := hide hA
  rw [hA] at HI0 HV HP
  clear hA
  go_loopg [5] l.length (fun g s5 wr => ∃ (i : Nat) (k r : Int), i + g = l.length ∧ s5 = .int .i64 (i : Int) ∧ A + 2 ≤ wr.heap.size ∧ Hid (Below A w wr ∧ wr.heap[A]? = some (.cells #[.int .i64 0, .int .i64 0] 30) ∧ wr.heap[A + 1]? = some (.cells #[.int .i64 k, .int .i64 r] 30) ∧ Sp.LM l i k r))
  case atStart => exact ⟨0, 0, 0, by omega, rfl, hs2, HI0⟩
  case round =>
    clear HI0 hs2
    obtain ⟨i, k, r, hig, rfl, hsr, HI⟩ := hrel
    have hxA : x < A := by rw [← unhide HA]; exact hxl
    have hRf := unhide HV wr (unhide HI).1
    have c0 := hRf.cell.1
    by_cases hi : i < l.length
    · have hiI : (i : Int) < (l.length : Int) := by omega
      obtain ⟨g', rfl⟩ : ∃ g', gk = g' + 1 := ⟨gk - 1, by omega⟩
      obtain ⟨a', c', e', -, -, HC⟩ := hRf.form
      injection e' with e1 _ e2
      subst e1 e2
      obtain ⟨g, rfl, -, d0, d1, -⟩ := unhide HC i hi
      have gk0 : ∀ o : Obj, (wr.alloc o).cell? ⟨x, 0, none⟩ = some (.slice (some ⟨g, 0, none⟩) l.length c) := fun o => (hRf.below ((Below.refl _ wr).alloc (Nat.le_refl _) o)).cell.1
      have HLM := hide (unhide HI).2.2.2
      have hB1 : ∀ o : Obj, (wr.alloc o).heap[A + 1]? = some (.cells #[.int .i64 k, .int .i64 r] 30) := fun o => by rw [Below.heap_alloc _ _ _ (by omega)]; exact (unhide HI).2.2.1
      have hB0 : ∀ o : Obj, (wr.alloc o).heap[A]? = some (.cells #[.int .i64 0, .int .i64 0] 30) := fun o => by rw [Below.heap_alloc _ _ _ (by omega)]; exact (unhide HI).2.1
      have hBb : ∀ o : Obj, Below A w (wr.alloc o) := fun o => (unhide HI).1.alloc (by omega) o
      have HB := hide (And.intro hBb (And.intro hB0 hB1))
      have m0 := fun o => (item_at (hB1 o)).1
      have m1 := fun o => (item_at (hB1 o)).2.1
      have mf := fun o => (item_at (hB1 o)).2.2
      have m1' := fun o (v : Value) => show ((wr.alloc o).setCell ⟨A + 1, 0, none⟩ v).cell? ⟨A + 1, 1, none⟩ = some (.int .i64 r) by rw [cell_set_ne (by omega)]; exact m1 o
      have HZ : ∀ o : Obj, A + 2 ≤ (wr.alloc o).heap.size := fun o => Nat.le_trans hsr ((Below.refl wr.heap.size wr).alloc (Nat.le_refl _) o).size
      have HZ2 := hide HZ
      clear hB0 hB1 hBb HZ HC hRf
      have HT := hide (fun hc => (unhide HLM).take hc)
      have HSt := hide (fun h0 hc => (unhide HLM).stay h0 hc)
      clear HI HLM
      generalize (l.getD i (0, 0)).1 = k' at *
      generalize (l.getD i (0, 0)).2 = r' at *
      have hA1 : A + 1 ≠ wr.heap.size := by omega
      by_cases hi0 : i = 0
      · subst hi0
        have hlm := unhide HT (.inl rfl)
        have HF := hide (show ∀ o : Obj, Below A w (((wr.alloc o).setCell ⟨A + 1, 0, none⟩ (.int .i64 k')).setCell ⟨A + 1, 1, none⟩ (.int .i64 r')) ∧ (((wr.alloc o).setCell ⟨A + 1, 0, none⟩ (.int .i64 k')).setCell ⟨A + 1, 1, none⟩ (.int .i64 r')).heap[A]? = some (.cells #[.int .i64 0, .int .i64 0] 30) ∧ (((wr.alloc o).setCell ⟨A + 1, 0, none⟩ (.int .i64 k')).setCell ⟨A + 1, 1, none⟩ (.int .i64 r')).heap[A + 1]? = some (.cells #[.int .i64 k', .int .i64 r'] 30) ∧ Sp.LM l (0 + 1) k' r' from fun o => ⟨(((unhide HB).1 o).setCell (p := ⟨A + 1, 0, none⟩) (Nat.le_succ _) _).setCell (p := ⟨A + 1, 1, none⟩) (Nat.le_succ _) _, (item_kept (by omega)).trans ((unhide HB).2.1 o), item_set ((unhide HB).2.2 o), hlm⟩)
        have HZ3 := hide (show ∀ o : Obj, A + 2 ≤ (((wr.alloc o).setCell ⟨A + 1, 0, none⟩ (.int .i64 k')).setCell ⟨A + 1, 1, none⟩ (.int .i64 r')).heap.size from fun o => by
          have e : (((wr.alloc o).setCell ⟨A + 1, 0, none⟩ (.int .i64 k')).setCell ⟨A + 1, 1, none⟩ (.int .i64 r')).heap.size = (wr.alloc o).heap.size := by simp only [World.setCell, Array.size_modify]
          rw [e]; exact unhide HZ2 o)
        clear hlm HB
        go_wp2
        go_roundg g'
        case rel => exact ⟨0 + 1, k', r', by omega, rfl, unhide HZ3 _, hide (unhide HF _)⟩
        case measure => omega
      · have hi0b : ((i : Int) == 0) = false := beq_eq_false_iff_ne.2 (by omega)
        by_cases hr : r' < r
        · have hlm := unhide HT (.inr (by rw [Sp.ahead_yes]; omega))
          have HF := hide (show ∀ o : Obj, Below A w (((wr.alloc o).setCell ⟨A + 1, 0, none⟩ (.int .i64 k')).setCell ⟨A + 1, 1, none⟩ (.int .i64 r')) ∧ (((wr.alloc o).setCell ⟨A + 1, 0, none⟩ (.int .i64 k')).setCell ⟨A + 1, 1, none⟩ (.int .i64 r')).heap[A]? = some (.cells #[.int .i64 0, .int .i64 0] 30) ∧ (((wr.alloc o).setCell ⟨A + 1, 0, none⟩ (.int .i64 k')).setCell ⟨A + 1, 1, none⟩ (.int .i64 r')).heap[A + 1]? = some (.cells #[.int .i64 k', .int .i64 r'] 30) ∧ Sp.LM l (i + 1) k' r' from fun o => ⟨(((unhide HB).1 o).setCell (p := ⟨A + 1, 0, none⟩) (Nat.le_succ _) _).setCell (p := ⟨A + 1, 1, none⟩) (Nat.le_succ _) _, (item_kept (by omega)).trans ((unhide HB).2.1 o), item_set ((unhide HB).2.2 o), hlm⟩)
          have HZ3 := hide (show ∀ o : Obj, A + 2 ≤ (((wr.alloc o).setCell ⟨A + 1, 0, none⟩ (.int .i64 k')).setCell ⟨A + 1, 1, none⟩ (.int .i64 r')).heap.size from fun o => by
            have e : (((wr.alloc o).setCell ⟨A + 1, 0, none⟩ (.int .i64 k')).setCell ⟨A + 1, 1, none⟩ (.int .i64 r')).heap.size = (wr.alloc o).heap.size := by simp only [World.setCell, Array.size_modify]
            rw [e]; exact unhide HZ2 o)
          clear hlm HB
          go_wp2
          go_roundg g'
          case rel => exact ⟨i + 1, k', r', by omega, rfl, unhide HZ3 _, hide (unhide HF _)⟩
          case measure => omega
        · by_cases hre : r' = r
          · subst hre
            by_cases hk : k' < k
            · have hlm := unhide HT (.inr (by rw [Sp.ahead_yes]; omega))
              have HF := hide (show ∀ o : Obj, Below A w (((wr.alloc o).setCell ⟨A + 1, 0, none⟩ (.int .i64 k')).setCell ⟨A + 1, 1, none⟩ (.int .i64 r')) ∧ (((wr.alloc o).setCell ⟨A + 1, 0, none⟩ (.int .i64 k')).setCell ⟨A + 1, 1, none⟩ (.int .i64 r')).heap[A]? = some (.cells #[.int .i64 0, .int .i64 0] 30) ∧ (((wr.alloc o).setCell ⟨A + 1, 0, none⟩ (.int .i64 k')).setCell ⟨A + 1, 1, none⟩ (.int .i64 r')).heap[A + 1]? = some (.cells #[.int .i64 k', .int .i64 r'] 30) ∧ Sp.LM l (i + 1) k' r' from fun o => ⟨(((unhide HB).1 o).setCell (p := ⟨A + 1, 0, none⟩) (Nat.le_succ _) _).setCell (p := ⟨A + 1, 1, none⟩) (Nat.le_succ _) _, (item_kept (by omega)).trans ((unhide HB).2.1 o), item_set ((unhide HB).2.2 o), hlm⟩)
              have HZ3 := hide (show ∀ o : Obj, A + 2 ≤ (((wr.alloc o).setCell ⟨A + 1, 0, none⟩ (.int .i64 k')).setCell ⟨A + 1, 1, none⟩ (.int .i64 r')).heap.size from fun o => by
                have e : (((wr.alloc o).setCell ⟨A + 1, 0, none⟩ (.int .i64 k')).setCell ⟨A + 1, 1, none⟩ (.int .i64 r')).heap.size = (wr.alloc o).heap.size := by simp only [World.setCell, Array.size_modify]
                rw [e]; exact unhide HZ2 o)
              clear hlm HB
              go_wp2
              go_roundg g'
              case rel => exact ⟨i + 1, k', r', by omega, rfl, unhide HZ3 _, hide (unhide HF _)⟩
              case measure => omega
            · have hlm := unhide HSt hi0 (by rw [Sp.ahead_no]; omega)
              have HF := hide (show ∀ o : Obj, Below A w (wr.alloc o) ∧ (wr.alloc o).heap[A]? = some (.cells #[.int .i64 0, .int .i64 0] 30) ∧ (wr.alloc o).heap[A + 1]? = some (.cells #[.int .i64 k, .int .i64 r'] 30) ∧ Sp.LM l (i + 1) k r' from fun o => ⟨(unhide HB).1 o, (unhide HB).2.1 o, (unhide HB).2.2 o, hlm⟩)
              clear hlm HB
              go_wp2
              go_roundg g'
              case rel => exact ⟨i + 1, k, r', by omega, rfl, unhide HZ2 _, hide (unhide HF _)⟩
              case measure => omega
          · have hreb : (r' == r) = false := beq_eq_false_iff_ne.2 hre
            have hlm := unhide HSt hi0 (by rw [Sp.ahead_no]; omega)
            have HF := hide (show ∀ o : Obj, Below A w (wr.alloc o) ∧ (wr.alloc o).heap[A]? = some (.cells #[.int .i64 0, .int .i64 0] 30) ∧ (wr.alloc o).heap[A + 1]? = some (.cells #[.int .i64 k, .int .i64 r] 30) ∧ Sp.LM l (i + 1) k r from fun o => ⟨(unhide HB).1 o, (unhide HB).2.1 o, (unhide HB).2.2 o, hlm⟩)
            clear hlm HB
            go_wp2
            go_roundg g'
            case rel => exact ⟨i + 1, k, r, by omega, rfl, unhide HZ2 _, hide (unhide HF _)⟩
            case measure => omega
    · have hiI : ¬ (i : Int) < (l.length : Int) := by omega
      obtain rfl : i = l.length := by omega
      have HLe := hide (Sp.LM.least (unhide HRL) (unhide HI).2.2.2)
      obtain ⟨m0, m1, -⟩ := item_at (unhide HI).2.2.1
      obtain ⟨y0, y1, yf⟩ := item_at (unhide HI).2.1
      have y1' := fun (v : Value) => show (wr.setCell ⟨A, 0, none⟩ v).cell? ⟨A, 1, none⟩ = some (.int .i64 0) by rw [cell_set_ne (by omega)]; exact y1
      have r0' := show ((wr.setCell ⟨A, 0, none⟩ (.int .i64 k)).setCell ⟨A, 1, none⟩ (.int .i64 r)).cell? ⟨A, 0, none⟩ = some (.int .i64 k) by rw [cell_set_ne (by omega)]; exact cell_set_eq y0
      have r1' := show ((wr.setCell ⟨A, 0, none⟩ (.int .i64 k)).setCell ⟨A, 1, none⟩ (.int .i64 r)).cell? ⟨A, 1, none⟩ = some (.int .i64 r) from cell_set_eq (y1' _)
      have HF := hide ((((unhide HI).1.setCell (p := ⟨A, 0, none⟩) (Nat.le_refl _) (.int .i64 k)).setCell (p := ⟨A, 1, none⟩) (Nat.le_refl _) (.int .i64 r)).drew)
      clear HI hRf
      have hxA' : x ≠ A := by omega
      generalize l.length = n at *
      go_wp2_with fail
      go_region
      go_wp2
      refine bodyPost_ret (v := .tuple #[.agg #[.int .i64 k, .int .i64 r], .bool (decide (0 < n))]) (by simp [results, Try.results21, go_sem, r0', r1']) rfl ?_
      rw [unhide HP]
      exact ⟨_, _, _, rfl, unhide HLe, unhide HF⟩
end Go.Proofs.Ytfcknfodejnhnab


/- The reference's heap: Take. -/
namespace Go.Proofs.Ytfcknfodejnhnab
open Go Go.RowKit

theorem ButR.trans' {x : Nat} {R : Option Nat} {u w w' : World} (h : ButR x R u w) (k : Below u.heap.size w w') : ButR x R u w' :=
  ⟨k.os.trans h.os, k.tape.trans h.tape, k.output.trans h.output, Nat.le_trans h.size k.size, fun i hi hx hR => (k.block i hi).trans (h.block i hi hx hR)⟩
set_option maxRecDepth 100000 in
set_option maxHeartbeats 4000000 in
theorem rtake_any (M : Nat → Option Int) (x : Nat) (R : Option Nat) (w : World) (h : RfIs w x R M) :
    Calls Try.prog 15 #[.pointer (some ⟨x, 0, none⟩)] w fun e w' => ∃ k r is, e = .returned (.tuple #[.agg #[.int .i64 k, .int .i64 r], .bool is]) ∧ Sp.LeastIs M k r is ∧ ∃ R', RfIs w' x R' (Sp.put M k.toNat none) ∧ ButR x R w w' ∧ (R' = R ∨ ∀ g, R' = some g → w.heap.size ≤ g) := by
  have hxl := h.lt
  have H0 := hide h
  have HR := hide h.rlt
  have HW : Hid (∀ w', Below (w.heap.size + 1) (w.alloc (.cells #[.int .i64 0, .int .i64 0] 30)) w' → Below w.heap.size w w' ∧ w'.heap[w.heap.size]? = some (.cells #[.int .i64 0, .int .i64 0] 30) ∧ RfIs w' x R M ∧ w.heap.size + 1 ≤ w'.heap.size) := hide fun w' hb' => by
    have hb1 : Below w.heap.size w (w.alloc (.cells #[.int .i64 0, .int .i64 0] 30)) := (Below.refl _ w).alloc (Nat.le_refl _) _
    have hb2 := hb1.trans (hb'.mono (Nat.le_succ _))
    refine ⟨hb2, ?_, h.below hb2, by have := hb'.size; simp at this; omega⟩
    rw [hb'.block _ (Nat.lt_succ_self _)]
    show (w.heap.push _)[w.heap.size]? = _
    rw [Array.getElem?_push, if_pos rfl]
  have hs : (w.alloc (.cells #[.int .i64 0, .int .i64 0] 30)).heap.size = w.heap.size + 1 := by show (w.heap.push _).size = _; exact Array.size_push _
  have hL0 := rleast_any M x R _ (unhide HW _ (Below.refl _ _)).2.2.1
  rw [hs] at hL0
  have HL0 := hide hL0
  clear hL0 hs h
  obtain ⟨P, hP⟩ : ∃ P : Ending → World → Prop, P = fun e w' => ∃ k r is, e = .returned (.tuple #[.agg #[.int .i64 k, .int .i64 r], .bool is]) ∧ Sp.LeastIs M k r is ∧ ∃ R', RfIs w' x R' (Sp.put M k.toNat none) ∧ ButR x R w w' ∧ (R' = R ∨ ∀ g, R' = some g → w.heap.size ≤ g) := ⟨_, rfl⟩
  rw [← hP]
  have HP := hide hP
  clear hP
  go_enter Try.func15, Try.ntmps15
  go_wp2_with fail
  go_at_call 21
  generalize w.alloc (.cells #[.int .i64 0, .int .i64 0] 30) = W0 at *
  refine (unhide HL0).mono ?_
  rintro e w2 ⟨k, r, is, rfl, hl2, hb2⟩
  obtain ⟨hb3, hB3, hp3, hs3⟩ := unhide HW _ hb2
  have HLe := hide hl2
  have hI1 : (w2.alloc (.cells #[.int .i64 k, .int .i64 r] 30)).heap[w2.heap.size]? = some (.cells #[.int .i64 k, .int .i64 r] 30) := by
    show (w2.heap.push _)[w2.heap.size]? = _
    rw [Array.getElem?_push, if_pos rfl]
  have hI2 : (w2.alloc (.cells #[.int .i64 k, .int .i64 r] 30)).heap[w.heap.size]? = some (.cells #[.int .i64 0, .int .i64 0] 30) := by
    rw [Below.heap_alloc _ _ _ (by omega)]; exact hB3
  have hI3 : Below w.heap.size w (w2.alloc (.cells #[.int .i64 k, .int .i64 r] 30)) := hb3.alloc (by omega) _
  have hI4 : RfIs (w2.alloc (.cells #[.int .i64 k, .int .i64 r] 30)) x R M := hp3.below ((Below.refl _ w2).alloc (Nat.le_refl _) _)
  have hI5 : (w2.alloc (.cells #[.int .i64 k, .int .i64 r] 30)).heap.size = w2.heap.size + 1 := by show (w2.heap.push _).size = _; exact Array.size_push _
  rcases hl2.pos with ⟨rfl, j, rfl, -, -⟩ | ⟨rfl, rfl, rfl, -, he⟩
  · obtain ⟨p0, p1, -⟩ := item_at hI1
    have HRd := hide (rdrop_any M x R (j : Int) _ hI4)
    have HD : Hid (Sp.dropK M (j : Int) = Sp.put M ((j : Int)).toNat none) := hide (by rw [Sp.dropK, if_pos (by omega)])
    have HJ := hide (And.intro hI1 (And.intro hI2 (And.intro hI3 hI5)))
    clear hI1 hI2 hI3 hI4 hI5 hl2 hb2 hb3 hB3 hp3
    go_wp2_with fail
    generalize w2.alloc (.cells #[.int .i64 (j : Int), .int .i64 r] 30) = W3 at *
    go_at_call 22
    refine (unhide HRd).mono ?_
    rintro e w4 ⟨rfl, R', hi4, hb4, hR4⟩
    have hs4 := (unhide HJ).2.2.2
    have hg4 := hb4.size
    have hRB : R ≠ some w2.heap.size := fun e => by have := (unhide HR _ e).2; omega
    have hRA : R ≠ some w.heap.size := fun e => by have := (unhide HR _ e).2; omega
    obtain ⟨x0, x1, -⟩ := item_at (w := w4) (B := w2.heap.size) ((hb4.block _ (by omega) (by omega) hRB).trans (unhide HJ).1)
    have hA4 := (hb4.block w.heap.size (by omega) (by omega) hRA).trans (unhide HJ).2.1
    obtain ⟨y0, y1, yf⟩ := item_at hA4
    have y1' := fun v : Value => show (w4.setCell ⟨w.heap.size, 0, none⟩ v).cell? ⟨w.heap.size, 1, none⟩ = some (.int .i64 0) by rw [cell_set_ne (by omega)]; exact y1
    rw [unhide HD] at hi4
    have HQ : Hid (∀ v v', RfIs ((w4.setCell ⟨w.heap.size, 0, none⟩ v).setCell ⟨w.heap.size, 1, none⟩ v') x R' (Sp.put M ((j : Int)).toNat none) ∧ ButR x R w ((w4.setCell ⟨w.heap.size, 0, none⟩ v).setCell ⟨w.heap.size, 1, none⟩ v') ∧ (R' = R ∨ ∀ g, R' = some g → w.heap.size ≤ g)) := hide fun v v' => by
      have hRg : ∀ g, R' = some g → g ≠ w.heap.size := fun g hg e => by
        rcases hR4 with h5 | h5
        · exact hRA (by rw [← h5, hg, e])
        · have := h5 g hg; omega
      refine ⟨hi4.keep (item_kept (by omega)) (fun g hg => item_kept (fun e => hRg g hg e.symm)), ?_, ?_⟩
      · exact ((((ButR.of (unhide HJ).2.2.1).trans hb4 (.inl rfl)).trans' ((Below.refl _ w4).setCell (p := ⟨w.heap.size, 0, none⟩) (Nat.le_refl _) v))).trans' ((Below.refl _ _).setCell (p := ⟨w.heap.size, 1, none⟩) (Nat.le_refl _) v')
      · rcases hR4 with h5 | h5
        · exact .inl h5
        · exact .inr fun g hg => by have := h5 g hg; omega
    have r0' := show ((w4.setCell ⟨w.heap.size, 0, none⟩ (.int .i64 (j : Int))).setCell ⟨w.heap.size, 1, none⟩ (.int .i64 r)).cell? ⟨w.heap.size, 0, none⟩ = some (.int .i64 (j : Int)) by rw [cell_set_ne (by omega)]; exact cell_set_eq y0
    have r1' := show ((w4.setCell ⟨w.heap.size, 0, none⟩ (.int .i64 (j : Int))).setCell ⟨w.heap.size, 1, none⟩ (.int .i64 r)).cell? ⟨w.heap.size, 1, none⟩ = some (.int .i64 r) from cell_set_eq (y1' _)
    clear hb4 hi4 hR4 hs4 hg4 hA4 HRd HJ p0 p1 hRA hRB
    go_wp2
    refine bodyPost_ret (v := .tuple #[.agg #[.int .i64 (j : Int), .int .i64 r], .bool true]) (by simp [results, Try.results15, go_sem, r0', r1']) rfl ?_
    rw [unhide HP]
    exact ⟨_, _, _, rfl, unhide HLe, R', unhide HQ _ _⟩
  · obtain ⟨x0, x1, -⟩ := item_at hI1
    obtain ⟨y0, y1, yf⟩ := item_at hI2
    have y1' := fun v : Value => show ((w2.alloc (.cells #[.int .i64 0, .int .i64 0] 30)).setCell ⟨w.heap.size, 0, none⟩ v).cell? ⟨w.heap.size, 1, none⟩ = some (.int .i64 0) by rw [cell_set_ne (by omega)]; exact y1
    have HQ : Hid (∀ v v', RfIs (((w2.alloc (.cells #[.int .i64 0, .int .i64 0] 30)).setCell ⟨w.heap.size, 0, none⟩ v).setCell ⟨w.heap.size, 1, none⟩ v') x R M ∧ ButR x R w (((w2.alloc (.cells #[.int .i64 0, .int .i64 0] 30)).setCell ⟨w.heap.size, 0, none⟩ v).setCell ⟨w.heap.size, 1, none⟩ v')) := hide fun v v' => by
      refine ⟨hI4.keep (item_kept (by omega)) (fun g hg => item_kept (by have := (unhide HR g hg).2; omega)), ?_⟩
      exact (((ButR.of hI3).trans' ((Below.refl _ _).setCell (p := ⟨w.heap.size, 0, none⟩) (Nat.le_refl _) v))).trans' ((Below.refl _ _).setCell (p := ⟨w.heap.size, 1, none⟩) (Nat.le_refl _) v')
    have r0' := show (((w2.alloc (.cells #[.int .i64 0, .int .i64 0] 30)).setCell ⟨w.heap.size, 0, none⟩ (.int .i64 0)).setCell ⟨w.heap.size, 1, none⟩ (.int .i64 0)).cell? ⟨w.heap.size, 0, none⟩ = some (.int .i64 0) by rw [cell_set_ne (by omega)]; exact cell_set_eq y0
    have r1' := show (((w2.alloc (.cells #[.int .i64 0, .int .i64 0] 30)).setCell ⟨w.heap.size, 0, none⟩ (.int .i64 0)).setCell ⟨w.heap.size, 1, none⟩ (.int .i64 0)).cell? ⟨w.heap.size, 1, none⟩ = some (.int .i64 0) from cell_set_eq (y1' _)
    have HE := hide he
    clear hI1 hI2 hI3 hI4 hI5 hl2 hb2 hb3 hB3 hp3 he
    go_wp2
    refine bodyPost_ret (v := .tuple #[.agg #[.int .i64 0, .int .i64 0], .bool false]) (by simp [results, Try.results15, go_sem, r0', r1']) rfl ?_
    rw [unhide HP]
    exact ⟨_, _, _, rfl, unhide HLe, R, by rw [unhide HE]; exact (unhide HQ _ _).1, (unhide HQ _ _).2, .inl rfl⟩
end Go.Proofs.Ytfcknfodejnhnab


/- The laws of heaps: step. -/
namespace Go.Proofs.Ytfcknfodejnhnab
open Go Go.RowKit

/-- All but the two heaps is as it was. -/
structure ButS (b x : Nat) (R : Option Nat) (w w' : World) : Prop where
  os : w'.os = w.os
  tape : w'.tape = w.tape
  output : w'.output = w.output
  size : w.heap.size ≤ w'.heap.size
  block : ∀ k, k < w.heap.size → k ≠ b → k ≠ x → R ≠ some k → w'.heap[k]? = w.heap[k]?
theorem ButS.of {b x : Nat} {R : Option Nat} {w w' : World} (h : Below w.heap.size w w') : ButS b x R w w' := ⟨h.os, h.tape, h.output, h.size, fun k hk _ _ _ => h.block k hk⟩
theorem ButS.trans {b x : Nat} {R R' : Option Nat} {u v w : World} (h : ButS b x R u v) (k : ButS b x R' v w) (hR : R' = R ∨ ∀ g, R' = some g → u.heap.size ≤ g) : ButS b x R u w :=
  ⟨k.os.trans h.os, k.tape.trans h.tape, k.output.trans h.output, Nat.le_trans h.size k.size, fun i hi hb hx hr => (k.block i (Nat.lt_of_lt_of_le hi h.size) hb hx (fun e => by
    rcases hR with hR | hR
    · exact hr (by rw [← hR]; exact e)
    · have := hR i e; omega)).trans (h.block i hi hb hx hr)⟩
/-- Two heaps, the program's and the reference's, that hold the same. -/
structure Pr (w : World) (b x : Nat) (R : Option Nat) (M : Nat → Option Int) : Prop where
  bx : b < x
  h : HpIs w b M
  r : RfIs w x R M
theorem Pr.below {w w' : World} {b x : Nat} {R : Option Nat} {M : Nat → Option Int} (p : Pr w b x R M) (hb : Below w.heap.size w w') : Pr w' b x R M := ⟨p.bx, p.h.below hb, p.r.below hb⟩
theorem rf_but {w w' : World} {b x : Nat} {R : Option Nat} {M : Nat → Option Int} (h : RfIs w x R M) (hbx : b < x) (k : But b w w') : RfIs w' x R M :=
  h.keep (k.block _ h.lt (by omega)) fun g hg => k.block _ (h.rlt g hg).2 (by have := (h.rlt g hg).1; omega)
theorem hp_butR {w w' : World} {b x : Nat} {R : Option Nat} {M N : Nat → Option Int} (h : HpIs w b M) (hr : RfIs w x R N) (hbx : b < x) (k : ButR x R w w') : HpIs w' b M :=
  h.of_block (k.block _ h.lt (by omega) (fun e => by have := (hr.rlt b e).1; omega))
end Go.Proofs.Ytfcknfodejnhnab


/- The law HeapPlays, walked. -/
namespace Go.Proofs.Ytfcknfodejnhnab
open Go Go.RowKit

theorem ButS.below {b x B : Nat} {R : Option Nat} {w w' : World} (h : ButS b x R w w') (hB : B ≤ b) (hx : B ≤ x) (hw : B ≤ w.heap.size) (hR : ∀ g, R = some g → B ≤ g) : Below B w w' :=
  ⟨h.os, h.tape, h.output, h.size, fun k hk => h.block k (by omega) (by omega) (by omega) (fun e => by have := hR k e; omega)⟩
end Go.Proofs.Ytfcknfodejnhnab


/- The law HeapFar, walked. -/
namespace Go.Proofs.Ytfcknfodejnhnab
open Go Go.RowKit

set_option maxRecDepth 100000 in
set_option maxHeartbeats 8000000 in
theorem heapFar_any (p q r : Int) (w : World) :
    Calls Try.prog 5 #[.int .i64 p, .int .i64 q, .int .i64 r] w fun e w' => e = .returned (.bool true) ∧ Below w.heap.size w w' := by
  obtain ⟨P, hP⟩ : ∃ P : Ending → World → Prop, P = fun e w' => e = .returned (.bool true) ∧ Below w.heap.size w w' := ⟨_, rfl⟩
  rw [← hP]
  have HP := hide hP
  clear hP
  go_enter Try.func5, Try.ntmps5
  go_wp2_with fail
  go_at_call 6
  refine (known5_any w).mono ?_
  rintro e w1 ⟨rfl, hb1⟩
  have HB1 := hide hb1
  clear hb1
  go_wp2_with fail
  go_at_call 7
  refine (hnew2_any w1).mono ?_
  rintro e w2 ⟨rfl, hb2, hi2, hs2⟩
  obtain ⟨b, hb⟩ : ∃ b, w1.heap.size = b := ⟨_, rfl⟩
  rw [hb] at hb2 hi2 hs2 ⊢
  have hwb : w.heap.size ≤ b := by rw [← hb]; exact (unhide HB1).size
  have H2 : Hid (Below w.heap.size w w2 ∧ HpIs w2 b (fun _ => none)) := hide ⟨(unhide HB1).trans (hb2.mono hwb), hi2⟩
  replace hs2 : b + 1 ≤ w2.heap.size := by omega
  clear hb2 hi2 hb HB1
  have HI2 := hide (unhide H2)
  clear H2
  go_wp2_with fail
  go_at_call 13
  refine (rnew_any w2).mono ?_
  rintro e w3 ⟨rfl, hb3, hi3, hs3⟩
  obtain ⟨x, hx⟩ : ∃ x, w2.heap.size = x := ⟨_, rfl⟩
  rw [hx] at hb3 hi3 hs3 ⊢
  have hbx : b < x := by omega
  have H2 : Hid (Below w.heap.size w w3 ∧ Pr w3 b x none (fun _ => none)) := hide ⟨(unhide HI2).1.trans (hb3.mono (by omega)), ⟨hbx, (unhide HI2).2.below (by rw [hx]; exact hb3), hi3⟩⟩
  replace hs2 : x + 1 ≤ w3.heap.size := by omega
  clear hb3 hi3 hs3 hx HI2
  have HB0 : Hid (Below w.heap.size w (w3.alloc (.cells #[.int .i64 p, .int .i64 q, .int .i64 r, .int .i64 (-9223372036854775808), .int .i64 9223372036854775807, .int .i64 0] 3)) ∧ Pr (w3.alloc (.cells #[.int .i64 p, .int .i64 q, .int .i64 r, .int .i64 (-9223372036854775808), .int .i64 9223372036854775807, .int .i64 0] 3)) b x none (fun _ => none) ∧ (w3.alloc (.cells #[.int .i64 p, .int .i64 q, .int .i64 r, .int .i64 (-9223372036854775808), .int .i64 9223372036854775807, .int .i64 0] 3)).heap[w3.heap.size]? = some (.cells #[.int .i64 p, .int .i64 q, .int .i64 r, .int .i64 (-9223372036854775808), .int .i64 9223372036854775807, .int .i64 0] 3) ∧ (∀ g, (none : Option Nat) = some g → w3.heap.size < g)  ∧ Sp.cnt (fun _ => none) = 0) := hide ⟨(unhide H2).1.alloc (by omega) _, (unhide H2).2.below ((Below.refl _ w3).alloc (Nat.le_refl _) _), by
    show (w3.heap.push _)[w3.heap.size]? = _
    rw [Array.getElem?_push, if_pos rfl], fun g hg => (by cases hg), Sp.cntN_none 300⟩
  have hs3 : w3.heap.size + 1 ≤ (w3.alloc (.cells #[.int .i64 p, .int .i64 q, .int .i64 r, .int .i64 (-9223372036854775808), .int .i64 9223372036854775807, .int .i64 0] 3)).heap.size := by
    have : (w3.alloc (.cells #[.int .i64 p, .int .i64 q, .int .i64 r, .int .i64 (-9223372036854775808), .int .i64 9223372036854775807, .int .i64 0] 3)).heap.size = w3.heap.size + 1 := by show (w3.heap.push _).size = _; exact Array.size_push _
    omega
  clear H2
  go_wp2
  generalize w3.alloc (.cells #[.int .i64 p, .int .i64 q, .int .i64 r, .int .i64 (-9223372036854775808), .int .i64 9223372036854775807, .int .i64 0] 3) = W3 at *
  obtain ⟨B0, hB0⟩ : ∃ B0, w3.heap.size = B0 := ⟨_, rfl⟩
  rw [hB0] at HB0 hs2 hs3 ⊢
  clear hB0
  go_loopg [10] 6 (fun g s10 wr => ∃ (i : Nat) (R : Option Nat) (M : Nat → Option Int), i + g = 6 ∧ s10 = .int .i64 (i : Int) ∧ B0 + 1 ≤ wr.heap.size ∧ Hid (Below w.heap.size w wr ∧ Pr wr b x R M ∧ wr.heap[B0]? = some (.cells #[.int .i64 p, .int .i64 q, .int .i64 r, .int .i64 (-9223372036854775808), .int .i64 9223372036854775807, .int .i64 0] 3) ∧ (∀ g, R = some g → B0 < g) ∧ Sp.cnt M = i ∧ ∀ j, i ≤ j → M j = none))
  case atStart => exact ⟨0, none, _, by omega, rfl, hs3, hide ⟨(unhide HB0).1, (unhide HB0).2.1, (unhide HB0).2.2.1, (unhide HB0).2.2.2.1, (unhide HB0).2.2.2.2, fun _ _ => rfl⟩⟩
  case round =>
    clear HB0 hs3
    obtain ⟨i, R, M, hig, rfl, hsr, HI⟩ := hrel
    by_cases hi : i < 6
    · have hiI : (i : Int) < 6 := by omega
      obtain ⟨g', rfl⟩ : ∃ g', gk = g' + 1 := ⟨gk - 1, by omega⟩
      obtain ⟨z, hz⟩ : ∃ z : Int, ∀ w' : World, w'.heap[B0]? = some (.cells #[.int .i64 p, .int .i64 q, .int .i64 r, .int .i64 (-9223372036854775808), .int .i64 9223372036854775807, .int .i64 0] 3) → w'.cell? ⟨B0, i, none⟩ = some (.int .i64 z) := by
        rcases (show i = 0 ∨ i = 1 ∨ i = 2 ∨ i = 3 ∨ i = 4 ∨ i = 5 by omega) with rfl | rfl | rfl | rfl | rfl | rfl
        · exact ⟨p, fun w' e => by simp only [World.cell?, e]; rfl⟩
        · exact ⟨q, fun w' e => by simp only [World.cell?, e]; rfl⟩
        · exact ⟨r, fun w' e => by simp only [World.cell?, e]; rfl⟩
        · exact ⟨-9223372036854775808, fun w' e => by simp only [World.cell?, e]; rfl⟩
        · exact ⟨9223372036854775807, fun w' e => by simp only [World.cell?, e]; rfl⟩
        · exact ⟨0, fun w' e => by simp only [World.cell?, e]; rfl⟩
      have c1 := hz wr (unhide HI).2.2.1
      have HZ := hide hz
      clear hz
      have hk : 0 ≤ (i : Int) ∧ (i : Int) < 300 := by omega
      have HPK : Hid (Sp.putK M (i : Int) z = Sp.put M i (some z) ∧ Sp.cnt (Sp.put M i (some z)) = i + 1 ∧ ∀ j, i + 1 ≤ j → Sp.put M i (some z) j = none) := hide ⟨by rw [Sp.putK, if_pos hk, Int.toNat_natCast], by rw [Sp.cnt_add M i z (by omega) ((unhide HI).2.2.2.2.2 i (Nat.le_refl _)), (unhide HI).2.2.2.2.1], fun j hj => by rw [Sp.put_other _ _ (by omega)]; exact (unhide HI).2.2.2.2.2 j (by omega)⟩
      have hA := hput_any M b (i : Int) z wr (unhide HI).2.1.h
      rw [decide_eq_true hk, (unhide HPK).1] at hA
      have HA := hide hA
      have HKK := hide hk
      clear hA hk
      go_wp2_with fail
      go_at_call 8
      refine (unhide HA).mono ?_
      rintro e w4 ⟨rfl, hb4, hi4⟩
      have hB4 := (hb4.block B0 (by omega) (by omega)).trans (unhide HI).2.2.1
      have H4 := hide (And.intro (hb4.on (unhide HI).1 hwb (by omega)) (And.intro hi4 (And.intro (rf_but (unhide HI).2.1.r hbx hb4) (And.intro hB4 (unhide HI).2.2.2.1))))
      have hs4 := hb4.size
      clear hb4 hi4 hB4 HI HA c1
      have c2 := unhide HZ w4 (unhide H4).2.2.2.1
      have hA := rput_any M x R (i : Int) z w4 (unhide H4).2.2.1
      rw [decide_eq_true (unhide HKK), (unhide HPK).1] at hA
      have HA := hide hA
      clear hA HZ
      go_wp2_with fail
      go_at_call 14
      refine (unhide HA).mono ?_
      rintro e w5 ⟨rfl, R5, hi5, hb5, hR5⟩
      have hB5 := (hb5.block B0 (by omega) (by omega) (fun e => by have := (unhide H4).2.2.2.2 B0 e; omega)).trans (unhide H4).2.2.2.1
      have HF : Hid (Below w.heap.size w w5 ∧ Pr w5 b x R5 (Sp.put M i (some z)) ∧ w5.heap[B0]? = some (.cells #[.int .i64 p, .int .i64 q, .int .i64 r, .int .i64 (-9223372036854775808), .int .i64 9223372036854775807, .int .i64 0] 3) ∧ (∀ g, R5 = some g → B0 < g) ∧ Sp.cnt (Sp.put M i (some z)) = i + 1 ∧ ∀ j, i + 1 ≤ j → Sp.put M i (some z) j = none) := hide ⟨(unhide H4).1.trans (hb5.below (B := w.heap.size) (by omega) (by omega) (fun g hg => by have := ((unhide H4).2.2.1.rlt g hg).1; omega)), ⟨hbx, hp_butR (unhide H4).2.1 (unhide H4).2.2.1 hbx hb5, hi5⟩, hB5, fun g hg => by
        rcases hR5 with e | e
        · exact (unhide H4).2.2.2.2 g (by rw [← e]; exact hg)
        · have := e g hg; omega, (unhide HPK).2⟩
      have hs5 := hb5.size
      clear hb5 hi5 hR5 hB5 H4 HA HPK c2
      go_wp2
      go_roundg g'
      case rel => exact ⟨i + 1, R5, _, by omega, rfl, by omega, HF⟩
      case measure => omega
    · have hiI : ¬ (i : Int) < 6 := by omega
      obtain rfl : i = 6 := by omega
      have HI2 : Hid (Below w.heap.size w wr ∧ Pr wr b x R M) := hide ⟨(unhide HI).1, (unhide HI).2.1⟩
      have HC6 := hide (unhide HI).2.2.2.2.1
      replace hsr : x + 1 ≤ wr.heap.size := by omega
      clear HI
      go_wp2
      go_loopg [11] 6 (fun g s11 wr => ∃ (i : Nat) (R : Option Nat) (M : Nat → Option Int), i + g = 6 ∧ s11 = .int .i64 (i : Int) ∧ Sp.cnt M = g ∧ x + 1 ≤ wr.heap.size ∧ Hid (Below w.heap.size w wr ∧ Pr wr b x R M))
      case atStart => exact ⟨0, R, M, by omega, rfl, unhide HC6, hsr, HI2⟩
      case round =>
        clear HI2 HC6 hsr hiI hi hig
        clear R M
        obtain ⟨i, R, M, hig, rfl, hcg, hsr, HI⟩ := hrel
        by_cases hi : i < 6
        · have hiI : (i : Int) < 6 := by omega
          obtain ⟨g', rfl⟩ : ∃ g', gk = g' + 1 := ⟨gk - 1, by omega⟩
          have HN := hide hcg
          clear hcg
          go_wp2_with fail
          go_at_call 11
          refine (htake_any M b _ (unhide HI).2.h).mono ?_
          rintro e w4 ⟨k4, r4, is4, rfl, hl4, hb4, hi4⟩
          have h4 := rf_but (unhide HI).2.r hbx hb4
          have hbw4 := hb4.on (unhide HI).1 hwb (by omega)
          have hs4 := hb4.size
          have hal := (Below.refl w4.heap.size w4).alloc (Nat.le_refl _) (.cells #[.int .i64 k4, .int .i64 r4] 30)
          have H4 : Hid (Below w.heap.size w (w4.alloc (.cells #[.int .i64 k4, .int .i64 r4] 30)) ∧ HpIs (w4.alloc (.cells #[.int .i64 k4, .int .i64 r4] 30)) b (Sp.put M k4.toNat none) ∧ RfIs (w4.alloc (.cells #[.int .i64 k4, .int .i64 r4] 30)) x R M ∧ (w4.alloc (.cells #[.int .i64 k4, .int .i64 r4] 30)).heap[w4.heap.size]? = some (.cells #[.int .i64 k4, .int .i64 r4] 30) ∧ x < w4.heap.size ∧ (∀ g, R = some g → g < w4.heap.size) ∧ (w4.alloc (.cells #[.int .i64 k4, .int .i64 r4] 30)).heap.size = w4.heap.size + 1 ∧ x + 1 ≤ w4.heap.size) := hide ⟨hbw4.alloc (by omega) _, hi4.below hal, h4.below hal, by
            show (w4.heap.push _)[w4.heap.size]? = _
            rw [Array.getElem?_push, if_pos rfl], h4.lt, fun g hg => (h4.rlt g hg).2, by show (w4.heap.push _).size = _; exact Array.size_push _, by omega⟩
          have HLe := hide hl4
          clear hl4 hb4 hi4 h4 hal hbw4 hs4 HI
          go_wp2_with fail
          obtain ⟨B1, hB1⟩ : ∃ B1, B1 = w4.heap.size := ⟨_, rfl⟩
          rw [← hB1] at H4 ⊢
          clear hB1
          generalize w4.alloc (.cells #[.int .i64 k4, .int .i64 r4] 30) = W4 at *
          go_at_call 15
          refine (rtake_any M x R W4 (unhide H4).2.2.1).mono ?_
          rintro e w5 ⟨k5, r5, is5, rfl, hl5, R', hi5, hb5, hR5⟩
          obtain ⟨rfl, rfl, rfl⟩ := hl5.uniq (unhide HLe)
          have hB5 := (hb5.block B1 (by have := (unhide H4).2.2.2.2.2.2; omega) (by have := (unhide H4).2.2.2.2.1; omega) (fun e => by have := (unhide H4).2.2.2.2.2.1 B1 e; omega)).trans (unhide H4).2.2.2.1
          have hz4 := (unhide H4).2.2.2.2.2.2
          have HF : Hid (∀ o, Below w.heap.size w (w5.alloc o) ∧ Pr (w5.alloc o) b x R' (Sp.put M k5.toNat none) ∧ x + 1 ≤ (w5.alloc o).heap.size) := hide fun o => by
            have hal := (Below.refl w5.heap.size w5).alloc (Nat.le_refl _) o
            have h5 := hb5.size
            have h6 := hal.size
            exact ⟨((unhide H4).1.trans (hb5.below (by omega) (by omega) (fun g hg => by have := ((unhide H4).2.2.1.rlt g hg).1; omega))).alloc (by omega) o, ⟨hbx, (hp_butR (unhide H4).2.1 (unhide H4).2.2.1 hbx hb5).below hal, hi5.below hal⟩, by omega⟩
          have hB5l := (Array.getElem?_eq_some_iff.1 hB5).1
          have x0 := fun o => (item_at (w := w5.alloc o) (B := B1) ((Below.heap_alloc _ _ _ hB5l).trans hB5)).1
          have x1 := fun o => (item_at (w := w5.alloc o) (B := B1) ((Below.heap_alloc _ _ _ hB5l).trans hB5)).2.1
          clear hi5 hb5 hR5 hl5 H4 hB5 hz4
          rcases (unhide HLe).pos with ⟨rfl, j, rfl, -, hcnt⟩ | ⟨-, -, -, hz, -⟩
          · have HCN := hide hcnt
            clear HLe hcnt
            go_wp2
            go_roundg g'
            case rel => exact ⟨i + 1, R', _, by omega, rfl, by have := unhide HN; have := unhide HCN; omega, (unhide HF _).2.2, hide ⟨(unhide HF _).1, (unhide HF _).2.1⟩⟩
            case measure => omega
          · exfalso
            have := unhide HN
            omega
        · have hiI : ¬ (i : Int) < 6 := by omega
          have hc0 : Sp.cnt M = 0 := by omega
          have HL := hide (hlen_any M b _ (unhide HI).2.h)
          rw [hc0] at HL
          have HF := hide (unhide HI).1
          clear HI hcg hc0
          go_wp2_with fail
          go_at_call 10
          refine (unhide HL).mono ?_
          rintro e w' ⟨rfl, hw'⟩
          have := hw'.symm
          subst this
          go_wp2
          rw [unhide HP]
          exact ⟨rfl, unhide HF⟩
end Go.Proofs.Ytfcknfodejnhnab


