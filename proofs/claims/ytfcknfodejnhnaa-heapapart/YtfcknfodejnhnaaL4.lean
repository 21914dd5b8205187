/- What the proof needs, part 4. -/
import Derived.Test.YtfcknfodejnhnaaL3
/- The reference's heap: Least, Take. -/
namespace Go.Proofs.Ytfcknfodejnhnaa
open Go Go.RowKit

/-- The least of the first i items. -/
def Sp.LM (l : List (Int × Int)) (i : Nat) (k r : Int) : Prop := (i = 0 ∧ k = 0 ∧ r = 0) ∨ (0 < i ∧ (∃ j, j < i ∧ l.getD j (0, 0) = (k, r)) ∧ ∀ j, j < i → Sp.aheadB (l.getD j (0, 0)).1 (l.getD j (0, 0)).2 k r = false)
theorem Sp.LM.take {l : List (Int × Int)} {i : Nat} {k r : Int} (h : Sp.LM l i k r) (hc : i = 0 ∨ Sp.aheadB (l.getD i (0, 0)).1 (l.getD i (0, 0)).2 k r = true) : Sp.LM l (i + 1) (l.getD i (0, 0)).1 (l.getD i (0, 0)).2 := by
  refine .inr ⟨by omega, ⟨i, by omega, rfl⟩, fun j hj => ?_⟩
  by_cases hji : j = i
  · subst hji; rw [Sp.ahead_no]; omega
  · rcases h with ⟨h0, -⟩ | ⟨h0, -, h2⟩
    · omega
    · have h3 := h2 j (by omega)
      rcases hc with hc | hc
      · omega
      · rw [Sp.ahead_yes] at hc
        rw [Sp.ahead_no] at h3 ⊢
        omega
theorem Sp.LM.stay {l : List (Int × Int)} {i : Nat} {k r : Int} (h : Sp.LM l i k r) (h0 : i ≠ 0) (hc : Sp.aheadB (l.getD i (0, 0)).1 (l.getD i (0, 0)).2 k r = false) : Sp.LM l (i + 1) k r := by
  rcases h with ⟨h1, -⟩ | ⟨-, ⟨j, hj, e⟩, h2⟩
  · omega
  · refine .inr ⟨by omega, ⟨j, by omega, e⟩, fun n hn => ?_⟩
    by_cases hni : n = i
    · rw [hni]; exact hc
    · exact h2 n (by omega)
theorem Sp.LM.least {l : List (Int × Int)} {M : Nat → Option Int} {k r : Int} (hM : Sp.RL l M) (h : Sp.LM l l.length k r) : Sp.LeastIs M k r (decide (0 < l.length)) := by
  rcases h with ⟨h0, h1, h2⟩ | ⟨h0, ⟨j, hj, e⟩, h2⟩
  · have hl : l = [] := List.eq_nil_of_length_eq_zero h0
    refine .inl ⟨decide_eq_false (by omega), h1, h2, fun i => ?_⟩
    cases hm : M i with
    | none => rfl
    | some s => have := hM.all i s hm; rw [hl] at this; cases this
  · have hmem := Sp.getD_mem2 hj
    rw [e] at hmem
    have hr := hM.rng hmem
    have hlk := hM.mem _ hmem
    obtain ⟨n, hn⟩ : ∃ n : Nat, k = (n : Int) := ⟨k.toNat, by omega⟩
    refine .inr ⟨decide_eq_true h0, n, hn, by omega, ?_, fun j' r' hm => ?_⟩
    · rw [show ((k, r) : Int × Int).1 = (n : Int) from hn, Sp.look_nat] at hlk
      exact hlk
    · obtain ⟨i, hi, e'⟩ := List.mem_iff_getElem.1 (hM.all j' r' hm)
      have := h2 i hi
      rw [List.getD_eq_getElem?_getD, List.getElem?_eq_getElem hi] at this
      simp only [Option.getD_some] at this
      rw [e'] at this
      exact this
theorem item_set {w : World} {B : Nat} {a b k r : Value} (h : w.heap[B]? = some (.cells #[a, b] 32)) : ((w.setCell ⟨B, 0, none⟩ k).setCell ⟨B, 1, none⟩ r).heap[B]? = some (.cells #[k, r] 32) := by
  have h1 : (w.setCell ⟨B, 0, none⟩ k).heap[B]? = some (.cells #[k, b] 32) := by
    simp only [World.setCell, Array.getElem?_modify, if_pos, h]; rfl
  generalize w.setCell ⟨B, 0, none⟩ k = w1 at h1
  simp only [World.setCell, Array.getElem?_modify, if_pos, h1]; rfl
theorem item_kept {w : World} {B A : Nat} {k r : Value} (h : B ≠ A) : ((w.setCell ⟨B, 0, none⟩ k).setCell ⟨B, 1, none⟩ r).heap[A]? = w.heap[A]? := by
  rw [Below.heap_setCell _ _ _ _ (by show A ≠ B; omega), Below.heap_setCell _ _ _ _ (by show A ≠ B; omega)]
set_option maxRecDepth 100000 in
set_option maxHeartbeats 8000000 in
theorem rleast_any (M : Nat → Option Int) (x : Nat) (R : Option Nat) (w : World) (h : RfIs w x R M) :
    Calls Try.prog 17 #[.pointer (some ⟨x, 0, none⟩)] w fun e w' => ∃ k r is, e = .returned (.tuple #[.agg #[.int .i64 k, .int .i64 r], .bool is]) ∧ Sp.LeastIs M k r is ∧ Below w.heap.size w w' := by
  obtain ⟨v, l, h1, h2⟩ := h
  have hle : l.length ≤ 300 := by rw [h2.len]; exact Sp.cnt_le M
  have hxl := h1.lt
  have HV : Hid (∀ w', Below w.heap.size w w' → Rf w' x R v l) := hide fun w' hb => h1.below hb
  obtain ⟨a, c, rfl, -, -, -⟩ := h1.form
  have HRL := hide h2
  obtain ⟨A, hA⟩ : ∃ A, w.heap.size = A := ⟨_, rfl⟩
  have HI0 : Hid (Below w.heap.size w ((w.alloc (.cells #[.int .i64 0, .int .i64 0] 32)).alloc (.cells #[.int .i64 0, .int .i64 0] 32)) ∧ ((w.alloc (.cells #[.int .i64 0, .int .i64 0] 32)).alloc (.cells #[.int .i64 0, .int .i64 0] 32)).heap[A]? = some (.cells #[.int .i64 0, .int .i64 0] 32) ∧ ((w.alloc (.cells #[.int .i64 0, .int .i64 0] 32)).alloc (.cells #[.int .i64 0, .int .i64 0] 32)).heap[A + 1]? = some (.cells #[.int .i64 0, .int .i64 0] 32) ∧ Sp.LM l 0 0 0) := hide (by
    have e1 : (w.alloc (.cells #[.int .i64 0, .int .i64 0] 32)).heap.size = A + 1 := by rw [← hA]; show (w.heap.push _).size = _; exact Array.size_push _
    refine ⟨((Below.refl _ w).alloc (Nat.le_refl _) _).alloc (by omega) _, ?_, ?_, .inl ⟨rfl, rfl, rfl⟩⟩
    · rw [Below.heap_alloc _ _ _ (by omega), ← hA]
      show (w.heap.push _)[w.heap.size]? = _
      rw [Array.getElem?_push, if_pos rfl]
    · rw [← e1]
      generalize w.alloc (.cells #[.int .i64 0, .int .i64 0] 32) = W
      show (W.heap.push _)[W.heap.size]? = _
      rw [Array.getElem?_push, if_pos rfl])
  clear h1 h2
  obtain ⟨P, hP⟩ : ∃ P : Ending → World → Prop, P = fun e w' => ∃ k r is, e = .returned (.tuple #[.agg #[.int .i64 k, .int .i64 r], .bool is]) ∧ Sp.LeastIs M k r is ∧ Below w.heap.size w w' := ⟨_, rfl⟩
  rw [← hP]
  have HP := hide hP
  clear hP
  go_enter Try.func17, Try.ntmps17
  go_wp2
  have hs2 : A + 2 ≤ ((w.alloc (.cells #[.int .i64 0, .int .i64 0] 32)).alloc (.cells #[.int .i64 0, .int .i64 0] 32)).heap.size := by
    have := (Array.getElem?_eq_some_iff.1 (unhide HI0).2.2.1).1
    omega
  generalize (w.alloc (.cells #[.int .i64 0, .int .i64 0] 32)).alloc (.cells #[.int .i64 0, .int .i64 0] 32) = W2 at *
  have HA := hide hA
  rw [hA] at HI0 HV HP
  clear hA
  go_loopg [5] l.length (fun g s5 wr => ∃ (i : Nat) (k r : Int), i + g = l.length ∧ s5 = .int .i64 (i : Int) ∧ A + 2 ≤ wr.heap.size ∧ Hid (Below A w wr ∧ wr.heap[A]? = some (.cells #[.int .i64 0, .int .i64 0] 32) ∧ wr.heap[A + 1]? = some (.cells #[.int .i64 k, .int .i64 r] 32) ∧ Sp.LM l i k r))
  case atStart => exact ⟨0, 0, 0, by omega, rfl, hs2, HI0⟩
  case round =>
    clear HI0 hs2
    obtain ⟨i, k, r, hig, rfl, hsr, HI⟩ := hrel
    have hxA : x < A := by rw [← unhide HA]; exact hxl
    have hRf := unhide HV wr (unhide HI).1
    have c0 := hRf.cell.1
    by_cases hi : i < l.length
    · have hiI : (i : Int) < (l.length : Int) := by omega
      obtain ⟨g', rfl⟩ : ∃ g', gk = g' + 1 := ⟨gk - 1, by omega⟩
      obtain ⟨a', c', e', -, -, HC⟩ := hRf.form
      injection e' with e1 _ e2
      subst e1 e2
      obtain ⟨g, rfl, -, d0, d1, -⟩ := unhide HC i hi
      have gk0 : ∀ o : Obj, (wr.alloc o).cell? ⟨x, 0, none⟩ = some (.slice (some ⟨g, 0, none⟩) l.length c) := fun o => (hRf.below ((Below.refl _ wr).alloc (Nat.le_refl _) o)).cell.1
      have HLM := hide (unhide HI).2.2.2
      have hB1 : ∀ o : Obj, (wr.alloc o).heap[A + 1]? = some (.cells #[.int .i64 k, .int .i64 r] 32) := fun o => by rw [Below.heap_alloc _ _ _ (by omega)]; exact (unhide HI).2.2.1
      have hB0 : ∀ o : Obj, (wr.alloc o).heap[A]? = some (.cells #[.int .i64 0, .int .i64 0] 32) := fun o => by rw [Below.heap_alloc _ _ _ (by omega)]; exact (unhide HI).2.1
      have hBb : ∀ o : Obj, Below A w (wr.alloc o) := fun o => (unhide HI).1.alloc (by omega) o
      have HB := hide (And.intro hBb (And.intro hB0 hB1))
      have m0 := fun o => (item_at (hB1 o)).1
      have m1 := fun o => (item_at (hB1 o)).2.1
      have mf := fun o => (item_at (hB1 o)).2.2
      have m1' := fun o (v : Value) => show ((wr.alloc o).setCell ⟨A + 1, 0, none⟩ v).cell? ⟨A + 1, 1, none⟩ = some (.int .i64 r) by rw [cell_set_ne (by omega)]; exact m1 o
      have HZ : ∀ o : Obj, A + 2 ≤ (wr.alloc o).heap.size := fun o => Nat.le_trans hsr ((Below.refl wr.heap.size wr).alloc (Nat.le_refl _) o).size
      have HZ2 := hide HZ
      clear hB0 hB1 hBb HZ HC hRf
      have HT := hide (fun hc => (unhide HLM).take hc)
      have HSt := hide (fun h0 hc => (unhide HLM).stay h0 hc)
      clear HI HLM
      generalize (l.getD i (0, 0)).1 = k' at *
      generalize (l.getD i (0, 0)).2 = r' at *
      have hA1 : A + 1 ≠ wr.heap.size := by omega
      by_cases hi0 : i = 0
      · subst hi0
        have hlm := unhide HT (.inl rfl)
        have HF := hide (show ∀ o : Obj, Below A w (((wr.alloc o).setCell ⟨A + 1, 0, none⟩ (.int .i64 k')).setCell ⟨A + 1, 1, none⟩ (.int .i64 r')) ∧ (((wr.alloc o).setCell ⟨A + 1, 0, none⟩ (.int .i64 k')).setCell ⟨A + 1, 1, none⟩ (.int .i64 r')).heap[A]? = some (.cells #[.int .i64 0, .int .i64 0] 32) ∧ (((wr.alloc o).setCell ⟨A + 1, 0, none⟩ (.int .i64 k')).setCell ⟨A + 1, 1, none⟩ (.int .i64 r')).heap[A + 1]? = some (.cells #[.int .i64 k', .int .i64 r'] 32) ∧ Sp.LM l (0 + 1) k' r' from fun o => ⟨(((unhide HB).1 o).setCell (p := ⟨A + 1, 0, none⟩) (Nat.le_succ _) _).setCell (p := ⟨A + 1, 1, none⟩) (Nat.le_succ _) _, (item_kept (by omega)).trans ((unhide HB).2.1 o), item_set ((unhide HB).2.2 o), hlm⟩)
        have HZ3 := hide (show ∀ o : Obj, A + 2 ≤ (((wr.alloc o).setCell ⟨A + 1, 0, none⟩ (.int .i64 k')).setCell ⟨A + 1, 1, none⟩ (.int .i64 r')).heap.size from fun o => by
          have e : (((wr.alloc o).setCell ⟨A + 1, 0, none⟩ (.int .i64 k')).setCell ⟨A + 1, 1, none⟩ (.int .i64 r')).heap.size = (wr.alloc o).heap.size := by simp only [World.setCell, Array.size_modify]
          rw [e]; exact unhide HZ2 o)
        clear hlm HB
        go_wp2
        go_roundg g'
        case rel => exact ⟨0 + 1, k', r', by omega, rfl, unhide HZ3 _, hide (unhide HF _)⟩
        case measure => omega
      · have hi0b : ((i : Int) == 0) = false := beq_eq_false_iff_ne.2 (by omega)
        by_cases hr : r' < r
        · have hlm := unhide HT (.inr (by rw [Sp.ahead_yes]; omega))
          have HF := hide (show ∀ o : Obj, Below A w (((wr.alloc o).setCell ⟨A + 1, 0, none⟩ (.int .i64 k')).setCell ⟨A + 1, 1, none⟩ (.int .i64 r')) ∧ (((wr.alloc o).setCell ⟨A + 1, 0, none⟩ (.int .i64 k')).setCell ⟨A + 1, 1, none⟩ (.int .i64 r')).heap[A]? = some (.cells #[.int .i64 0, .int .i64 0] 32) ∧ (((wr.alloc o).setCell ⟨A + 1, 0, none⟩ (.int .i64 k')).setCell ⟨A + 1, 1, none⟩ (.int .i64 r')).heap[A + 1]? = some (.cells #[.int .i64 k', .int .i64 r'] 32) ∧ Sp.LM l (i + 1) k' r' from fun o => ⟨(((unhide HB).1 o).setCell (p := ⟨A + 1, 0, none⟩) (Nat.le_succ _) _).setCell (p := ⟨A + 1, 1, none⟩) (Nat.le_succ _) _, (item_kept (by omega)).trans ((unhide HB).2.1 o), item_set ((unhide HB).2.2 o), hlm⟩)
          have HZ3 := hide (show ∀ o : Obj, A + 2 ≤ (((wr.alloc o).setCell ⟨A + 1, 0, none⟩ (.int .i64 k')).setCell ⟨A + 1, 1, none⟩ (.int .i64 r')).heap.size from fun o => by
            have e : (((wr.alloc o).setCell ⟨A + 1, 0, none⟩ (.int .i64 k')).setCell ⟨A + 1, 1, none⟩ (.int .i64 r')).heap.size = (wr.alloc o).heap.size := by simp only [World.setCell, Array.size_modify]
            rw [e]; exact unhide HZ2 o)
          clear hlm HB
          go_wp2
          go_roundg g'
          case rel => exact ⟨i + 1, k', r', by omega, rfl, unhide HZ3 _, hide (unhide HF _)⟩
          case measure => omega
        · by_cases hre : r' = r
          · subst hre
            by_cases hk : k' < k
            · have hlm := unhide HT (.inr (by rw [Sp.ahead_yes]; omega))
              have HF := hide (show ∀ o : Obj, Below A w (((wr.alloc o).setCell ⟨A + 1, 0, none⟩ (.int .i64 k')).setCell ⟨A + 1, 1, none⟩ (.int .i64 r')) ∧ (((wr.alloc o).setCell ⟨A + 1, 0, none⟩ (.int .i64 k')).setCell ⟨A + 1, 1, none⟩ (.int .i64 r')).heap[A]? = some (.cells #[.int .i64 0, .int .i64 0] 32) ∧ (((wr.alloc o).setCell ⟨A + 1, 0, none⟩ (.int .i64 k')).setCell ⟨A + 1, 1, none⟩ (.int .i64 r')).heap[A + 1]? = some (.cells #[.int .i64 k', .int .i64 r'] 32) ∧ Sp.LM l (i + 1) k' r' from fun o => ⟨(((unhide HB).1 o).setCell (p := ⟨A + 1, 0, none⟩) (Nat.le_succ _) _).setCell (p := ⟨A + 1, 1, none⟩) (Nat.le_succ _) _, (item_kept (by omega)).trans ((unhide HB).2.1 o), item_set ((unhide HB).2.2 o), hlm⟩)
              have HZ3 := hide (show ∀ o : Obj, A + 2 ≤ (((wr.alloc o).setCell ⟨A + 1, 0, none⟩ (.int .i64 k')).setCell ⟨A + 1, 1, none⟩ (.int .i64 r')).heap.size from fun o => by
                have e : (((wr.alloc o).setCell ⟨A + 1, 0, none⟩ (.int .i64 k')).setCell ⟨A + 1, 1, none⟩ (.int .i64 r')).heap.size = (wr.alloc o).heap.size := by simp only [World.setCell, Array.size_modify]
                rw [e]; exact unhide HZ2 o)
              clear hlm HB
              go_wp2
              go_roundg g'
              case rel => exact ⟨i + 1, k', r', by omega, rfl, unhide HZ3 _, hide (unhide HF _)⟩
              case measure => omega
            · have hlm := unhide HSt hi0 (by rw [Sp.ahead_no]; omega)
              have HF := hide (show ∀ o : Obj, Below A w (wr.alloc o) ∧ (wr.alloc o).heap[A]? = some (.cells #[.int .i64 0, .int .i64 0] 32) ∧ (wr.alloc o).heap[A + 1]? = some (.cells #[.int .i64 k, .int .i64 r'] 32) ∧ Sp.LM l (i + 1) k r' from fun o => ⟨(unhide HB).1 o, (unhide HB).2.1 o, (unhide HB).2.2 o, hlm⟩)
              clear hlm HB
              go_wp2
              go_roundg g'
              case rel => exact ⟨i + 1, k, r', by omega, rfl, unhide HZ2 _, hide (unhide HF _)⟩
              case measure => omega
          · have hreb : (r' == r) = false := beq_eq_false_iff_ne.2 hre
            have hlm := unhide HSt hi0 (by rw [Sp.ahead_no]; omega)
            have HF := hide (show ∀ o : Obj, Below A w (wr.alloc o) ∧ (wr.alloc o).heap[A]? = some (.cells #[.int .i64 0, .int .i64 0] 32) ∧ (wr.alloc o).heap[A + 1]? = some (.cells #[.int .i64 k, .int .i64 r] 32) ∧ Sp.LM l (i + 1) k r from fun o => ⟨(unhide HB).1 o, (unhide HB).2.1 o, (unhide HB).2.2 o, hlm⟩)
            clear hlm HB
            go_wp2
            go_roundg g'
            case rel => exact ⟨i + 1, k, r, by omega, rfl, unhide HZ2 _, hide (unhide HF _)⟩
            case measure => omega
    · have hiI : ¬ (i : Int) < (l.length : Int) := by omega
      obtain rfl : i = l.length := by omega
      have HLe := hide (Sp.LM.least (unhide HRL) (unhide HI).2.2.2)
      obtain ⟨m0, m1, -⟩ := item_at (unhide HI).2.2.1
      obtain ⟨y0, y1, yf⟩ := item_at (unhide HI).2.1
      have y1' := fun (v : Value) => show (wr.setCell ⟨A, 0, none⟩ v).cell? ⟨A, 1, none⟩ = some (.int .i64 0) by rw [cell_set_ne (by omega)]; exact y1
      have r0' := show ((wr.setCell ⟨A, 0, none⟩ (.int .i64 k)).setCell ⟨A, 1, none⟩ (.int .i64 r)).cell? ⟨A, 0, none⟩ = some (.int .i64 k) by rw [cell_set_ne (by omega)]; exact cell_set_eq y0
      have r1' := show ((wr.setCell ⟨A, 0, none⟩ (.int .i64 k)).setCell ⟨A, 1, none⟩ (.int .i64 r)).cell? ⟨A, 1, none⟩ = some (.int .i64 r) from cell_set_eq (y1' _)
      have HF := hide ((((unhide HI).1.setCell (p := ⟨A, 0, none⟩) (Nat.le_refl _) (.int .i64 k)).setCell (p := ⟨A, 1, none⟩) (Nat.le_refl _) (.int .i64 r)).drew)
      clear HI hRf
      have hxA' : x ≠ A := by omega
      generalize l.length = n at *
      go_wp2_with fail
      go_region
      go_wp2
      refine bodyPost_ret (v := .tuple #[.agg #[.int .i64 k, .int .i64 r], .bool (decide (0 < n))]) (by simp [results, Try.results17, go_sem, r0', r1']) rfl ?_
      rw [unhide HP]
      exact ⟨_, _, _, rfl, unhide HLe, unhide HF⟩
end Go.Proofs.Ytfcknfodejnhnaa


/- The reference's heap: Take. -/
namespace Go.Proofs.Ytfcknfodejnhnaa
open Go Go.RowKit

theorem ButR.trans' {x : Nat} {R : Option Nat} {u w w' : World} (h : ButR x R u w) (k : Below u.heap.size w w') : ButR x R u w' :=
  ⟨k.os.trans h.os, k.tape.trans h.tape, k.output.trans h.output, Nat.le_trans h.size k.size, fun i hi hx hR => (k.block i hi).trans (h.block i hi hx hR)⟩
set_option maxRecDepth 100000 in
set_option maxHeartbeats 4000000 in
theorem rtake_any (M : Nat → Option Int) (x : Nat) (R : Option Nat) (w : World) (h : RfIs w x R M) :
    Calls Try.prog 24 #[.pointer (some ⟨x, 0, none⟩)] w fun e w' => ∃ k r is, e = .returned (.tuple #[.agg #[.int .i64 k, .int .i64 r], .bool is]) ∧ Sp.LeastIs M k r is ∧ ∃ R', RfIs w' x R' (Sp.put M k.toNat none) ∧ ButR x R w w' ∧ (R' = R ∨ ∀ g, R' = some g → w.heap.size ≤ g) := by
  have hxl := h.lt
  have H0 := hide h
  have HR := hide h.rlt
  have HW : Hid (∀ w', Below (w.heap.size + 1) (w.alloc (.cells #[.int .i64 0, .int .i64 0] 32)) w' → Below w.heap.size w w' ∧ w'.heap[w.heap.size]? = some (.cells #[.int .i64 0, .int .i64 0] 32) ∧ RfIs w' x R M ∧ w.heap.size + 1 ≤ w'.heap.size) := hide fun w' hb' => by
    have hb1 : Below w.heap.size w (w.alloc (.cells #[.int .i64 0, .int .i64 0] 32)) := (Below.refl _ w).alloc (Nat.le_refl _) _
    have hb2 := hb1.trans (hb'.mono (Nat.le_succ _))
    refine ⟨hb2, ?_, h.below hb2, by have := hb'.size; simp at this; omega⟩
    rw [hb'.block _ (Nat.lt_succ_self _)]
    show (w.heap.push _)[w.heap.size]? = _
    rw [Array.getElem?_push, if_pos rfl]
  have hs : (w.alloc (.cells #[.int .i64 0, .int .i64 0] 32)).heap.size = w.heap.size + 1 := by show (w.heap.push _).size = _; exact Array.size_push _
  have hL0 := rleast_any M x R _ (unhide HW _ (Below.refl _ _)).2.2.1
  rw [hs] at hL0
  have HL0 := hide hL0
  clear hL0 hs h
  obtain ⟨P, hP⟩ : ∃ P : Ending → World → Prop, P = fun e w' => ∃ k r is, e = .returned (.tuple #[.agg #[.int .i64 k, .int .i64 r], .bool is]) ∧ Sp.LeastIs M k r is ∧ ∃ R', RfIs w' x R' (Sp.put M k.toNat none) ∧ ButR x R w w' ∧ (R' = R ∨ ∀ g, R' = some g → w.heap.size ≤ g) := ⟨_, rfl⟩
  rw [← hP]
  have HP := hide hP
  clear hP
  go_enter Try.func24, Try.ntmps24
  go_wp2_with fail
  go_at_call 17
  generalize w.alloc (.cells #[.int .i64 0, .int .i64 0] 32) = W0 at *
  refine (unhide HL0).mono ?_
  rintro e w2 ⟨k, r, is, rfl, hl2, hb2⟩
  obtain ⟨hb3, hB3, hp3, hs3⟩ := unhide HW _ hb2
  have HLe := hide hl2
  have hI1 : (w2.alloc (.cells #[.int .i64 k, .int .i64 r] 32)).heap[w2.heap.size]? = some (.cells #[.int .i64 k, .int .i64 r] 32) := by
    show (w2.heap.push _)[w2.heap.size]? = _
    rw [Array.getElem?_push, if_pos rfl]
  have hI2 : (w2.alloc (.cells #[.int .i64 k, .int .i64 r] 32)).heap[w.heap.size]? = some (.cells #[.int .i64 0, .int .i64 0] 32) := by
    rw [Below.heap_alloc _ _ _ (by omega)]; exact hB3
  have hI3 : Below w.heap.size w (w2.alloc (.cells #[.int .i64 k, .int .i64 r] 32)) := hb3.alloc (by omega) _
  have hI4 : RfIs (w2.alloc (.cells #[.int .i64 k, .int .i64 r] 32)) x R M := hp3.below ((Below.refl _ w2).alloc (Nat.le_refl _) _)
  have hI5 : (w2.alloc (.cells #[.int .i64 k, .int .i64 r] 32)).heap.size = w2.heap.size + 1 := by show (w2.heap.push _).size = _; exact Array.size_push _
  rcases hl2.pos with ⟨rfl, j, rfl, -, -⟩ | ⟨rfl, rfl, rfl, -, he⟩
  · obtain ⟨p0, p1, -⟩ := item_at hI1
    have HRd := hide (rdrop_any M x R (j : Int) _ hI4)
    have HD : Hid (Sp.dropK M (j : Int) = Sp.put M ((j : Int)).toNat none) := hide (by rw [Sp.dropK, if_pos (by omega)])
    have HJ := hide (And.intro hI1 (And.intro hI2 (And.intro hI3 hI5)))
    clear hI1 hI2 hI3 hI4 hI5 hl2 hb2 hb3 hB3 hp3
    go_wp2_with fail
    generalize w2.alloc (.cells #[.int .i64 (j : Int), .int .i64 r] 32) = W3 at *
    go_at_call 23
    refine (unhide HRd).mono ?_
    rintro e w4 ⟨rfl, R', hi4, hb4, hR4⟩
    have hs4 := (unhide HJ).2.2.2
    have hg4 := hb4.size
    have hRB : R ≠ some w2.heap.size := fun e => by have := (unhide HR _ e).2; omega
    have hRA : R ≠ some w.heap.size := fun e => by have := (unhide HR _ e).2; omega
    obtain ⟨x0, x1, -⟩ := item_at (w := w4) (B := w2.heap.size) ((hb4.block _ (by omega) (by omega) hRB).trans (unhide HJ).1)
    have hA4 := (hb4.block w.heap.size (by omega) (by omega) hRA).trans (unhide HJ).2.1
    obtain ⟨y0, y1, yf⟩ := item_at hA4
    have y1' := fun v : Value => show (w4.setCell ⟨w.heap.size, 0, none⟩ v).cell? ⟨w.heap.size, 1, none⟩ = some (.int .i64 0) by rw [cell_set_ne (by omega)]; exact y1
    rw [unhide HD] at hi4
    have HQ : Hid (∀ v v', RfIs ((w4.setCell ⟨w.heap.size, 0, none⟩ v).setCell ⟨w.heap.size, 1, none⟩ v') x R' (Sp.put M ((j : Int)).toNat none) ∧ ButR x R w ((w4.setCell ⟨w.heap.size, 0, none⟩ v).setCell ⟨w.heap.size, 1, none⟩ v') ∧ (R' = R ∨ ∀ g, R' = some g → w.heap.size ≤ g)) := hide fun v v' => by
      have hRg : ∀ g, R' = some g → g ≠ w.heap.size := fun g hg e => by
        rcases hR4 with h5 | h5
        · exact hRA (by rw [← h5, hg, e])
        · have := h5 g hg; omega
      refine ⟨hi4.keep (item_kept (by omega)) (fun g hg => item_kept (fun e => hRg g hg e.symm)), ?_, ?_⟩
      · exact ((((ButR.of (unhide HJ).2.2.1).trans hb4 (.inl rfl)).trans' ((Below.refl _ w4).setCell (p := ⟨w.heap.size, 0, none⟩) (Nat.le_refl _) v))).trans' ((Below.refl _ _).setCell (p := ⟨w.heap.size, 1, none⟩) (Nat.le_refl _) v')
      · rcases hR4 with h5 | h5
        · exact .inl h5
        · exact .inr fun g hg => by have := h5 g hg; omega
    have r0' := show ((w4.setCell ⟨w.heap.size, 0, none⟩ (.int .i64 (j : Int))).setCell ⟨w.heap.size, 1, none⟩ (.int .i64 r)).cell? ⟨w.heap.size, 0, none⟩ = some (.int .i64 (j : Int)) by rw [cell_set_ne (by omega)]; exact cell_set_eq y0
    have r1' := show ((w4.setCell ⟨w.heap.size, 0, none⟩ (.int .i64 (j : Int))).setCell ⟨w.heap.size, 1, none⟩ (.int .i64 r)).cell? ⟨w.heap.size, 1, none⟩ = some (.int .i64 r) from cell_set_eq (y1' _)
    clear hb4 hi4 hR4 hs4 hg4 hA4 HRd HJ p0 p1 hRA hRB
    go_wp2
    refine bodyPost_ret (v := .tuple #[.agg #[.int .i64 (j : Int), .int .i64 r], .bool true]) (by simp [results, Try.results24, go_sem, r0', r1']) rfl ?_
    rw [unhide HP]
    exact ⟨_, _, _, rfl, unhide HLe, R', unhide HQ _ _⟩
  · obtain ⟨x0, x1, -⟩ := item_at hI1
    obtain ⟨y0, y1, yf⟩ := item_at hI2
    have y1' := fun v : Value => show ((w2.alloc (.cells #[.int .i64 0, .int .i64 0] 32)).setCell ⟨w.heap.size, 0, none⟩ v).cell? ⟨w.heap.size, 1, none⟩ = some (.int .i64 0) by rw [cell_set_ne (by omega)]; exact y1
    have HQ : Hid (∀ v v', RfIs (((w2.alloc (.cells #[.int .i64 0, .int .i64 0] 32)).setCell ⟨w.heap.size, 0, none⟩ v).setCell ⟨w.heap.size, 1, none⟩ v') x R M ∧ ButR x R w (((w2.alloc (.cells #[.int .i64 0, .int .i64 0] 32)).setCell ⟨w.heap.size, 0, none⟩ v).setCell ⟨w.heap.size, 1, none⟩ v')) := hide fun v v' => by
      refine ⟨hI4.keep (item_kept (by omega)) (fun g hg => item_kept (by have := (unhide HR g hg).2; omega)), ?_⟩
      exact (((ButR.of hI3).trans' ((Below.refl _ _).setCell (p := ⟨w.heap.size, 0, none⟩) (Nat.le_refl _) v))).trans' ((Below.refl _ _).setCell (p := ⟨w.heap.size, 1, none⟩) (Nat.le_refl _) v')
    have r0' := show (((w2.alloc (.cells #[.int .i64 0, .int .i64 0] 32)).setCell ⟨w.heap.size, 0, none⟩ (.int .i64 0)).setCell ⟨w.heap.size, 1, none⟩ (.int .i64 0)).cell? ⟨w.heap.size, 0, none⟩ = some (.int .i64 0) by rw [cell_set_ne (by omega)]; exact cell_set_eq y0
    have r1' := show (((w2.alloc (.cells #[.int .i64 0, .int .i64 0] 32)).setCell ⟨w.heap.size, 0, none⟩ (.int .i64 0)).setCell ⟨w.heap.size, 1, none⟩ (.int .i64 0)).cell? ⟨w.heap.size, 1, none⟩ = some (.int .i64 0) from cell_set_eq (y1' _)
    have HE := hide he
    clear hI1 hI2 hI3 hI4 hI5 hl2 hb2 hb3 hB3 hp3 he
    go_wp2
    refine bodyPost_ret (v := .tuple #[.agg #[.int .i64 0, .int .i64 0], .bool false]) (by simp [results, Try.results24, go_sem, r0', r1']) rfl ?_
    rw [unhide HP]
    exact ⟨_, _, _, rfl, unhide HLe, R, by rw [unhide HE]; exact (unhide HQ _ _).1, (unhide HQ _ _).2, .inl rfl⟩
end Go.Proofs.Ytfcknfodejnhnaa


/- The laws of heaps: step. -/
namespace Go.Proofs.Ytfcknfodejnhnaa
open Go Go.RowKit

/-- All but the two heaps is as it was. -/
structure ButS (b x : Nat) (R : Option Nat) (w w' : World) : Prop where
  os : w'.os = w.os
  tape : w'.tape = w.tape
  output : w'.output = w.output
  size : w.heap.size ≤ w'.heap.size
  block : ∀ k, k < w.heap.size → k ≠ b → k ≠ x → R ≠ some k → w'.heap[k]? = w.heap[k]?
theorem ButS.of {b x : Nat} {R : Option Nat} {w w' : World} (h : Below w.heap.size w w') : ButS b x R w w' := ⟨h.os, h.tape, h.output, h.size, fun k hk _ _ _ => h.block k hk⟩
theorem ButS.trans {b x : Nat} {R R' : Option Nat} {u v w : World} (h : ButS b x R u v) (k : ButS b x R' v w) (hR : R' = R ∨ ∀ g, R' = some g → u.heap.size ≤ g) : ButS b x R u w :=
  ⟨k.os.trans h.os, k.tape.trans h.tape, k.output.trans h.output, Nat.le_trans h.size k.size, fun i hi hb hx hr => (k.block i (Nat.lt_of_lt_of_le hi h.size) hb hx (fun e => by
    rcases hR with hR | hR
    · exact hr (by rw [← hR]; exact e)
    · have := hR i e; omega)).trans (h.block i hi hb hx hr)⟩
theorem ButS.ofB {b x : Nat} {R : Option Nat} {w w' : World} (h : But b w w') : ButS b x R w w' := ⟨h.os, h.tape, h.output, h.size, fun k hk hb _ _ => h.block k hk hb⟩
theorem ButS.ofR {b x : Nat} {R : Option Nat} {w w' : World} (h : ButR x R w w') : ButS b x R w w' := ⟨h.os, h.tape, h.output, h.size, fun k hk _ hx hR => h.block k hk hx hR⟩
/-- Two heaps, the program's and the reference's, that hold the same. -/
structure Pr (w : World) (b x : Nat) (R : Option Nat) (M : Nat → Option Int) : Prop where
  bx : b < x
  h : HpIs w b M
  r : RfIs w x R M
theorem Pr.below {w w' : World} {b x : Nat} {R : Option Nat} {M : Nat → Option Int} (p : Pr w b x R M) (hb : Below w.heap.size w w') : Pr w' b x R M := ⟨p.bx, p.h.below hb, p.r.below hb⟩
theorem rf_but {w w' : World} {b x : Nat} {R : Option Nat} {M : Nat → Option Int} (h : RfIs w x R M) (hbx : b < x) (k : But b w w') : RfIs w' x R M :=
  h.keep (k.block _ h.lt (by omega)) fun g hg => k.block _ (h.rlt g hg).2 (by have := (h.rlt g hg).1; omega)
theorem hp_butR {w w' : World} {b x : Nat} {R : Option Nat} {M N : Nat → Option Int} (h : HpIs w b M) (hr : RfIs w x R N) (hbx : b < x) (k : ButR x R w w') : HpIs w' b M :=
  h.of_block (k.block _ h.lt (by omega) (fun e => by have := (hr.rlt b e).1; omega))
set_option maxRecDepth 100000 in
set_option maxHeartbeats 8000000 in
theorem step5_any (n raw : Int) (b x : Nat) (R : Option Nat) (M : Nat → Option Int) (w : World) (h : Pr w b x R M) (hn0 : 0 ≤ n) (hn1 : n < 1099511627776) :
    Calls Try.prog 12 #[.pointer (some ⟨b, 0, none⟩), .pointer (some ⟨x, 0, none⟩), .int .i64 n, .int .i64 raw] w fun e w' => e = .returned (.bool true) ∧ ∃ R' M', Pr w' b x R' M' ∧ ButS b x R w w' ∧ (R' = R ∨ ∀ g, R' = some g → w.heap.size ≤ g) := by
  have H0 := hide h
  clear h
  obtain ⟨P, hP⟩ : ∃ P : Ending → World → Prop, P = fun e w' => e = .returned (.bool true) ∧ ∃ R' M', Pr w' b x R' M' ∧ ButS b x R w w' ∧ (R' = R ∨ ∀ g, R' = some g → w.heap.size ≤ g) := ⟨_, rfl⟩
  rw [← hP]
  have HP := hide hP
  clear hP
  have hk : n.tdiv 16 = n / 16 := Int.tdiv_eq_ediv_of_nonneg hn0
  obtain ⟨k, hkk⟩ : ∃ k, n.tdiv 16 = k := ⟨_, rfl⟩
  have hk0 : 0 ≤ k := by omega
  have hk1 : k < 68719476736 := by omega
  clear hk
  obtain ⟨z, hz⟩ : ∃ z, (w.alloc (.cells #[.int .i64 (-1), .int .i64 299, .int .i64 300, .int .i64 raw] 3)).cell? ⟨w.heap.size, (k / 37 % 4).toNat, none⟩ = some (.int .i64 z) := by
    have e : (w.alloc (.cells #[.int .i64 (-1), .int .i64 299, .int .i64 300, .int .i64 raw] 3)).heap[w.heap.size]? = some (.cells #[.int .i64 (-1), .int .i64 299, .int .i64 300, .int .i64 raw] 3) := by
      show (w.heap.push _)[w.heap.size]? = _
      rw [Array.getElem?_push, if_pos rfl]
    simp only [World.cell?, e]
    rcases (show (k / 37 % 4).toNat = 0 ∨ (k / 37 % 4).toNat = 1 ∨ (k / 37 % 4).toNat = 2 ∨ (k / 37 % 4).toNat = 3 by omega) with h | h | h | h <;> rw [h]
    · exact ⟨-1, rfl⟩
    · exact ⟨299, rfl⟩
    · exact ⟨300, rfl⟩
    · exact ⟨raw, rfl⟩
  have HB : Hid (Below w.heap.size w (w.alloc (.cells #[.int .i64 (-1), .int .i64 299, .int .i64 300, .int .i64 raw] 3))) := hide ((Below.refl _ w).alloc (Nat.le_refl _) _)
  go_enter Try.func12, Try.ntmps12
  go_upto_if 26 with fail
  go_cut [10] (fun s10 wx => ∃ key, s10 = .int .i64 key ∧ Hid (Below w.heap.size w wx))
  case first =>
    by_cases hz : k % 37 = 0
    · go_wp2
      go_meet
      exact ⟨_, rfl, HB⟩
    · go_wp2
      go_meet
      exact ⟨_, rfl, hide (Below.refl _ _)⟩
  case rest =>
    obtain ⟨key, rfl, HBc⟩ := hcut
    clear HB hz
    clear z
    go_upto_if 39 with fail
    go_cut [11] (fun s11 wx => ∃ rank, s11 = .int .i64 rank ∧ wx = wc)
    case first =>
      by_cases hz : k % 41 = 0
      · go_wp2
        go_meet
        exact ⟨_, rfl, rfl⟩
      · go_wp2
        go_meet
        exact ⟨_, rfl, rfl⟩
    case rest =>
      obtain ⟨rank, rfl, hwx⟩ := hcut
      rename_i wd
      subst hwx
      have H1 := hide ((unhide H0).below (unhide HBc))
      have hm0 : 0 ≤ n % 16 := by omega
      have hm1 : n % 16 < 16 := by omega
      rcases (show n % 16 = 0 ∨ n % 16 = 1 ∨ n % 16 = 2 ∨ n % 16 = 3 ∨ n % 16 = 4 ∨ n % 16 = 5 ∨ n % 16 = 6 ∨ n % 16 = 7 ∨ n % 16 = 8 ∨ n % 16 = 9 ∨ n % 16 = 10 ∨ n % 16 = 11 ∨ n % 16 = 12 ∨ n % 16 = 13 ∨ n % 16 = 14 ∨ n % 16 = 15 by omega) with hm | hm | hm | hm | hm | hm | hm | hm | hm | hm | hm | hm | hm | hm | hm | hm
      · clear hm0 hm1
        obtain ⟨d, hd⟩ : ∃ d, decide (0 ≤ key ∧ key < 300) = d := ⟨_, rfl⟩
        have hA := hput_any M b key rank _ (unhide H1).h
        rw [hd] at hA
        have HA := hide hA
        have HD := hide hd
        clear hA hd
        go_wp2_with fail
        go_at_call 18
        refine (unhide HA).mono ?_
        rintro e w4 ⟨rfl, hb4, hi4⟩
        have h4 := rf_but (unhide H1).r (unhide H1).bx hb4
        have H4 := hide (And.intro hb4 (And.intro hi4 h4))
        clear hb4 hi4 h4
        go_wp2_with fail
        have hB := rput_any M x R key rank w4 (unhide H4).2.2
        rw [unhide HD] at hB
        go_at_call 21
        refine hB.mono ?_
        clear hB
        rintro e w5 ⟨rfl, R', hi5, hb5, hR5⟩
        have HF : Hid (∃ R' M', Pr w5 b x R' M' ∧ ButS b x R w w5 ∧ (R' = R ∨ ∀ g, R' = some g → w.heap.size ≤ g)) := hide ⟨R', _, ⟨(unhide H1).bx, hp_butR (unhide H4).2.1 (unhide H4).2.2 (unhide H1).bx hb5, hi5⟩, ((ButS.of (unhide HBc)).trans (ButS.ofB (unhide H4).1) (.inl rfl)).trans (ButS.ofR hb5) (.inl rfl), hR5.imp_right fun h g hg => Nat.le_trans ((unhide HBc).size) (Nat.le_trans ((unhide H4).1.size) (h g hg))⟩
        clear hi5 hb5 hR5 H4 HA HD
        cases d
        all_goals
          go_wp2
          rw [unhide HP]
          exact ⟨rfl, unhide HF⟩
      · clear hm0 hm1
        obtain ⟨d, hd⟩ : ∃ d, decide (0 ≤ key ∧ key < 300) = d := ⟨_, rfl⟩
        have hA := hput_any M b key rank _ (unhide H1).h
        rw [hd] at hA
        have HA := hide hA
        have HD := hide hd
        clear hA hd
        go_wp2_with fail
        go_at_call 18
        refine (unhide HA).mono ?_
        rintro e w4 ⟨rfl, hb4, hi4⟩
        have h4 := rf_but (unhide H1).r (unhide H1).bx hb4
        have H4 := hide (And.intro hb4 (And.intro hi4 h4))
        clear hb4 hi4 h4
        go_wp2_with fail
        have hB := rput_any M x R key rank w4 (unhide H4).2.2
        rw [unhide HD] at hB
        go_at_call 21
        refine hB.mono ?_
        clear hB
        rintro e w5 ⟨rfl, R', hi5, hb5, hR5⟩
        have HF : Hid (∃ R' M', Pr w5 b x R' M' ∧ ButS b x R w w5 ∧ (R' = R ∨ ∀ g, R' = some g → w.heap.size ≤ g)) := hide ⟨R', _, ⟨(unhide H1).bx, hp_butR (unhide H4).2.1 (unhide H4).2.2 (unhide H1).bx hb5, hi5⟩, ((ButS.of (unhide HBc)).trans (ButS.ofB (unhide H4).1) (.inl rfl)).trans (ButS.ofR hb5) (.inl rfl), hR5.imp_right fun h g hg => Nat.le_trans ((unhide HBc).size) (Nat.le_trans ((unhide H4).1.size) (h g hg))⟩
        clear hi5 hb5 hR5 H4 HA HD
        cases d
        all_goals
          go_wp2
          rw [unhide HP]
          exact ⟨rfl, unhide HF⟩
      · clear hm0 hm1
        obtain ⟨d, hd⟩ : ∃ d, decide (0 ≤ key ∧ key < 300) = d := ⟨_, rfl⟩
        have hA := hput_any M b key rank _ (unhide H1).h
        rw [hd] at hA
        have HA := hide hA
        have HD := hide hd
        clear hA hd
        go_wp2_with fail
        go_at_call 18
        refine (unhide HA).mono ?_
        rintro e w4 ⟨rfl, hb4, hi4⟩
        have h4 := rf_but (unhide H1).r (unhide H1).bx hb4
        have H4 := hide (And.intro hb4 (And.intro hi4 h4))
        clear hb4 hi4 h4
        go_wp2_with fail
        have hB := rput_any M x R key rank w4 (unhide H4).2.2
        rw [unhide HD] at hB
        go_at_call 21
        refine hB.mono ?_
        clear hB
        rintro e w5 ⟨rfl, R', hi5, hb5, hR5⟩
        have HF : Hid (∃ R' M', Pr w5 b x R' M' ∧ ButS b x R w w5 ∧ (R' = R ∨ ∀ g, R' = some g → w.heap.size ≤ g)) := hide ⟨R', _, ⟨(unhide H1).bx, hp_butR (unhide H4).2.1 (unhide H4).2.2 (unhide H1).bx hb5, hi5⟩, ((ButS.of (unhide HBc)).trans (ButS.ofB (unhide H4).1) (.inl rfl)).trans (ButS.ofR hb5) (.inl rfl), hR5.imp_right fun h g hg => Nat.le_trans ((unhide HBc).size) (Nat.le_trans ((unhide H4).1.size) (h g hg))⟩
        clear hi5 hb5 hR5 H4 HA HD
        cases d
        all_goals
          go_wp2
          rw [unhide HP]
          exact ⟨rfl, unhide HF⟩
      · clear hm0 hm1
        obtain ⟨d, hd⟩ : ∃ d, decide (0 ≤ key ∧ key < 300) = d := ⟨_, rfl⟩
        have hA := hput_any M b key rank _ (unhide H1).h
        rw [hd] at hA
        have HA := hide hA
        have HD := hide hd
        clear hA hd
        go_wp2_with fail
        go_at_call 18
        refine (unhide HA).mono ?_
        rintro e w4 ⟨rfl, hb4, hi4⟩
        have h4 := rf_but (unhide H1).r (unhide H1).bx hb4
        have H4 := hide (And.intro hb4 (And.intro hi4 h4))
        clear hb4 hi4 h4
        go_wp2_with fail
        have hB := rput_any M x R key rank w4 (unhide H4).2.2
        rw [unhide HD] at hB
        go_at_call 21
        refine hB.mono ?_
        clear hB
        rintro e w5 ⟨rfl, R', hi5, hb5, hR5⟩
        have HF : Hid (∃ R' M', Pr w5 b x R' M' ∧ ButS b x R w w5 ∧ (R' = R ∨ ∀ g, R' = some g → w.heap.size ≤ g)) := hide ⟨R', _, ⟨(unhide H1).bx, hp_butR (unhide H4).2.1 (unhide H4).2.2 (unhide H1).bx hb5, hi5⟩, ((ButS.of (unhide HBc)).trans (ButS.ofB (unhide H4).1) (.inl rfl)).trans (ButS.ofR hb5) (.inl rfl), hR5.imp_right fun h g hg => Nat.le_trans ((unhide HBc).size) (Nat.le_trans ((unhide H4).1.size) (h g hg))⟩
        clear hi5 hb5 hR5 H4 HA HD
        cases d
        all_goals
          go_wp2
          rw [unhide HP]
          exact ⟨rfl, unhide HF⟩
      · clear hm0 hm1
        obtain ⟨d, hd⟩ : ∃ d, decide (0 ≤ key ∧ key < 300) = d := ⟨_, rfl⟩
        have hA := hput_any M b key rank _ (unhide H1).h
        rw [hd] at hA
        have HA := hide hA
        have HD := hide hd
        clear hA hd
        go_wp2_with fail
        go_at_call 18
        refine (unhide HA).mono ?_
        rintro e w4 ⟨rfl, hb4, hi4⟩
        have h4 := rf_but (unhide H1).r (unhide H1).bx hb4
        have H4 := hide (And.intro hb4 (And.intro hi4 h4))
        clear hb4 hi4 h4
        go_wp2_with fail
        have hB := rput_any M x R key rank w4 (unhide H4).2.2
        rw [unhide HD] at hB
        go_at_call 21
        refine hB.mono ?_
        clear hB
        rintro e w5 ⟨rfl, R', hi5, hb5, hR5⟩
        have HF : Hid (∃ R' M', Pr w5 b x R' M' ∧ ButS b x R w w5 ∧ (R' = R ∨ ∀ g, R' = some g → w.heap.size ≤ g)) := hide ⟨R', _, ⟨(unhide H1).bx, hp_butR (unhide H4).2.1 (unhide H4).2.2 (unhide H1).bx hb5, hi5⟩, ((ButS.of (unhide HBc)).trans (ButS.ofB (unhide H4).1) (.inl rfl)).trans (ButS.ofR hb5) (.inl rfl), hR5.imp_right fun h g hg => Nat.le_trans ((unhide HBc).size) (Nat.le_trans ((unhide H4).1.size) (h g hg))⟩
        clear hi5 hb5 hR5 H4 HA HD
        cases d
        all_goals
          go_wp2
          rw [unhide HP]
          exact ⟨rfl, unhide HF⟩
      · clear hm0 hm1
        obtain ⟨d, hd⟩ : ∃ d, decide (0 ≤ key ∧ key < 300) = d := ⟨_, rfl⟩
        have hA := hput_any M b key rank _ (unhide H1).h
        rw [hd] at hA
        have HA := hide hA
        have HD := hide hd
        clear hA hd
        go_wp2_with fail
        go_at_call 18
        refine (unhide HA).mono ?_
        rintro e w4 ⟨rfl, hb4, hi4⟩
        have h4 := rf_but (unhide H1).r (unhide H1).bx hb4
        have H4 := hide (And.intro hb4 (And.intro hi4 h4))
        clear hb4 hi4 h4
        go_wp2_with fail
        have hB := rput_any M x R key rank w4 (unhide H4).2.2
        rw [unhide HD] at hB
        go_at_call 21
        refine hB.mono ?_
        clear hB
        rintro e w5 ⟨rfl, R', hi5, hb5, hR5⟩
        have HF : Hid (∃ R' M', Pr w5 b x R' M' ∧ ButS b x R w w5 ∧ (R' = R ∨ ∀ g, R' = some g → w.heap.size ≤ g)) := hide ⟨R', _, ⟨(unhide H1).bx, hp_butR (unhide H4).2.1 (unhide H4).2.2 (unhide H1).bx hb5, hi5⟩, ((ButS.of (unhide HBc)).trans (ButS.ofB (unhide H4).1) (.inl rfl)).trans (ButS.ofR hb5) (.inl rfl), hR5.imp_right fun h g hg => Nat.le_trans ((unhide HBc).size) (Nat.le_trans ((unhide H4).1.size) (h g hg))⟩
        clear hi5 hb5 hR5 H4 HA HD
        cases d
        all_goals
          go_wp2
          rw [unhide HP]
          exact ⟨rfl, unhide HF⟩
      · clear hm0 hm1
        obtain ⟨d, hd⟩ : ∃ d, decide (0 ≤ key ∧ key < 300) = d := ⟨_, rfl⟩
        have hA := hput_any M b key rank _ (unhide H1).h
        rw [hd] at hA
        have HA := hide hA
        have HD := hide hd
        clear hA hd
        go_wp2_with fail
        go_at_call 18
        refine (unhide HA).mono ?_
        rintro e w4 ⟨rfl, hb4, hi4⟩
        have h4 := rf_but (unhide H1).r (unhide H1).bx hb4
        have H4 := hide (And.intro hb4 (And.intro hi4 h4))
        clear hb4 hi4 h4
        go_wp2_with fail
        have hB := rput_any M x R key rank w4 (unhide H4).2.2
        rw [unhide HD] at hB
        go_at_call 21
        refine hB.mono ?_
        clear hB
        rintro e w5 ⟨rfl, R', hi5, hb5, hR5⟩
        have HF : Hid (∃ R' M', Pr w5 b x R' M' ∧ ButS b x R w w5 ∧ (R' = R ∨ ∀ g, R' = some g → w.heap.size ≤ g)) := hide ⟨R', _, ⟨(unhide H1).bx, hp_butR (unhide H4).2.1 (unhide H4).2.2 (unhide H1).bx hb5, hi5⟩, ((ButS.of (unhide HBc)).trans (ButS.ofB (unhide H4).1) (.inl rfl)).trans (ButS.ofR hb5) (.inl rfl), hR5.imp_right fun h g hg => Nat.le_trans ((unhide HBc).size) (Nat.le_trans ((unhide H4).1.size) (h g hg))⟩
        clear hi5 hb5 hR5 H4 HA HD
        cases d
        all_goals
          go_wp2
          rw [unhide HP]
          exact ⟨rfl, unhide HF⟩
      · clear hm0 hm1
        obtain ⟨d, hd⟩ : ∃ d, decide (0 ≤ key ∧ key < 300) = d := ⟨_, rfl⟩
        have hA := hput_any M b key rank _ (unhide H1).h
        rw [hd] at hA
        have HA := hide hA
        have HD := hide hd
        clear hA hd
        go_wp2_with fail
        go_at_call 18
        refine (unhide HA).mono ?_
        rintro e w4 ⟨rfl, hb4, hi4⟩
        have h4 := rf_but (unhide H1).r (unhide H1).bx hb4
        have H4 := hide (And.intro hb4 (And.intro hi4 h4))
        clear hb4 hi4 h4
        go_wp2_with fail
        have hB := rput_any M x R key rank w4 (unhide H4).2.2
        rw [unhide HD] at hB
        go_at_call 21
        refine hB.mono ?_
        clear hB
        rintro e w5 ⟨rfl, R', hi5, hb5, hR5⟩
        have HF : Hid (∃ R' M', Pr w5 b x R' M' ∧ ButS b x R w w5 ∧ (R' = R ∨ ∀ g, R' = some g → w.heap.size ≤ g)) := hide ⟨R', _, ⟨(unhide H1).bx, hp_butR (unhide H4).2.1 (unhide H4).2.2 (unhide H1).bx hb5, hi5⟩, ((ButS.of (unhide HBc)).trans (ButS.ofB (unhide H4).1) (.inl rfl)).trans (ButS.ofR hb5) (.inl rfl), hR5.imp_right fun h g hg => Nat.le_trans ((unhide HBc).size) (Nat.le_trans ((unhide H4).1.size) (h g hg))⟩
        clear hi5 hb5 hR5 H4 HA HD
        cases d
        all_goals
          go_wp2
          rw [unhide HP]
          exact ⟨rfl, unhide HF⟩
      · clear hm0 hm1
        go_wp2_with fail
        go_at_call 19
        refine (htake_any M b _ (unhide H1).h).mono ?_
        rintro e w4 ⟨k4, r4, is4, rfl, hl4, hb4, hi4⟩
        have h4 := rf_but (unhide H1).r (unhide H1).bx hb4
        have hI1 : (w4.alloc (.cells #[.int .i64 k4, .int .i64 r4] 32)).heap[w4.heap.size]? = some (.cells #[.int .i64 k4, .int .i64 r4] 32) := by
          show (w4.heap.push _)[w4.heap.size]? = _
          rw [Array.getElem?_push, if_pos rfl]
        have hal := (Below.refl w4.heap.size w4).alloc (Nat.le_refl _) (.cells #[.int .i64 k4, .int .i64 r4] 32)
        have hsz : (w4.alloc (.cells #[.int .i64 k4, .int .i64 r4] 32)).heap.size = w4.heap.size + 1 := by show (w4.heap.push _).size = _; exact Array.size_push _
        have H4 : Hid (ButS b x R w (w4.alloc (.cells #[.int .i64 k4, .int .i64 r4] 32)) ∧ HpIs (w4.alloc (.cells #[.int .i64 k4, .int .i64 r4] 32)) b (Sp.put M k4.toNat none) ∧ RfIs (w4.alloc (.cells #[.int .i64 k4, .int .i64 r4] 32)) x R M ∧ (w4.alloc (.cells #[.int .i64 k4, .int .i64 r4] 32)).heap[w4.heap.size]? = some (.cells #[.int .i64 k4, .int .i64 r4] 32) ∧ x < w4.heap.size ∧ (∀ g, R = some g → g < w4.heap.size) ∧ (w4.alloc (.cells #[.int .i64 k4, .int .i64 r4] 32)).heap.size = w4.heap.size + 1) := hide ⟨((ButS.of (unhide HBc)).trans (ButS.ofB hb4) (.inl rfl)).trans (ButS.of hal) (.inl rfl), hi4.below hal, h4.below hal, hI1, h4.lt, fun g hg => (h4.rlt g hg).2, hsz⟩
        have HLe := hide hl4
        have hs4 : w.heap.size ≤ w4.heap.size := Nat.le_trans (unhide HBc).size hb4.size
        clear hl4 hb4 hi4 h4 hI1 hal hsz
        go_wp2_with fail
        obtain ⟨B1, hB1⟩ : ∃ B1, B1 = w4.heap.size := ⟨_, rfl⟩
        rw [← hB1] at H4 hs4 ⊢
        clear hB1
        generalize w4.alloc (.cells #[.int .i64 k4, .int .i64 r4] 32) = W4 at *
        go_at_call 24
        refine (rtake_any M x R W4 (unhide H4).2.2.1).mono ?_
        rintro e w5 ⟨k5, r5, is5, rfl, hl5, R', hi5, hb5, hR5⟩
        obtain ⟨rfl, rfl, rfl⟩ := hl5.uniq (unhide HLe)
        have hB5 := (hb5.block B1 (by have := (unhide H4).2.2.2.2.2.2; omega) (by have := (unhide H4).2.2.2.2.1; omega) (fun e => by have := (unhide H4).2.2.2.2.2.1 B1 e; omega)).trans (unhide H4).2.2.2.1
        have hB5l := (Array.getElem?_eq_some_iff.1 hB5).1
        have x0 := fun o => (item_at (w := w5.alloc o) (B := B1) ((Below.heap_alloc _ _ _ hB5l).trans hB5)).1
        have x1 := fun o => (item_at (w := w5.alloc o) (B := B1) ((Below.heap_alloc _ _ _ hB5l).trans hB5)).2.1
        have hz4 := (unhide H4).2.2.2.2.2.2
        have HF : Hid (∀ o, ∃ R' M', Pr (w5.alloc o) b x R' M' ∧ ButS b x R w (w5.alloc o) ∧ (R' = R ∨ ∀ g, R' = some g → w.heap.size ≤ g)) := hide fun o => by
          have hal := (Below.refl w5.heap.size w5).alloc (Nat.le_refl _) o
          refine ⟨R', _, ⟨(unhide H1).bx, (hp_butR (unhide H4).2.1 (unhide H4).2.2.1 (unhide H1).bx hb5).below hal, hi5.below hal⟩, ((unhide H4).1.trans (ButS.ofR hb5) (.inl rfl)).trans (ButS.of hal) (.inl rfl), hR5.imp_right fun h g hg => ?_⟩
          have := h g hg
          omega
        clear hi5 hb5 hR5 hl5 H4 hB5 HLe hz4
        cases is5
        all_goals
          go_wp2
          rw [unhide HP]
          exact ⟨rfl, unhide HF _⟩
      · clear hm0 hm1
        go_wp2_with fail
        go_at_call 19
        refine (htake_any M b _ (unhide H1).h).mono ?_
        rintro e w4 ⟨k4, r4, is4, rfl, hl4, hb4, hi4⟩
        have h4 := rf_but (unhide H1).r (unhide H1).bx hb4
        have hI1 : (w4.alloc (.cells #[.int .i64 k4, .int .i64 r4] 32)).heap[w4.heap.size]? = some (.cells #[.int .i64 k4, .int .i64 r4] 32) := by
          show (w4.heap.push _)[w4.heap.size]? = _
          rw [Array.getElem?_push, if_pos rfl]
        have hal := (Below.refl w4.heap.size w4).alloc (Nat.le_refl _) (.cells #[.int .i64 k4, .int .i64 r4] 32)
        have hsz : (w4.alloc (.cells #[.int .i64 k4, .int .i64 r4] 32)).heap.size = w4.heap.size + 1 := by show (w4.heap.push _).size = _; exact Array.size_push _
        have H4 : Hid (ButS b x R w (w4.alloc (.cells #[.int .i64 k4, .int .i64 r4] 32)) ∧ HpIs (w4.alloc (.cells #[.int .i64 k4, .int .i64 r4] 32)) b (Sp.put M k4.toNat none) ∧ RfIs (w4.alloc (.cells #[.int .i64 k4, .int .i64 r4] 32)) x R M ∧ (w4.alloc (.cells #[.int .i64 k4, .int .i64 r4] 32)).heap[w4.heap.size]? = some (.cells #[.int .i64 k4, .int .i64 r4] 32) ∧ x < w4.heap.size ∧ (∀ g, R = some g → g < w4.heap.size) ∧ (w4.alloc (.cells #[.int .i64 k4, .int .i64 r4] 32)).heap.size = w4.heap.size + 1) := hide ⟨((ButS.of (unhide HBc)).trans (ButS.ofB hb4) (.inl rfl)).trans (ButS.of hal) (.inl rfl), hi4.below hal, h4.below hal, hI1, h4.lt, fun g hg => (h4.rlt g hg).2, hsz⟩
        have HLe := hide hl4
        have hs4 : w.heap.size ≤ w4.heap.size := Nat.le_trans (unhide HBc).size hb4.size
        clear hl4 hb4 hi4 h4 hI1 hal hsz
        go_wp2_with fail
        obtain ⟨B1, hB1⟩ : ∃ B1, B1 = w4.heap.size := ⟨_, rfl⟩
        rw [← hB1] at H4 hs4 ⊢
        clear hB1
        generalize w4.alloc (.cells #[.int .i64 k4, .int .i64 r4] 32) = W4 at *
        go_at_call 24
        refine (rtake_any M x R W4 (unhide H4).2.2.1).mono ?_
        rintro e w5 ⟨k5, r5, is5, rfl, hl5, R', hi5, hb5, hR5⟩
        obtain ⟨rfl, rfl, rfl⟩ := hl5.uniq (unhide HLe)
        have hB5 := (hb5.block B1 (by have := (unhide H4).2.2.2.2.2.2; omega) (by have := (unhide H4).2.2.2.2.1; omega) (fun e => by have := (unhide H4).2.2.2.2.2.1 B1 e; omega)).trans (unhide H4).2.2.2.1
        have hB5l := (Array.getElem?_eq_some_iff.1 hB5).1
        have x0 := fun o => (item_at (w := w5.alloc o) (B := B1) ((Below.heap_alloc _ _ _ hB5l).trans hB5)).1
        have x1 := fun o => (item_at (w := w5.alloc o) (B := B1) ((Below.heap_alloc _ _ _ hB5l).trans hB5)).2.1
        have hz4 := (unhide H4).2.2.2.2.2.2
        have HF : Hid (∀ o, ∃ R' M', Pr (w5.alloc o) b x R' M' ∧ ButS b x R w (w5.alloc o) ∧ (R' = R ∨ ∀ g, R' = some g → w.heap.size ≤ g)) := hide fun o => by
          have hal := (Below.refl w5.heap.size w5).alloc (Nat.le_refl _) o
          refine ⟨R', _, ⟨(unhide H1).bx, (hp_butR (unhide H4).2.1 (unhide H4).2.2.1 (unhide H1).bx hb5).below hal, hi5.below hal⟩, ((unhide H4).1.trans (ButS.ofR hb5) (.inl rfl)).trans (ButS.of hal) (.inl rfl), hR5.imp_right fun h g hg => ?_⟩
          have := h g hg
          omega
        clear hi5 hb5 hR5 hl5 H4 hB5 HLe hz4
        cases is5
        all_goals
          go_wp2
          rw [unhide HP]
          exact ⟨rfl, unhide HF _⟩
      · clear hm0 hm1
        go_wp2_with fail
        go_at_call 19
        refine (htake_any M b _ (unhide H1).h).mono ?_
        rintro e w4 ⟨k4, r4, is4, rfl, hl4, hb4, hi4⟩
        have h4 := rf_but (unhide H1).r (unhide H1).bx hb4
        have hI1 : (w4.alloc (.cells #[.int .i64 k4, .int .i64 r4] 32)).heap[w4.heap.size]? = some (.cells #[.int .i64 k4, .int .i64 r4] 32) := by
          show (w4.heap.push _)[w4.heap.size]? = _
          rw [Array.getElem?_push, if_pos rfl]
        have hal := (Below.refl w4.heap.size w4).alloc (Nat.le_refl _) (.cells #[.int .i64 k4, .int .i64 r4] 32)
        have hsz : (w4.alloc (.cells #[.int .i64 k4, .int .i64 r4] 32)).heap.size = w4.heap.size + 1 := by show (w4.heap.push _).size = _; exact Array.size_push _
        have H4 : Hid (ButS b x R w (w4.alloc (.cells #[.int .i64 k4, .int .i64 r4] 32)) ∧ HpIs (w4.alloc (.cells #[.int .i64 k4, .int .i64 r4] 32)) b (Sp.put M k4.toNat none) ∧ RfIs (w4.alloc (.cells #[.int .i64 k4, .int .i64 r4] 32)) x R M ∧ (w4.alloc (.cells #[.int .i64 k4, .int .i64 r4] 32)).heap[w4.heap.size]? = some (.cells #[.int .i64 k4, .int .i64 r4] 32) ∧ x < w4.heap.size ∧ (∀ g, R = some g → g < w4.heap.size) ∧ (w4.alloc (.cells #[.int .i64 k4, .int .i64 r4] 32)).heap.size = w4.heap.size + 1) := hide ⟨((ButS.of (unhide HBc)).trans (ButS.ofB hb4) (.inl rfl)).trans (ButS.of hal) (.inl rfl), hi4.below hal, h4.below hal, hI1, h4.lt, fun g hg => (h4.rlt g hg).2, hsz⟩
        have HLe := hide hl4
        have hs4 : w.heap.size ≤ w4.heap.size := Nat.le_trans (unhide HBc).size hb4.size
        clear hl4 hb4 hi4 h4 hI1 hal hsz
        go_wp2_with fail
        obtain ⟨B1, hB1⟩ : ∃ B1, B1 = w4.heap.size := ⟨_, rfl⟩
        rw [← hB1] at H4 hs4 ⊢
        clear hB1
        generalize w4.alloc (.cells #[.int .i64 k4, .int .i64 r4] 32) = W4 at *
        go_at_call 24
        refine (rtake_any M x R W4 (unhide H4).2.2.1).mono ?_
        rintro e w5 ⟨k5, r5, is5, rfl, hl5, R', hi5, hb5, hR5⟩
        obtain ⟨rfl, rfl, rfl⟩ := hl5.uniq (unhide HLe)
        have hB5 := (hb5.block B1 (by have := (unhide H4).2.2.2.2.2.2; omega) (by have := (unhide H4).2.2.2.2.1; omega) (fun e => by have := (unhide H4).2.2.2.2.2.1 B1 e; omega)).trans (unhide H4).2.2.2.1
        have hB5l := (Array.getElem?_eq_some_iff.1 hB5).1
        have x0 := fun o => (item_at (w := w5.alloc o) (B := B1) ((Below.heap_alloc _ _ _ hB5l).trans hB5)).1
        have x1 := fun o => (item_at (w := w5.alloc o) (B := B1) ((Below.heap_alloc _ _ _ hB5l).trans hB5)).2.1
        have hz4 := (unhide H4).2.2.2.2.2.2
        have HF : Hid (∀ o, ∃ R' M', Pr (w5.alloc o) b x R' M' ∧ ButS b x R w (w5.alloc o) ∧ (R' = R ∨ ∀ g, R' = some g → w.heap.size ≤ g)) := hide fun o => by
          have hal := (Below.refl w5.heap.size w5).alloc (Nat.le_refl _) o
          refine ⟨R', _, ⟨(unhide H1).bx, (hp_butR (unhide H4).2.1 (unhide H4).2.2.1 (unhide H1).bx hb5).below hal, hi5.below hal⟩, ((unhide H4).1.trans (ButS.ofR hb5) (.inl rfl)).trans (ButS.of hal) (.inl rfl), hR5.imp_right fun h g hg => ?_⟩
          have := h g hg
          omega
        clear hi5 hb5 hR5 hl5 H4 hB5 HLe hz4
        cases is5
        all_goals
          go_wp2
          rw [unhide HP]
          exact ⟨rfl, unhide HF _⟩
      · clear hm0 hm1
        obtain ⟨d, hd⟩ : ∃ d, (Sp.look M key).isSome = d := ⟨_, rfl⟩
        have hA := hdrop_any M b key _ (unhide H1).h
        rw [hd] at hA
        have HA := hide hA
        have HD := hide hd
        clear hA hd
        go_wp2_with fail
        go_at_call 22
        refine (unhide HA).mono ?_
        rintro e w4 ⟨rfl, hb4, hi4⟩
        have h4 := rf_but (unhide H1).r (unhide H1).bx hb4
        have H4 := hide (And.intro hb4 (And.intro hi4 h4))
        clear hb4 hi4 h4
        go_wp2_with fail
        have hB := rdrop_any M x R key w4 (unhide H4).2.2
        rw [unhide HD] at hB
        go_at_call 23
        refine hB.mono ?_
        clear hB
        rintro e w5 ⟨rfl, R', hi5, hb5, hR5⟩
        have HF : Hid (∃ R' M', Pr w5 b x R' M' ∧ ButS b x R w w5 ∧ (R' = R ∨ ∀ g, R' = some g → w.heap.size ≤ g)) := hide ⟨R', _, ⟨(unhide H1).bx, hp_butR (unhide H4).2.1 (unhide H4).2.2 (unhide H1).bx hb5, hi5⟩, ((ButS.of (unhide HBc)).trans (ButS.ofB (unhide H4).1) (.inl rfl)).trans (ButS.ofR hb5) (.inl rfl), hR5.imp_right fun h g hg => Nat.le_trans ((unhide HBc).size) (Nat.le_trans ((unhide H4).1.size) (h g hg))⟩
        clear hi5 hb5 hR5 H4 HA HD
        cases d
        all_goals
          go_wp2
          rw [unhide HP]
          exact ⟨rfl, unhide HF⟩
      · clear hm0 hm1
        obtain ⟨d, hd⟩ : ∃ d, (Sp.look M key).isSome = d := ⟨_, rfl⟩
        have hA := hdrop_any M b key _ (unhide H1).h
        rw [hd] at hA
        have HA := hide hA
        have HD := hide hd
        clear hA hd
        go_wp2_with fail
        go_at_call 22
        refine (unhide HA).mono ?_
        rintro e w4 ⟨rfl, hb4, hi4⟩
        have h4 := rf_but (unhide H1).r (unhide H1).bx hb4
        have H4 := hide (And.intro hb4 (And.intro hi4 h4))
        clear hb4 hi4 h4
        go_wp2_with fail
        have hB := rdrop_any M x R key w4 (unhide H4).2.2
        rw [unhide HD] at hB
        go_at_call 23
        refine hB.mono ?_
        clear hB
        rintro e w5 ⟨rfl, R', hi5, hb5, hR5⟩
        have HF : Hid (∃ R' M', Pr w5 b x R' M' ∧ ButS b x R w w5 ∧ (R' = R ∨ ∀ g, R' = some g → w.heap.size ≤ g)) := hide ⟨R', _, ⟨(unhide H1).bx, hp_butR (unhide H4).2.1 (unhide H4).2.2 (unhide H1).bx hb5, hi5⟩, ((ButS.of (unhide HBc)).trans (ButS.ofB (unhide H4).1) (.inl rfl)).trans (ButS.ofR hb5) (.inl rfl), hR5.imp_right fun h g hg => Nat.le_trans ((unhide HBc).size) (Nat.le_trans ((unhide H4).1.size) (h g hg))⟩
        clear hi5 hb5 hR5 H4 HA HD
        cases d
        all_goals
          go_wp2
          rw [unhide HP]
          exact ⟨rfl, unhide HF⟩
      · clear hm0 hm1
        obtain ⟨d1, hd1⟩ : ∃ d, (Sp.look M key).getD 0 = d := ⟨_, rfl⟩
        obtain ⟨d2, hd2⟩ : ∃ d, (Sp.look M key).isSome = d := ⟨_, rfl⟩
        have hA := hrank_any M b key _ (unhide H1).h
        have hB := rrank_any M x R key _ (unhide H1).r
        rw [hd1, hd2] at hA hB
        have HA := hide hA
        have HB := hide hB
        clear hA hB hd1 hd2
        go_wp2_with fail
        go_at_call 20
        refine (unhide HA).mono ?_
        rintro e w' ⟨rfl, hw'⟩
        have := hw'.symm
        subst this
        go_wp2_with fail
        go_at_call 25
        refine (unhide HB).mono ?_
        rintro e w' ⟨rfl, hw'⟩
        have := hw'.symm
        subst this
        clear HA HB
        cases d2
        all_goals
          go_wp2
          rw [unhide HP]
          exact ⟨rfl, R, M, unhide H1, ButS.of (unhide HBc), .inl rfl⟩
      · clear hm0 hm1
        obtain ⟨d1, hd1⟩ : ∃ d, (Sp.look M key).getD 0 = d := ⟨_, rfl⟩
        obtain ⟨d2, hd2⟩ : ∃ d, (Sp.look M key).isSome = d := ⟨_, rfl⟩
        have hA := hrank_any M b key _ (unhide H1).h
        have hB := rrank_any M x R key _ (unhide H1).r
        rw [hd1, hd2] at hA hB
        have HA := hide hA
        have HB := hide hB
        clear hA hB hd1 hd2
        go_wp2_with fail
        go_at_call 20
        refine (unhide HA).mono ?_
        rintro e w' ⟨rfl, hw'⟩
        have := hw'.symm
        subst this
        go_wp2_with fail
        go_at_call 25
        refine (unhide HB).mono ?_
        rintro e w' ⟨rfl, hw'⟩
        have := hw'.symm
        subst this
        clear HA HB
        cases d2
        all_goals
          go_wp2
          rw [unhide HP]
          exact ⟨rfl, R, M, unhide H1, ButS.of (unhide HBc), .inl rfl⟩
      · clear hm0 hm1
        obtain ⟨d1, hd1⟩ : ∃ d, (Sp.look M key).getD 0 = d := ⟨_, rfl⟩
        obtain ⟨d2, hd2⟩ : ∃ d, (Sp.look M key).isSome = d := ⟨_, rfl⟩
        have hA := hrank_any M b key _ (unhide H1).h
        have hB := rrank_any M x R key _ (unhide H1).r
        rw [hd1, hd2] at hA hB
        have HA := hide hA
        have HB := hide hB
        clear hA hB hd1 hd2
        go_wp2_with fail
        go_at_call 20
        refine (unhide HA).mono ?_
        rintro e w' ⟨rfl, hw'⟩
        have := hw'.symm
        subst this
        go_wp2_with fail
        go_at_call 25
        refine (unhide HB).mono ?_
        rintro e w' ⟨rfl, hw'⟩
        have := hw'.symm
        subst this
        clear HA HB
        cases d2
        all_goals
          go_wp2
          rw [unhide HP]
          exact ⟨rfl, R, M, unhide H1, ButS.of (unhide HBc), .inl rfl⟩
end Go.Proofs.Ytfcknfodejnhnaa


/- The law HeapPlays, walked. -/
namespace Go.Proofs.Ytfcknfodejnhnaa
open Go Go.RowKit

theorem ButS.below {b x B : Nat} {R : Option Nat} {w w' : World} (h : ButS b x R w w') (hB : B ≤ b) (hx : B ≤ x) (hw : B ≤ w.heap.size) (hR : ∀ g, R = some g → B ≤ g) : Below B w w' :=
  ⟨h.os, h.tape, h.output, h.size, fun k hk => h.block k (by omega) (by omega) (by omega) (fun e => by have := hR k e; omega)⟩
end Go.Proofs.Ytfcknfodejnhnaa


/- The law HeapApart, walked. -/
namespace Go.Proofs.Ytfcknfodejnhnaa
open Go Go.RowKit

theorem Pr.keepS {w w' : World} {b x b2 x2 : Nat} {R R2 : Option Nat} {M2 : Nat → Option Int} (p : Pr w b2 x2 R2 M2) (k : ButS b x R w w') (h1 : b2 ≠ b ∧ b2 ≠ x ∧ R ≠ some b2) (h2 : x2 ≠ b ∧ x2 ≠ x ∧ R ≠ some x2) (h3 : ∀ g, R2 = some g → g ≠ b ∧ g ≠ x ∧ R ≠ some g) : Pr w' b2 x2 R2 M2 :=
  ⟨p.bx, p.h.of_block (k.block _ p.h.lt h1.1 h1.2.1 h1.2.2), p.r.keep (k.block _ p.r.lt h2.1 h2.2.1 h2.2.2) fun g hg => k.block _ (p.r.rlt g hg).2 (h3 g hg).1 (h3 g hg).2.1 (h3 g hg).2.2⟩
/-- Two pairs of heaps that do not touch one another. -/
structure Two (w : World) (b x b2 x2 : Nat) (R R2 : Option Nat) (M M2 : Nat → Option Int) : Prop where
  p1 : Pr w b x R M
  p2 : Pr w b2 x2 R2 M2
  lt : x < b2
  r1 : ∀ g, R = some g → x2 < g
  ne : ∀ g, R = some g → R2 ≠ some g
theorem Two.step1 {w w' : World} {b x b2 x2 : Nat} {R R2 R' : Option Nat} {M M2 M' : Nat → Option Int} (h : Two w b x b2 x2 R R2 M M2) (p : Pr w' b x R' M') (k : ButS b x R w w') (hR : R' = R ∨ ∀ g, R' = some g → w.heap.size ≤ g) : Two w' b x b2 x2 R' R2 M' M2 := by
  have hbx := h.p1.bx
  have hbx2 := h.p2.bx
  have hlt := h.lt
  have hx2 := h.p2.r.lt
  refine ⟨p, h.p2.keepS k ⟨by omega, by omega, fun e => by have := h.r1 _ e; omega⟩ ⟨by omega, by omega, fun e => by have := h.r1 _ e; omega⟩ (fun g hg => ?_), hlt, fun g hg => ?_, fun g hg e => ?_⟩
  · have := (h.p2.r.rlt g hg).1
    exact ⟨by omega, by omega, fun e => h.ne g e hg⟩
  · rcases hR with hR | hR
    · exact h.r1 g (by rw [← hR]; exact hg)
    · have := hR g hg; omega
  · rcases hR with hR | hR
    · exact h.ne g (by rw [← hR]; exact hg) e
    · have := hR g hg
      have := (h.p2.r.rlt g e).2
      omega
theorem Two.step2 {w w' : World} {b x b2 x2 : Nat} {R R2 R' : Option Nat} {M M2 M' : Nat → Option Int} (h : Two w b x b2 x2 R R2 M M2) (p : Pr w' b2 x2 R' M') (k : ButS b2 x2 R2 w w') (hR : R' = R2 ∨ ∀ g, R' = some g → w.heap.size ≤ g) : Two w' b x b2 x2 R R' M M' := by
  have hbx := h.p1.bx
  have hbx2 := h.p2.bx
  have hlt := h.lt
  have hx2 := h.p2.r.lt
  refine ⟨h.p1.keepS k ⟨by omega, by omega, fun e => by have := (h.p2.r.rlt _ e).1; omega⟩ ⟨by omega, by omega, fun e => by have := (h.p2.r.rlt _ e).1; omega⟩ (fun g hg => ?_), p, hlt, h.r1, fun g hg e => ?_⟩
  · have := h.r1 g hg
    exact ⟨by omega, by omega, h.ne g hg⟩
  · rcases hR with hR | hR
    · exact h.ne g hg (by rw [← hR]; exact e)
    · have := hR g e
      have := (h.p1.r.rlt g hg).2
      omega
set_option maxRecDepth 100000 in
set_option maxHeartbeats 8000000 in
theorem heapApart_any (ns ms : List Int) (raw : Int) (v u : Value) (w : World) (hv : Ints w v ns) (hu : Ints w u ms) :
    Calls Try.prog 7 #[v, u, .int .i64 raw] w fun e w' => e = .returned (.bool true) ∧ Below w.heap.size w w' := by
  obtain ⟨P, hP⟩ : ∃ P : Ending → World → Prop, P = fun e w' => e = .returned (.bool true) ∧ Below w.heap.size w w' := ⟨_, rfl⟩
  rw [← hP]
  have HP := hide hP
  clear hP
  obtain ⟨a, c, rfl, hcl, hcm, HC⟩ := hv.allH
  clear hv
  obtain ⟨ka, kc, rfl, khcl, khcm, HC2⟩ := hu.allH
  clear hu
  go_enter Try.func7, Try.ntmps7
  go_wp2_with fail
  go_at_call 9
  refine (known5_any w).mono ?_
  rintro e w1 ⟨rfl, hb1⟩
  have HB1 := hide hb1
  clear hb1
  go_wp2_with fail
  go_at_call 10
  refine (hnew2_any w1).mono ?_
  rintro e w2 ⟨rfl, hb2, hi2, hs2⟩
  obtain ⟨b, hb⟩ : ∃ b, w1.heap.size = b := ⟨_, rfl⟩
  rw [hb] at hb2 hi2 hs2 ⊢
  have hwb : w.heap.size ≤ b := by rw [← hb]; exact (unhide HB1).size
  have H2 : Hid (Below w.heap.size w w2 ∧ HpIs w2 b (fun _ => none)) := hide ⟨(unhide HB1).trans (hb2.mono hwb), hi2⟩
  replace hs2 : b + 1 ≤ w2.heap.size := by omega
  clear hb2 hi2 hb HB1
  have HI2 := hide (unhide H2)
  clear H2
  go_wp2_with fail
  go_at_call 11
  refine (rnew_any w2).mono ?_
  rintro e w3 ⟨rfl, hb3, hi3, hs3⟩
  obtain ⟨x, hx⟩ : ∃ x, w2.heap.size = x := ⟨_, rfl⟩
  rw [hx] at hb3 hi3 hs3 ⊢
  have hbx : b < x := by omega
  have H2 : Hid (Below w.heap.size w w3 ∧ Pr w3 b x none (fun _ => none)) := hide ⟨(unhide HI2).1.trans (hb3.mono (by omega)), ⟨hbx, (unhide HI2).2.below (by rw [hx]; exact hb3), hi3⟩⟩
  replace hs2 : x + 1 ≤ w3.heap.size := by omega
  clear hb3 hi3 hs3 hx HI2
  go_wp2_with fail
  go_at_call 10
  refine (hnew2_any w3).mono ?_
  rintro e w4 ⟨rfl, hb4, hi4, hs4⟩
  obtain ⟨b2, hb2⟩ : ∃ b2, w3.heap.size = b2 := ⟨_, rfl⟩
  rw [hb2] at hb4 hi4 hs4 ⊢
  have hxb : x < b2 := by omega
  have H4 : Hid (Below w.heap.size w w4 ∧ Pr w4 b x none (fun _ => none) ∧ HpIs w4 b2 (fun _ => none)) := hide ⟨(unhide H2).1.trans (hb4.mono (by omega)), (unhide H2).2.below (by rw [hb2]; exact hb4), hi4⟩
  replace hs4 : b2 + 1 ≤ w4.heap.size := by omega
  clear hb4 hi4 hb2 H2 hs2
  go_wp2_with fail
  go_at_call 11
  refine (rnew_any w4).mono ?_
  rintro e w5 ⟨rfl, hb5, hi5, hs5⟩
  obtain ⟨x2, hx2⟩ : ∃ x2, w4.heap.size = x2 := ⟨_, rfl⟩
  rw [hx2] at hb5 hi5 hs5 ⊢
  have H5 : Hid (Below w.heap.size w w5 ∧ Two w5 b x b2 x2 none none (fun _ => none) (fun _ => none)) := hide ⟨(unhide H4).1.trans (hb5.mono (by omega)), ⟨(unhide H4).2.1.below (by rw [hx2]; exact hb5), ⟨by omega, (unhide H4).2.2.below (by rw [hx2]; exact hb5), hi5⟩, hxb, fun g hg => (by cases hg), fun g hg => (by cases hg)⟩⟩
  have hs6 : x2 + 1 ≤ w5.heap.size := by omega
  have hx22 : b2 < x2 := by omega
  clear hb5 hi5 hs5 hx2 H4 hs4
  go_wp2
  go_loopg [11] 60 (fun g s11 wr => ∃ (i : Nat) (R R2 : Option Nat) (M M2 : Nat → Option Int), i + g = 60 ∧ s11 = .int .i64 (i : Int) ∧ x2 + 1 ≤ wr.heap.size ∧ Hid (Below w.heap.size w wr ∧ Two wr b x b2 x2 R R2 M M2))
  case atStart => exact ⟨0, none, none, _, _, by omega, rfl, hs6, H5⟩
  case round =>
    clear H5 hs6
    obtain ⟨i, R, R2, M, M2, hig, rfl, hsr, HI⟩ := hrel
    by_cases hi2 : i < 60
    · have hi2I : (i : Int) < 60 := by omega
      obtain ⟨g', rfl⟩ : ∃ g', gk = g' + 1 := ⟨gk - 1, by omega⟩
      by_cases hi : i < ns.length
      · have hiI : (i : Int) < (ns.length : Int) := by omega
        obtain ⟨ba1, o1, e1, -, hcx⟩ := unhide HC i hi
        have c1 := hcx _ (unhide HI).1
        clear hcx
        subst e1
        have HV := hide (fun w' => within5_any (ns.getD i 0) 1099511627776 w' (by omega) (by omega))
        have hy0 : 0 ≤ ns.getD i 0 % 1099511627776 := Int.emod_nonneg _ (by omega)
        have hy1 : ns.getD i 0 % 1099511627776 < 1099511627776 := Int.emod_lt_of_pos _ (by omega)
        generalize ns.getD i 0 = z1 at *
        generalize z1 % 1099511627776 = y1 at *
        have HK := hide (step5_any y1 raw b x R M _ (unhide HI).2.p1 hy0 hy1)
        clear hy0 hy1
        go_wp2_with fail
        go_at_call 13
        refine (unhide HV _).mono ?_
        rintro e w' ⟨rfl, hw'⟩
        have := hw'.symm
        subst this
        go_wp2_with fail
        go_at_call 12
        refine (unhide HK).mono ?_
        rintro e w81 ⟨rfl, R81, M81, hp8, hb8, hR8⟩
        have HJ : Hid (Below w.heap.size w w81 ∧ Two w81 b x b2 x2 R81 R2 M81 M2) := hide ⟨(unhide HI).1.trans (hb8.below (B := w.heap.size) (by omega) (by omega) (by omega) (fun g hg => by have := ((unhide HI).2.p1.r.rlt g hg).1; omega)), (unhide HI).2.step1 hp8 hb8 hR8⟩
        replace hsr : x2 + 1 ≤ w81.heap.size := Nat.le_trans hsr hb8.size
        clear hp8 hb8 hR8 HI HV HK c1
        by_cases hj : i < ms.length
        · have hjI : (i : Int) < (ms.length : Int) := by omega
          obtain ⟨ba2, o2, e2, -, hcx⟩ := unhide HC2 i hj
          have c2 := hcx _ (unhide HJ).1
          clear hcx
          subst e2
          have HV := hide (fun w' => within5_any (ms.getD i 0) 1099511627776 w' (by omega) (by omega))
          have hy0 : 0 ≤ ms.getD i 0 % 1099511627776 := Int.emod_nonneg _ (by omega)
          have hy1 : ms.getD i 0 % 1099511627776 < 1099511627776 := Int.emod_lt_of_pos _ (by omega)
          generalize ms.getD i 0 = z2 at *
          generalize z2 % 1099511627776 = y2 at *
          have HK := hide (step5_any y2 raw b2 x2 R2 M2 _ (unhide HJ).2.p2 hy0 hy1)
          clear hy0 hy1
          go_wp2_with fail
          go_at_call 13
          refine (unhide HV _).mono ?_
          rintro e w' ⟨rfl, hw'⟩
          have := hw'.symm
          subst this
          go_wp2_with fail
          go_at_call 12
          refine (unhide HK).mono ?_
          rintro e w82 ⟨rfl, R82, M82, hp8, hb8, hR8⟩
          have HJ2 : Hid (Below w.heap.size w w82 ∧ Two w82 b x b2 x2 R81 R82 M81 M82) := hide ⟨(unhide HJ).1.trans (hb8.below (B := w.heap.size) (by omega) (by omega) (by omega) (fun g hg => by have := ((unhide HJ).2.p2.r.rlt g hg).1; omega)), (unhide HJ).2.step2 hp8 hb8 hR8⟩
          replace hsr : x2 + 1 ≤ w82.heap.size := Nat.le_trans hsr hb8.size
          clear hp8 hb8 hR8 HJ HV HK c2
          go_wp2
          go_roundg g'
          case rel => exact ⟨i + 1, _, _, _, _, by omega, rfl, hsr, HJ2⟩
          case measure => omega
        · have hjI : ¬ (i : Int) < (ms.length : Int) := by omega
          go_wp2
          go_roundg g'
          case rel => exact ⟨i + 1, _, _, _, _, by omega, rfl, hsr, HJ⟩
          case measure => omega
      · have hiI : ¬ (i : Int) < (ns.length : Int) := by omega
        by_cases hj : i < ms.length
        · have hjI : (i : Int) < (ms.length : Int) := by omega
          obtain ⟨ba2, o2, e2, -, hcx⟩ := unhide HC2 i hj
          have c2 := hcx _ (unhide HI).1
          clear hcx
          subst e2
          have HV := hide (fun w' => within5_any (ms.getD i 0) 1099511627776 w' (by omega) (by omega))
          have hy0 : 0 ≤ ms.getD i 0 % 1099511627776 := Int.emod_nonneg _ (by omega)
          have hy1 : ms.getD i 0 % 1099511627776 < 1099511627776 := Int.emod_lt_of_pos _ (by omega)
          generalize ms.getD i 0 = z2 at *
          generalize z2 % 1099511627776 = y2 at *
          have HK := hide (step5_any y2 raw b2 x2 R2 M2 _ (unhide HI).2.p2 hy0 hy1)
          clear hy0 hy1
          go_wp2_with fail
          go_at_call 13
          refine (unhide HV _).mono ?_
          rintro e w' ⟨rfl, hw'⟩
          have := hw'.symm
          subst this
          go_wp2_with fail
          go_at_call 12
          refine (unhide HK).mono ?_
          rintro e w82 ⟨rfl, R82, M82, hp8, hb8, hR8⟩
          have HJ2 : Hid (Below w.heap.size w w82 ∧ Two w82 b x b2 x2 R R82 M M82) := hide ⟨(unhide HI).1.trans (hb8.below (B := w.heap.size) (by omega) (by omega) (by omega) (fun g hg => by have := ((unhide HI).2.p2.r.rlt g hg).1; omega)), (unhide HI).2.step2 hp8 hb8 hR8⟩
          replace hsr : x2 + 1 ≤ w82.heap.size := Nat.le_trans hsr hb8.size
          clear hp8 hb8 hR8 HI HV HK c2
          go_wp2
          go_roundg g'
          case rel => exact ⟨i + 1, _, _, _, _, by omega, rfl, hsr, HJ2⟩
          case measure => omega
        · have hjI : ¬ (i : Int) < (ms.length : Int) := by omega
          go_wp2
          go_roundg g'
          case rel => exact ⟨i + 1, _, _, _, _, by omega, rfl, hsr, HI⟩
          case measure => omega
    · have hi2I : ¬ (i : Int) < 60 := by omega
      have HL1 := hide (hlen_any M b wr (unhide HI).2.p1.h)
      have HL2 := hide (rlen_any M x R wr (unhide HI).2.p1.r)
      have HL3 := hide (hlen_any M2 b2 wr (unhide HI).2.p2.h)
      have HL4 := hide (rlen_any M2 x2 R2 wr (unhide HI).2.p2.r)
      have HF := hide (unhide HI).1
      clear HI
      generalize Sp.cnt M = n1 at *
      generalize Sp.cnt M2 = n2 at *
      go_wp2_with fail
      go_at_call 14
      refine (unhide HL1).mono ?_
      rintro e w' ⟨rfl, hw'⟩
      have := hw'.symm
      subst this
      go_wp2_with fail
      go_at_call 15
      refine (unhide HL2).mono ?_
      rintro e w' ⟨rfl, hw'⟩
      have := hw'.symm
      subst this
      go_wp2_with fail
      go_at_call 14
      refine (unhide HL3).mono ?_
      rintro e w' ⟨rfl, hw'⟩
      have := hw'.symm
      subst this
      go_wp2_with fail
      go_at_call 15
      refine (unhide HL4).mono ?_
      rintro e w' ⟨rfl, hw'⟩
      have := hw'.symm
      subst this
      go_wp2
      rw [unhide HP]
      exact ⟨rfl, unhide HF⟩
end Go.Proofs.Ytfcknfodejnhnaa


