/- What the proof needs, part 13. -/
import Derived.Lib.SliceRun
import Derived.Deep.WholeRow
import Derived.KernelRfl
import Derived.Test.YtoegjnolccabjaaL12
/- Package heap: remove. -/
namespace Go.Proofs.Ytoegjnolccabjaa
open Go Go.RowKit

theorem wiped_is {w : World} {b m : Nat} {z : Nat → Int} {M : Nat → Option Int} (h : HpAt w b z) (hi : Sp.HpI z M m) (hw : Sp.Wiped z (m + 1)) (hm : m < 300) :
    HpIs ((w.setCell ⟨b, m * 2, none⟩ (.int .i64 0)).setCell ⟨b, m * 2 + 1, none⟩ (.int .i64 0)).drew b M := by
  have hc := hi.cnt
  refine ⟨_, ((h.set _ _).set _ _).drew, ?_, ?_⟩
  · rw [← hc]
    exact hi.congr (by rw [Sp.upd_other _ _ (by omega), Sp.upd_other _ _ (by omega)]) (fun k hk => by rw [Sp.upd_other _ _ (by omega), Sp.upd_other _ _ (by omega)]) (fun i hi' => ⟨by rw [Sp.upd_other _ _ (by omega), Sp.upd_other _ _ (by omega)], by rw [Sp.upd_other _ _ (by omega), Sp.upd_other _ _ (by omega)]⟩)
  · rw [← hc]
    intro i h1 h2
    by_cases him : i = m
    · subst him
      rw [Sp.upd_other _ _ (by omega), Sp.upd_same, Sp.upd_same]; exact ⟨rfl, rfl⟩
    · rw [Sp.upd_other _ _ (by omega), Sp.upd_other _ _ (by omega), Sp.upd_other _ _ (by omega), Sp.upd_other _ _ (by omega)]
      exact hw i (by omega) h2
set_option maxRecDepth 100000 in
theorem run_clear_item (w : World) (b : Nat) (z : Nat → Int) (m c : Nat) (h : HpAt w b z) (hm : m < 300) (ty : TypeId) :
    (Builtin.clear_ #[130] ty #[.slice (some ⟨b, m * 2, none⟩) 1 c]).run Try.prog w.drew = .ok (.tuple #[]) ((w.setCell ⟨b, m * 2, none⟩ (.int .i64 0)).setCell ⟨b, m * 2 + 1, none⟩ (.int .i64 0)).drew := by
  have c0 := h.cell (j := m * 2) (by omega)
  have c1 := h.cell (j := m * 2 + 1) (by omega)
  have c1' : (w.setCell ⟨b, m * 2, none⟩ (.int .i64 0)).cell? ⟨b, m * 2 + 1, none⟩ = some (.int .i64 (z (m * 2 + 1))) := by rw [cell_set_ne (by omega)]; exact c1
  have f := fun j => h.frozen j none
  have ht : Try.prog.underlying 130 = some (.slice 103) := by rfl
  have hv : ∀ w, (zeroValue 103).run Try.prog w = .ok (.agg #[.int .i64 0, .int .i64 0]) w := fun w => by rfl
  have hzc : (Builtin.zeroCells (Value.agg #[.int .i64 0, .int .i64 0]).cells 1).toList = [.int .i64 0, .int .i64 0] := by
    show (Builtin.zeroCells #[.int .i64 0, .int .i64 0] 1).toList = _
    simp [Builtin.zeroCells, List.range_succ]
  have hst := run_storeCells_cells (P := Try.prog) b (m * 2) [.int .i64 0, .int .i64 0] 0 w.drew (fun j hj => by
    rcases j with _ | _ | j
    · rw [World.cell?_drew]; simp [c0]
    · rw [World.cell?_drew]; simp [c1]
    · simp at hj; omega) (fun j _ => f _) (fun v hv' => by
    simp at hv'; subst hv'; rfl)
  simp only [Nat.add_zero] at hst
  simp [Builtin.clear_, run_underlying ht, hv, hzc, hst]
  rfl
set_option maxRecDepth 100000 in
theorem run_slice_item (b m : Nat) (hm : m < 300) (w : World) : (Instr.sliceAt 114 (.pointer (some ⟨b, 0, none⟩)) (some (.int .i64 (m : Int))) (some (.int .i64 ((m : Int) + 1))) none).run Try.prog w = .ok (.slice (some ⟨b, m * 2, none⟩) 1 (300 - m)) w := by
  have ht : Try.prog.underlying 114 = some (.array (Try.prog.arrayLen 114) (Try.prog.elem 114)) := by rfl
  have hn : Try.prog.arrayLen 114 = 300 := by rfl
  have hs : ∀ w, (sizeOf (Try.prog.elem 114)).run Try.prog w = .ok 2 w := fun w => by rfl
  rw [run_sliceAt_array_lh w _ _ ht .i64 .i64 _ _ (by omega) (by omega) (by rw [hn]; omega), hs, hn]
  simp only [Result.andThen_ok, slicedAt, Addr.add]
  have e1 : ((m : Int)).toNat = m := by omega
  have e2 : ((m : Int) + 1).toNat = m + 1 := by omega
  rw [e1, e2, if_neg (by omega)]
  have e3 : m + 1 - m = 1 := by omega
  rw [e3]
  by_cases h0 : m = 0
  · subst h0; rfl
  · rw [if_neg (by omega), Nat.zero_add]
set_option maxRecDepth 100000 in
set_option maxHeartbeats 4000000 in
theorem remove_any (z : Nat → Int) (M : Nat → Option Int) (b m p kp : Nat) (w : World) (h : HpAt w b z) (hi : Sp.HpI z M (m + 1)) (hw : Sp.Wiped z (m + 1)) (hp : p < m + 1) (hzp : z (p * 2) = (kp : Int)) :
    Calls Try.prog 91 #[.pointer (some ⟨b, 0, none⟩), .int .i64 (p : Int)] w fun e w' => e = .returned (.tuple #[]) ∧ But b w w' ∧ HpIs w' b (Sp.put M kp none) := by
  have hle := hi.le
  have hb := h.lt
  obtain ⟨k0, hk0, a0, -, -⟩ := hi.it p hp
  obtain rfl : kp = k0 := by omega
  obtain ⟨km, hkm, hzm, -, -⟩ := hi.it m (by omega)
  have c6 := h.cell (j := 600) (by omega)
  rw [hi.many] at c6
  have f6 := h.frozen 600 none
  have hm1 : (m : Int) < 300 := by omega
  have hpI : (p : Int) < 300 := by omega
  have H0 := hide (And.intro h (And.intro hi hw))
  have HZ := hide (And.intro hzp (And.intro hzm a0))
  have hm2 : ((m + 1 : Nat) : Int) - 1 = (m : Int) := by omega
  rw [show (((m + 1 : Nat) : Int)) = (m : Int) + 1 from rfl] at c6
  have hm3 : (m : Int) + 1 - 1 = (m : Int) := by omega
  clear h hi hw hzp hzm a0 hm2
  obtain ⟨P, hP⟩ : ∃ P : Ending → World → Prop, P = fun e w' => e = .returned (.tuple #[]) ∧ But b w w' ∧ HpIs w' b (Sp.put M kp none) := ⟨_, rfl⟩
  rw [← hP]
  have HP := hide hP
  clear hP
  go_enter Try.func91, Try.ntmps91
  go_wp2_with fail
  obtain ⟨W1, hW1⟩ : ∃ W1, W1 = w.setCell ⟨b, 600, none⟩ (.int .i64 (m : Int)) := ⟨_, rfl⟩
  have h1 : HpAt W1 b (Sp.upd z 600 (m : Int)) := by rw [hW1]; exact (unhide H0).1.set _ _
  have HB1 : Hid (But b w W1) := hide (by rw [hW1]; exact (But.refl b w).set _ _ _)
  have hs1 : Hid (W1.heap.size = w.heap.size) := hide (by rw [hW1]; simp [World.setCell])
  rw [← hW1]
  clear hW1 c6 f6
  have c6 := h1.cell (j := 600) (by omega)
  rw [Sp.upd_same] at c6
  have c0 := h1.cell (j := m * 2) (by omega)
  rw [Sp.upd_other _ _ (by omega), (unhide HZ).2.1] at c0
  have c1 := h1.cell (j := m * 2 + 1) (by omega)
  rw [Sp.upd_other _ _ (by omega)] at c1
  have g6 := fun o => (h1.alloc o).cell (j := 600) (by omega)
  rw [Sp.upd_same] at g6
  have g0 := fun o => (h1.alloc o).cell (j := m * 2) (by omega)
  rw [Sp.upd_other _ _ (by omega), (unhide HZ).2.1] at g0
  have g1 := fun o => (h1.alloc o).cell (j := m * 2 + 1) (by omega)
  rw [Sp.upd_other _ _ (by omega)] at g1
  have H1 := hide h1
  clear h1
  obtain ⟨rm, hrm⟩ : ∃ rm, z (m * 2 + 1) = rm := ⟨_, rfl⟩
  rw [hrm] at c1 g1
  have HRM := hide hrm
  clear hrm
  go_region
  go_wp2_with fail
  obtain ⟨W2, hW2⟩ : ∃ W2, W2 = (W1.alloc (.cells #[.int .i64 (km : Int), .int .i64 rm] 103)).drew := ⟨_, rfl⟩
  have h2 : HpAt W2 b (Sp.upd z 600 (m : Int)) := by rw [hW2]; exact ((unhide H1).alloc _).drew
  have HB2 : Hid (But b w W2) := hide (by rw [hW2]; exact ((unhide HB1).alloc _).drew)
  obtain ⟨y0, y1⟩ : W2.cell? ⟨W1.heap.size, 0, none⟩ = some (.int .i64 (km : Int)) ∧ W2.cell? ⟨W1.heap.size, 1, none⟩ = some (.int .i64 rm) := by rw [hW2]; exact item_new W1 _ _
  rw [← hW2]
  obtain ⟨B1, hB1⟩ : ∃ B1, B1 = W1.heap.size := ⟨_, rfl⟩
  have hbB : b ≠ B1 := by rw [hB1, unhide hs1]; omega
  rw [← hB1] at y0 y1 ⊢
  clear hW2 c6 c0 c1 g6 g0 g1 H1 HB1 hs1 hB1
  have hkpI : (kp : Int) < 300 := by omega
  have c0 := h2.cell (j := p * 2) (by omega)
  rw [Sp.upd_other _ _ (by omega), (unhide HZ).1] at c0
  have c1 := h2.cell (j := 601 + kp) (by omega)
  have f1 := fun j => h2.frozen j none
  have H2 := hide h2
  clear h2
  go_region
  obtain ⟨W3, hW3⟩ : ∃ W3, W3 = (W2.setCell ⟨b, 601 + kp, none⟩ (.int .i64 0)).drew := ⟨_, rfl⟩
  have h3 : HpAt W3 b (Sp.upd (Sp.upd z 600 (m : Int)) (601 + kp) 0) := by rw [hW3]; exact ((unhide H2).set _ _).drew
  have HB3 : Hid (But b w W3) := hide (by rw [hW3]; exact ((unhide HB2).set _ _ _).drew)
  have x0 : W3.cell? ⟨B1, 0, none⟩ = some (.int .i64 (km : Int)) := by
    rw [hW3]; show World.cell? (World.setCell _ _ _) _ = _; rw [cell_set_ne (by omega)]; exact y0
  have x1 : W3.cell? ⟨B1, 1, none⟩ = some (.int .i64 rm) := by
    rw [hW3]; show World.cell? (World.setCell _ _ _) _ = _; rw [cell_set_ne (by omega)]; exact y1
  rw [← hW3]
  clear hW3 c0 c1 f1 y0 y1 H2 HB2
  have c6 := h3.cell (j := 600) (by omega)
  rw [Sp.upd_other _ _ (by omega), Sp.upd_same] at c6
  have HWi : Hid (∀ i, m + 1 ≤ i → i < 300 → Sp.upd (Sp.upd z 600 (m : Int)) (601 + kp) 0 (i * 2) = 0 ∧ Sp.upd (Sp.upd z 600 (m : Int)) (601 + kp) 0 (i * 2 + 1) = 0) := hide fun i h1 h2 => by
    rw [Sp.upd_other _ _ (by omega), Sp.upd_other _ _ (by omega), Sp.upd_other _ _ (by omega), Sp.upd_other _ _ (by omega)]
    exact (unhide H0).2.2 i h1 h2
  by_cases hpm : p < m
  · have hpmI : (p : Int) < (m : Int) := by omega
    have hS := (unhide H0).2.1.less hpm (unhide HZ).1 (unhide HZ).2.1
    rw [unhide HRM] at hS
    have H3 := hide (And.intro h3 hS)
    clear h3 hS
    go_wp2_with fail
    refine (settle_any _ _ b m p km rm W3 (unhide H3).1 (unhide H3).2).mono ?_
    rintro e w4 ⟨z4, rfl, hb4, ha4, hi4, hu4⟩
    have H4 : Hid (But b w w4 ∧ HpAt w4 b z4 ∧ Sp.HpI z4 (Sp.put M kp none) m ∧ Sp.Wiped z4 (m + 1)) := hide ⟨(unhide HB3).trans hb4, ha4, hi4, fun i h1 h2 => by
      rw [(hu4 i (by omega) h2).1, (hu4 i (by omega) h2).2]; exact unhide HWi i h1 h2⟩
    clear hb4 ha4 hi4 hu4 H3 x0 x1 c6 HWi HB3
    have c6 := (unhide H4).2.1.cell (j := 600) (by omega)
    rw [(unhide H4).2.2.1.many] at c6
    have c0 := (unhide H4).2.1.cell (j := m * 2) (by omega)
    have c1 := (unhide H4).2.1.cell (j := m * 2 + 1) (by omega)
    have hwm : IntKind.i64.wrap ((m : Int) + 1) = (m : Int) + 1 := by rw [IntKind.wrap_i64]; omega
    have hsl := run_slice_item b m (by omega)
    have hcl : ∀ ty, (Builtin.clear_ #[130] ty #[.slice (some ⟨b, m * 2, none⟩) 1 (300 - m)]).run Try.prog w4.drew = .ok (.tuple #[]) ((w4.setCell ⟨b, m * 2, none⟩ (.int .i64 0)).setCell ⟨b, m * 2 + 1, none⟩ (.int .i64 0)).drew := fun ty => run_clear_item w4 b _ m (300 - m) (unhide H4).2.1 (by omega) ty
    have HF : Hid (But b w ((w4.setCell ⟨b, m * 2, none⟩ (.int .i64 0)).setCell ⟨b, m * 2 + 1, none⟩ (.int .i64 0)).drew ∧ HpIs ((w4.setCell ⟨b, m * 2, none⟩ (.int .i64 0)).setCell ⟨b, m * 2 + 1, none⟩ (.int .i64 0)).drew b (Sp.put M kp none)) := hide ⟨(((unhide H4).1.set _ _ _).set _ _ _).drew, wiped_is (unhide H4).2.1 (unhide H4).2.2.1 (unhide H4).2.2.2 (by omega)⟩
    clear H4
    go_wp2_with fail
    go_region
    go_wp2
    go_end0
    rw [unhide HP]
    exact ⟨rfl, unhide HF⟩
  · have hpmI : ¬ (p : Int) < (m : Int) := by omega
    obtain rfl : p = m := by omega
    have H4 : Hid (But b w W3 ∧ HpAt W3 b (Sp.upd (Sp.upd z 600 (p : Int)) (601 + kp) 0) ∧ Sp.HpI (Sp.upd (Sp.upd z 600 (p : Int)) (601 + kp) 0) (Sp.put M kp none) p ∧ Sp.Wiped (Sp.upd (Sp.upd z 600 (p : Int)) (601 + kp) 0) (p + 1)) := hide ⟨unhide HB3, h3, (unhide H0).2.1.last (unhide HZ).1, unhide HWi⟩
    clear h3 x0 x1 HWi HB3
    go_wp2_with fail
    clear c6
    have c6 := (unhide H4).2.1.cell (j := 600) (by omega)
    rw [(unhide H4).2.2.1.many] at c6
    have c0 := (unhide H4).2.1.cell (j := p * 2) (by omega)
    have c1 := (unhide H4).2.1.cell (j := p * 2 + 1) (by omega)
    have hwm : IntKind.i64.wrap ((p : Int) + 1) = (p : Int) + 1 := by rw [IntKind.wrap_i64]; omega
    have hsl := run_slice_item b p (by omega)
    have hcl : ∀ ty, (Builtin.clear_ #[130] ty #[.slice (some ⟨b, p * 2, none⟩) 1 (300 - p)]).run Try.prog W3.drew = .ok (.tuple #[]) ((W3.setCell ⟨b, p * 2, none⟩ (.int .i64 0)).setCell ⟨b, p * 2 + 1, none⟩ (.int .i64 0)).drew := fun ty => run_clear_item W3 b _ p (300 - p) (unhide H4).2.1 (by omega) ty
    have HF : Hid (But b w ((W3.setCell ⟨b, p * 2, none⟩ (.int .i64 0)).setCell ⟨b, p * 2 + 1, none⟩ (.int .i64 0)).drew ∧ HpIs ((W3.setCell ⟨b, p * 2, none⟩ (.int .i64 0)).setCell ⟨b, p * 2 + 1, none⟩ (.int .i64 0)).drew b (Sp.put M kp none)) := hide ⟨(((unhide H4).1.set _ _ _).set _ _ _).drew, wiped_is (unhide H4).2.1 (unhide H4).2.2.1 (unhide H4).2.2.2 (by omega)⟩
    clear H4
    go_wp2_with fail
    go_region
    go_wp2
    go_end0
    rw [unhide HP]
    exact ⟨rfl, unhide HF⟩
end Go.Proofs.Ytoegjnolccabjaa


/- Package heap: New, Len. -/
namespace Go.Proofs.Ytoegjnolccabjaa
open Go Go.RowKit

theorem hnew_zero (w : World) : (zeroValue 117).run Try.prog w = .ok (.agg (List.replicate 901 (.int .i64 0)).toArray) w :=
  (zero_of_info (P := Try.prog) (t := 117) (v := .agg (List.replicate 901 (.int .i64 0)).toArray) (n := 901) (by kernel_rfl)).1 w
set_option maxRecDepth 100000 in
set_option maxHeartbeats 4000000 in
theorem hnew_any (w : World) :
    Calls Try.prog 69 #[] w fun e w' => e = .returned (.pointer (some ⟨w.heap.size, 0, none⟩)) ∧ w' = w.alloc (.cells (List.replicate 901 (.int .i64 0)).toArray 117) := by
  have hz := hnew_zero
  generalize (List.replicate 901 (Value.int .i64 0)).toArray = Z at *
  go_enter Try.func69, Try.ntmps69
  go_wp2
  go_ret
  exact ⟨rfl, rfl⟩
theorem Sp.cntN_none : ∀ N, Sp.cntN (fun _ => none) N = 0
  | 0 => rfl
  | N + 1 => by simp [Sp.cntN, Sp.cntN_none N]
theorem hnew_is (w : World) : HpIs (w.alloc (.cells (List.replicate 901 (.int .i64 0)).toArray 117)) w.heap.size (fun _ => none) := by
  have hc : Sp.hcnt (fun _ => none) = 0 := Sp.cntN_none 300
  refine ⟨fun _ => 0, ⟨(List.replicate 901 (.int .i64 0)).toArray, ?_, by rw [List.size_toArray, List.length_replicate], fun j hj => ?_⟩, ?_, fun i _ _ => ⟨rfl, rfl⟩⟩
  · show (w.heap.push _)[w.heap.size]? = _
    rw [Array.getElem?_push, if_pos rfl]
  · rw [List.getElem?_toArray, List.getElem?_replicate, if_pos hj]
  · rw [hc]
    exact ⟨rfl, by omega, fun i hi => by omega, fun k _ => .inl ⟨rfl, rfl⟩, fun i _ hi => by omega, fun _ _ => rfl, hc.symm⟩

/-- A key's rank. -/
def Sp.look (M : Nat → Option Int) (k : Int) : Option Int := if 0 ≤ k then M k.toNat else none
theorem Sp.HpI.look_none {z : Nat → Int} {M : Nat → Option Int} {n : Nat} (h : Sp.HpI z M n) {k : Int} (hl : Sp.look M k = none) : Sp.findB z k = false ∧ Sp.findP z k = 0 := by
  have : Sp.findB z k = false := by
    rw [Sp.findB, decide_eq_false_iff_not]
    rintro ⟨h0, h1, h2⟩
    rw [Sp.look, if_pos h0] at hl
    rcases h.pl k.toNat (by omega) with ⟨a, -⟩ | ⟨i, hi, a, b⟩
    · exact h2 a
    · obtain ⟨k', -, c, -, d⟩ := h.it i hi
      have : k' = k.toNat := by omega
      rw [this, hl] at d
      cases d
  exact ⟨this, by rw [Sp.findP, this]; rfl⟩
theorem Sp.HpI.look_some {z : Nat → Int} {M : Nat → Option Int} {n : Nat} (h : Sp.HpI z M n) {k r : Int} (hl : Sp.look M k = some r) : ∃ i j : Nat, Sp.findB z k = true ∧ Sp.findP z k = (i : Int) ∧ i < n ∧ k = (j : Int) ∧ j < 300 ∧ z (i * 2) = (j : Int) ∧ z (i * 2 + 1) = r ∧ M j = some r := by
  by_cases h0 : 0 ≤ k
  · rw [Sp.look, if_pos h0] at hl
    obtain ⟨j, rfl⟩ : ∃ j : Nat, k = (j : Int) := ⟨k.toNat, by omega⟩
    rw [Int.toNat_natCast] at hl
    have hj : j < 300 := by
      rcases Nat.lt_or_ge j 300 with h1 | h1
      · exact h1
      · rw [h.out j h1] at hl; cases hl
    rcases h.pl j hj with ⟨-, a⟩ | ⟨i, hi, a, b⟩
    · rw [hl] at a; cases a
    · obtain ⟨k', -, c, -, d⟩ := h.it i hi
      obtain rfl : k' = j := by omega
      rw [hl] at d
      have hB : Sp.findB z (k' : Int) = true := by rw [Sp.findB, decide_eq_true_eq, Int.toNat_natCast]; omega
      exact ⟨i, k', hB, by rw [Sp.findP, if_pos hB, Int.toNat_natCast]; omega, hi, rfl, hj, b, (Option.some.inj d).symm, hl⟩
  · rw [Sp.look, if_neg h0] at hl; cases hl
end Go.Proofs.Ytoegjnolccabjaa


/- Package heap: Put, Drop, Least, Take. -/
namespace Go.Proofs.Ytoegjnolccabjaa
open Go Go.RowKit

/-- What a heap holds behind Put, behind Drop. -/
def Sp.putK (M : Nat → Option Int) (k r : Int) : Nat → Option Int := if 0 ≤ k ∧ k < 300 then Sp.put M k.toNat (some r) else M
theorem up_wiped {z z' : Nat → Int} {n : Nat} (h : Sp.Wiped z n) (hu : Sp.Up n z z') : Sp.Wiped z' n := fun i h1 h2 => by
  rw [(hu i h1 h2).1, (hu i h1 h2).2]; exact h i h1 h2
theorem HpIs.of_settled {w : World} {b n : Nat} {z : Nat → Int} {M : Nat → Option Int} (h : HpAt w b z) (hi : Sp.HpI z M n) (hw : Sp.Wiped z n) : HpIs w b M := by
  have := hi.cnt
  subst this
  exact ⟨z, h, hi, hw⟩
set_option maxRecDepth 100000 in
set_option maxHeartbeats 4000000 in
theorem hput_any (M : Nat → Option Int) (b : Nat) (k r : Int) (w : World) (h : HpIs w b M) :
    Calls Try.prog 70 #[.pointer (some ⟨b, 0, none⟩), .int .i64 k, .int .i64 r] w fun e w' => e = .returned (.bool (decide (0 ≤ k ∧ k < 300))) ∧ But b w w' ∧ HpIs w' b (Sp.putK M k r) := by
  have hK := isKey_any k w
  by_cases hk : 0 ≤ k ∧ k < 300
  · rw [decide_eq_true hk] at hK ⊢
    have HPK : Hid (Sp.putK M k r = Sp.put M k.toNat (some r)) := hide (if_pos hk)
    obtain ⟨j, rfl⟩ : ∃ j : Nat, k = (j : Int) := ⟨k.toNat, by omega⟩
    rw [Int.toNat_natCast] at HPK
    have hj : j < 300 := by omega
    have HK := hide hK
    clear hK
    obtain ⟨z, h1, h2, h3⟩ := h
    have hF := find_any z b (j : Int) w h1 h2.places
    cases hl : Sp.look M (j : Int) with
    | none =>
      obtain ⟨e1, e2⟩ := h2.look_none hl
      rw [e1, e2] at hF
      rw [Sp.look, if_pos hk.1, Int.toNat_natCast] at hl
      have HF := hide hF
      have hI := h2.new hj hl r
      have hle := hI.le
      have c6 := h1.cell (j := 600) (by omega)
      rw [h2.many] at c6
      have f6 := h1.frozen 600 none
      have HW : Hid (Sp.Wiped (Sp.upd z 600 ((Sp.hcnt M : Int) + 1)) (Sp.hcnt M + 1)) := hide fun i g1 g2 => by
        rw [Sp.upd_other _ _ (by omega), Sp.upd_other _ _ (by omega)]; exact h3 i (by omega) g2
      have H1 := hide (And.intro h1 hI)
      generalize Sp.hcnt M = n at *
      have hwn : IntKind.i64.wrap ((n : Int) + 1) = (n : Int) + 1 := by rw [IntKind.wrap_i64]; omega
      clear hF e1 e2 h1 h2 h3 hl hI hk
      go_enter Try.func70, Try.ntmps70
      go_wp2_with fail
      go_at_call 87
      refine (unhide HK).mono ?_
      rintro e w' ⟨rfl, hw'⟩
      have := hw'.symm
      subst this
      go_wp2_with fail
      go_at_call 88
      refine (unhide HF).mono ?_
      rintro e w' ⟨rfl, hw'⟩
      have := hw'.symm
      subst this
      go_wp2_with fail
      refine (settle_any _ _ b (n + 1) n j r _ ((unhide H1).1.set 600 ((n : Int) + 1)) (unhide H1).2).mono ?_
      rintro e w4 ⟨z4, rfl, hb4, ha4, hi4, hu4⟩
      have HQ : Hid (But b w w4 ∧ HpIs w4 b (Sp.putK M (j : Int) r)) := hide ⟨((But.refl b w).set _ _ _).trans hb4, by rw [unhide HPK]; exact HpIs.of_settled ha4 hi4 (up_wiped (unhide HW) hu4)⟩
      clear hb4 ha4 hi4 hu4 H1 HW
      go_wp2
      go_ret
      exact ⟨rfl, unhide HQ⟩
    | some r0 =>
      obtain ⟨i, j', e1, e2, hi, ej, hj', e3, e4, e5⟩ := h2.look_some hl
      obtain rfl : j = j' := by omega
      rw [e1, e2] at hF
      have HF := hide hF
      have hI := h2.anew hi hj e3 r
      have H1 := hide (And.intro h1 (And.intro hI h3))
      generalize Sp.hcnt M = n at *
      clear hF e1 e2 h1 h2 h3 hl hI hk ej e3 e4 e5
      go_enter Try.func70, Try.ntmps70
      go_wp2_with fail
      go_at_call 87
      refine (unhide HK).mono ?_
      rintro e w' ⟨rfl, hw'⟩
      have := hw'.symm
      subst this
      go_wp2_with fail
      go_at_call 88
      refine (unhide HF).mono ?_
      rintro e w' ⟨rfl, hw'⟩
      have := hw'.symm
      subst this
      go_wp2_with fail
      refine (settle_any _ _ b n i j r _ (unhide H1).1 (unhide H1).2.1).mono ?_
      rintro e w4 ⟨z4, rfl, hb4, ha4, hi4, hu4⟩
      have HQ : Hid (But b w w4 ∧ HpIs w4 b (Sp.putK M (j : Int) r)) := hide ⟨hb4, by rw [unhide HPK]; exact HpIs.of_settled ha4 hi4 (up_wiped (unhide H1).2.2 hu4)⟩
      clear hb4 ha4 hi4 hu4 H1
      go_wp2
      go_ret
      exact ⟨rfl, unhide HQ⟩
  · rw [decide_eq_false hk] at hK ⊢
    have HQ : Hid (But b w w ∧ HpIs w b (Sp.putK M k r)) := hide ⟨But.refl _ _, by rw [Sp.putK, if_neg hk]; exact h⟩
    have HK := hide hK
    clear hK hk h
    go_enter Try.func70, Try.ntmps70
    go_wp2_with fail
    go_at_call 87
    refine (unhide HK).mono ?_
    rintro e w' ⟨rfl, hw'⟩
    have := hw'.symm
    subst this
    go_wp2
    go_ret
    exact ⟨rfl, unhide HQ⟩
end Go.Proofs.Ytoegjnolccabjaa


/- Package heap: Least, Take. -/
namespace Go.Proofs.Ytoegjnolccabjaa
open Go Go.RowKit

/-- What is ahead of all that M holds; nothing, of none. -/
def Sp.LeastIs (M : Nat → Option Int) (k r : Int) (is : Bool) : Prop :=
  (is = false ∧ k = 0 ∧ r = 0 ∧ ∀ j, M j = none) ∨ (is = true ∧ ∃ j : Nat, k = (j : Int) ∧ j < 300 ∧ M j = some r ∧ ∀ j' r', M j' = some r' → Sp.aheadB (j' : Int) r' k r = false)
theorem Sp.LeastIs.uniq {M : Nat → Option Int} {k r k' r' : Int} {is is' : Bool} (h : Sp.LeastIs M k r is) (h' : Sp.LeastIs M k' r' is') : k = k' ∧ r = r' ∧ is = is' := by
  rcases h with ⟨a, b, c, d⟩ | ⟨a, j, b, -, c, d⟩
  · rcases h' with ⟨a', b', c', d'⟩ | ⟨a', j', b', -, c', d'⟩
    · exact ⟨by omega, by omega, by rw [a, a']⟩
    · rw [d j'] at c'; cases c'
  · rcases h' with ⟨a', b', c', d'⟩ | ⟨a', j', b', -, c', d'⟩
    · rw [d' j] at c; cases c
    · have h1 := d j' r' c'
      have h2 := d' j r c
      rw [Sp.ahead_no] at h1 h2
      exact ⟨by omega, by omega, by rw [a, a']⟩
theorem Sp.HpI.least {z : Nat → Int} {M : Nat → Option Int} {n : Nat} (h : Sp.HpI z M n) (hw : Sp.Wiped z n) : Sp.LeastIs M (z (0 * 2)) (z (0 * 2 + 1)) (decide (0 < n)) := by
  by_cases h0 : 0 < n
  · obtain ⟨k, hk, a, b, c⟩ := h.it 0 h0
    refine .inr ⟨decide_eq_true h0, k, a, hk, c, fun j' r' hm => ?_⟩
    have hj : j' < 300 := by
      rcases Nat.lt_or_ge j' 300 with h1 | h1
      · exact h1
      · rw [h.out j' h1] at hm; cases hm
    rcases h.pl j' hj with ⟨-, e⟩ | ⟨i, hi, e, f⟩
    · rw [hm] at e; cases e
    · have := h.first i hi
      obtain ⟨k2, -, g, -, g2⟩ := h.it i hi
      have hk2 : k2 = j' := by omega
      rw [hk2, hm] at g2
      rw [← f, Option.some.inj g2]
      exact this
  · refine .inl ⟨decide_eq_false h0, (hw 0 (by omega) (by omega)).1, (hw 0 (by omega) (by omega)).2, fun j => ?_⟩
    rcases Nat.lt_or_ge j 300 with h1 | h1
    · rcases h.pl j h1 with ⟨-, e⟩ | ⟨i, hi, -, -⟩
      · exact e
      · omega
    · exact h.out j h1
theorem But.trans' {b : Nat} {u w w' : World} (h : But b u w) (k : Below u.heap.size w w') : But b u w' :=
  ⟨k.os.trans h.os, k.tape.trans h.tape, k.output.trans h.output, Nat.le_trans h.size k.size, fun i hi hb => (k.block i hi).trans (h.block i hi hb)⟩
set_option maxRecDepth 100000 in
set_option maxHeartbeats 4000000 in
theorem hleast0_any (z : Nat → Int) (n b : Nat) (w : World) (h : HpAt w b z) (hn : z 600 = (n : Int)) :
    Calls Try.prog 90 #[.pointer (some ⟨b, 0, none⟩)] w fun e w' => e = .returned (.tuple #[.agg #[.int .i64 (z (0 * 2)), .int .i64 (z (0 * 2 + 1))], .bool (decide (0 < n))]) ∧ Below w.heap.size w w' := by
  have hb := h.lt
  have c6 := fun o => (h.alloc o).cell (j := 600) (by omega)
  have d6 := h.cell (j := 600) (by omega)
  rw [hn] at c6 d6
  have c0 := fun o => (h.alloc o).cell (j := 0) (by omega)
  have c1 := fun o => (h.alloc o).cell (j := 1) (by omega)
  have d0 := h.cell (j := 0) (by omega)
  have d1 := h.cell (j := 1) (by omega)
  have HB : Hid (∀ o, Below w.heap.size w (w.alloc o).drew) := hide fun o => ((Below.refl _ w).alloc (Nat.le_refl _) o).drew
  show Calls Try.prog 90 #[.pointer (some ⟨b, 0, none⟩)] w fun e w' => e = .returned (.tuple #[.agg #[.int .i64 (z 0), .int .i64 (z 1)], .bool (decide (0 < n))]) ∧ Below w.heap.size w w'
  generalize z 0 = k0 at *
  generalize z 1 = r0 at *
  clear h hn
  go_enter Try.func90, Try.ntmps90
  go_wp2_with fail
  go_region
  go_wp2
  refine bodyPost_ret (v := .tuple #[.agg #[.int .i64 k0, .int .i64 r0], .bool (decide (0 < n))]) (by simp [results, Try.results90, go_sem]) rfl ?_
  exact ⟨rfl, unhide HB _⟩
theorem But.set_new {b B : Nat} {u w : World} (h : But b u w) (hB : u.heap.size ≤ B) (j : Nat) (v : Value) : But b u (w.setCell ⟨B, j, none⟩ v) :=
  h.trans' ⟨rfl, rfl, rfl, by simp [World.setCell], fun k hk => Below.heap_setCell _ _ _ _ (by show k ≠ B; omega)⟩
theorem cell_set_eq {w : World} {a : Addr} {v u : Value} (h : w.cell? a = some u) : (w.setCell a v).cell? a = some v := by
  apply World.cell?_setCell_same; exact h
/-- An item's block. -/
theorem item_at {w : World} {B : Nat} {k r : Value} (h : w.heap[B]? = some (.cells #[k, r] 103)) : w.cell? ⟨B, 0, none⟩ = some k ∧ w.cell? ⟨B, 1, none⟩ = some r ∧ ∀ j, w.frozen? ⟨B, j, none⟩ = false := by
  refine ⟨?_, ?_, fun j => ?_⟩
  · simp only [World.cell?, h]; rfl
  · simp only [World.cell?, h]; rfl
  · simp [World.frozen?, h]
set_option maxRecDepth 100000 in
set_option maxHeartbeats 4000000 in
theorem htake_any (M : Nat → Option Int) (b : Nat) (w : World) (h : HpIs w b M) :
    Calls Try.prog 72 #[.pointer (some ⟨b, 0, none⟩)] w fun e w' => ∃ k r is, e = .returned (.tuple #[.agg #[.int .i64 k, .int .i64 r], .bool is]) ∧ Sp.LeastIs M k r is ∧ But b w w' ∧ HpIs w' b (Sp.put M k.toNat none) := by
  have hb := h.lt
  have h0 := h
  obtain ⟨z, h1, h2, h3⟩ := h
  have hL := h2.least h3
  have hLs := fun w' (hw : HpAt w' b z) => hleast0_any z (Sp.hcnt M) b w' hw h2.many
  have HW : Hid (∀ w', Below (w.heap.size + 1) (w.alloc (.cells #[.int .i64 0, .int .i64 0] 103)) w' → Below w.heap.size w w' ∧ w'.heap[w.heap.size]? = some (.cells #[.int .i64 0, .int .i64 0] 103) ∧ HpAt w' b z ∧ w.heap.size + 1 ≤ w'.heap.size) := hide fun w' hb' => by
    have hb1 : Below w.heap.size w (w.alloc (.cells #[.int .i64 0, .int .i64 0] 103)) := (Below.refl _ w).alloc (Nat.le_refl _) _
    have hb2 := hb1.trans (hb'.mono (Nat.le_succ _))
    refine ⟨hb2, ?_, h1.below hb2, by have := hb'.size; simp at this; omega⟩
    rw [hb'.block _ (Nat.lt_succ_self _)]
    show (w.heap.push _)[w.heap.size]? = _
    rw [Array.getElem?_push, if_pos rfl]
  have hs : (w.alloc (.cells #[.int .i64 0, .int .i64 0] 103)).heap.size = w.heap.size + 1 := by simp
  have hL0 := hLs _ (unhide HW _ (Below.refl _ _)).2.2.1
  rw [hs] at hL0
  have HL0 := hide hL0
  have H0 := hide (And.intro h1 (And.intro h2 (And.intro h3 h0)))
  have HLe := hide hL
  clear hL hLs hL0 h1 h2 h3 h0 hs
  generalize hk0 : z (0 * 2) = k0 at *
  generalize z (0 * 2 + 1) = r0 at *
  have HK0 := hide hk0
  clear hk0
  obtain ⟨P, hP⟩ : ∃ P : Ending → World → Prop, P = fun e w' => ∃ k r is, e = .returned (.tuple #[.agg #[.int .i64 k, .int .i64 r], .bool is]) ∧ Sp.LeastIs M k r is ∧ But b w w' ∧ HpIs w' b (Sp.put M k.toNat none) := ⟨_, rfl⟩
  rw [← hP]
  have HP := hide hP
  clear hP
  by_cases hn : 0 < Sp.hcnt M
  · rw [decide_eq_true hn] at HL0 HLe
    go_enter Try.func72, Try.ntmps72
    go_wp2_with fail
    go_at_call 90
    generalize w.alloc (.cells #[.int .i64 0, .int .i64 0] 103) = W0 at *
    refine (unhide HL0).mono ?_
    rintro e w2 ⟨rfl, hb2⟩
    obtain ⟨hb3, hB3, hp3, hs3⟩ := unhide HW _ hb2
    have H2 := hide (And.intro hb3 (And.intro hB3 hp3))
    have hs2 := hs3
    clear hb3 hB3 hp3 hb2
    obtain ⟨j, hkj, hj⟩ : ∃ j : Nat, k0 = (j : Int) ∧ j < 300 := by
      rcases unhide HLe with ⟨a, -⟩ | ⟨-, j, a, b, -⟩
      · cases a
      · exact ⟨j, a, b⟩
    subst hkj
    obtain ⟨m, hm⟩ : ∃ m, Sp.hcnt M = m + 1 := ⟨Sp.hcnt M - 1, by omega⟩
    rw [hm] at H0
    have hR := remove_any z M b m 0 j (w2.alloc (.cells #[.int .i64 (j : Int), .int .i64 r0] 103)) ((unhide H2).2.2.alloc _) (unhide H0).2.1 (unhide H0).2.2.1 (by omega) (unhide HK0)
    rw [show (((0 : Nat)) : Int) = 0 from rfl] at hR
    have HR := hide hR
    have HI : Hid ((w2.alloc (.cells #[.int .i64 (j : Int), .int .i64 r0] 103)).heap[w2.heap.size]? = some (.cells #[.int .i64 (j : Int), .int .i64 r0] 103) ∧ (w2.alloc (.cells #[.int .i64 (j : Int), .int .i64 r0] 103)).heap[w.heap.size]? = some (.cells #[.int .i64 0, .int .i64 0] 103) ∧ (w2.alloc (.cells #[.int .i64 (j : Int), .int .i64 r0] 103)).heap.size = w2.heap.size + 1 ∧ But b w (w2.alloc (.cells #[.int .i64 (j : Int), .int .i64 r0] 103))) := hide ⟨by
      show (w2.heap.push _)[w2.heap.size]? = _
      rw [Array.getElem?_push, if_pos rfl], by
      rw [Below.heap_alloc _ _ _ (by omega)]; exact (unhide H2).2.1, by simp, (But.of (unhide H2).1).alloc _⟩
    clear hR hm hn hj hs3
    go_wp2_with fail
    generalize w2.alloc (.cells #[.int .i64 (j : Int), .int .i64 r0] 103) = W3 at *
    refine (unhide HR).mono ?_
    rintro e w4 ⟨rfl, hb4, hi4⟩
    have hs4 := (unhide HI).2.2.1
    have hg4 := hb4.size
    obtain ⟨x0, x1, -⟩ := item_at (w := w4) (B := w2.heap.size) ((hb4.block _ (by omega) (by omega)).trans (unhide HI).1)
    obtain ⟨y0, y1, yf⟩ := item_at (w := w4) (B := w.heap.size) ((hb4.block _ (by omega) (by omega)).trans (unhide HI).2.1)
    have y1' := fun v : Value => show (w4.setCell ⟨w.heap.size, 0, none⟩ v).cell? ⟨w.heap.size, 1, none⟩ = some (.int .i64 0) by rw [cell_set_ne (by omega)]; exact y1
    have HQ : Hid (∀ v v', But b w ((w4.setCell ⟨w.heap.size, 0, none⟩ v).setCell ⟨w.heap.size, 1, none⟩ v') ∧ HpIs ((w4.setCell ⟨w.heap.size, 0, none⟩ v).setCell ⟨w.heap.size, 1, none⟩ v') b (Sp.put M j none) ∧ ((w4.setCell ⟨w.heap.size, 0, none⟩ v).setCell ⟨w.heap.size, 1, none⟩ v').cell? ⟨w.heap.size, 0, none⟩ = some v ∧ ((w4.setCell ⟨w.heap.size, 0, none⟩ v).setCell ⟨w.heap.size, 1, none⟩ v').cell? ⟨w.heap.size, 1, none⟩ = some v') := hide fun v v' => ⟨(((unhide HI).2.2.2.trans hb4).set_new (Nat.le_refl _) _ _).set_new (Nat.le_refl _) _ _, hi4.of_block (by rw [Below.heap_setCell _ _ _ _ (by show b ≠ w.heap.size; omega), Below.heap_setCell _ _ _ _ (by show b ≠ w.heap.size; omega)]), by
      rw [cell_set_ne (by omega)]; exact cell_set_eq y0, cell_set_eq (y1' v)⟩
    have r0' := (unhide HQ (.int .i64 (j : Int)) (.int .i64 r0)).2.2.1
    have r1' := (unhide HQ (.int .i64 (j : Int)) (.int .i64 r0)).2.2.2
    clear hb4 hi4 hs4 hg4 HR
    go_wp2
    refine bodyPost_ret (v := .tuple #[.agg #[.int .i64 (j : Int), .int .i64 r0], .bool true]) (by simp [results, Try.results72, go_sem, r0', r1']) rfl ?_
    rw [unhide HP]
    exact ⟨_, _, _, rfl, unhide HLe, (unhide HQ _ _).1, by rw [Int.toNat_natCast]; exact (unhide HQ _ _).2.1⟩
  · rw [decide_eq_false hn] at HL0 HLe
    go_enter Try.func72, Try.ntmps72
    go_wp2_with fail
    go_at_call 90
    generalize w.alloc (.cells #[.int .i64 0, .int .i64 0] 103) = W0 at *
    refine (unhide HL0).mono ?_
    rintro e w2 ⟨rfl, hb2⟩
    obtain ⟨hb3, hB3, hp3, hs3⟩ := unhide HW _ hb2
    have hI1 : (w2.alloc (.cells #[.int .i64 k0, .int .i64 r0] 103)).heap[w2.heap.size]? = some (.cells #[.int .i64 k0, .int .i64 r0] 103) := by
      show (w2.heap.push _)[w2.heap.size]? = _
      rw [Array.getElem?_push, if_pos rfl]
    have hI2 : (w2.alloc (.cells #[.int .i64 k0, .int .i64 r0] 103)).heap[w.heap.size]? = some (.cells #[.int .i64 0, .int .i64 0] 103) := by
      rw [Below.heap_alloc _ _ _ (by omega)]; exact hB3
    obtain ⟨x0, x1, -⟩ := item_at hI1
    obtain ⟨y0, y1, yf⟩ := item_at hI2
    have y1' := fun v : Value => show ((w2.alloc (.cells #[.int .i64 k0, .int .i64 r0] 103)).setCell ⟨w.heap.size, 0, none⟩ v).cell? ⟨w.heap.size, 1, none⟩ = some (.int .i64 0) by rw [cell_set_ne (by omega)]; exact y1
    have HQ : Hid (∀ v v', But b w (((w2.alloc (.cells #[.int .i64 k0, .int .i64 r0] 103)).setCell ⟨w.heap.size, 0, none⟩ v).setCell ⟨w.heap.size, 1, none⟩ v') ∧ HpIs (((w2.alloc (.cells #[.int .i64 k0, .int .i64 r0] 103)).setCell ⟨w.heap.size, 0, none⟩ v).setCell ⟨w.heap.size, 1, none⟩ v') b M) := hide fun v v' => ⟨((((But.of hb3).alloc _).set_new (Nat.le_refl _) _ _).set_new (Nat.le_refl _) _ _), ((unhide H0).2.2.2.below (hb3.trans ((Below.refl _ w2).alloc (by omega) _))).of_block (by rw [Below.heap_setCell _ _ _ _ (by show b ≠ w.heap.size; omega), Below.heap_setCell _ _ _ _ (by show b ≠ w.heap.size; omega)])⟩
    have r0' := fun v' : Value => show (((w2.alloc (.cells #[.int .i64 k0, .int .i64 r0] 103)).setCell ⟨w.heap.size, 0, none⟩ (.int .i64 k0)).setCell ⟨w.heap.size, 1, none⟩ v').cell? ⟨w.heap.size, 0, none⟩ = some (.int .i64 k0) by rw [cell_set_ne (by omega)]; exact cell_set_eq y0
    have r1' := show (((w2.alloc (.cells #[.int .i64 k0, .int .i64 r0] 103)).setCell ⟨w.heap.size, 0, none⟩ (.int .i64 k0)).setCell ⟨w.heap.size, 1, none⟩ (.int .i64 r0)).cell? ⟨w.heap.size, 1, none⟩ = some (.int .i64 r0) from cell_set_eq (y1' _)
    clear hb3 hB3 hp3 hb2 hI1 hI2
    go_wp2
    refine bodyPost_ret (v := .tuple #[.agg #[.int .i64 k0, .int .i64 r0], .bool false]) (by simp [results, Try.results72, go_sem, r0', r1']) rfl ?_
    rw [unhide HP]
    refine ⟨_, _, _, rfl, unhide HLe, (unhide HQ _ _).1, ?_⟩
    rcases unhide HLe with ⟨-, a, -, c⟩ | ⟨a, -⟩
    · rw [Sp.put_none _ _ (c _)]; exact (unhide HQ _ _).2
    · cases a
end Go.Proofs.Ytoegjnolccabjaa


/- Package path: and, less, rank, turned. -/
namespace Go.Proofs.Ytoegjnolccabjaa
open Go Go.RowKit

theorem cost_new (w : World) (x y : Value) : (w.alloc (.cells #[x, y] 82)).cell? ⟨w.heap.size, 0, none⟩ = some x ∧ (w.alloc (.cells #[x, y] 82)).cell? ⟨w.heap.size, 1, none⟩ = some y := by
  have e : (w.alloc (.cells #[x, y] 82)).heap[w.heap.size]? = some (.cells #[x, y] 82) := by
    show (w.heap.push _)[w.heap.size]? = _
    simp
  refine ⟨?_, ?_⟩ <;> simp only [World.cell?, e] <;> rfl
theorem cell_alloc {w : World} {a : Addr} {o : Obj} (h : a.block < w.heap.size) : (w.alloc o).cell? a = w.cell? a := World.cell?_of_block (Below.heap_alloc _ _ _ h)
set_option maxRecDepth 100000 in
set_option maxHeartbeats 1000000 in
theorem rank_any (x y : Int) (w : World) (h1 : -1125899906842624 ≤ x) (h2 : x ≤ 1125899906842624) (h3 : 0 ≤ y) (h4 : y ≤ 1125899906842624) : Calls Try.prog 71 #[.agg #[.int .i64 x, .int .i64 y]] w fun e w' => e = .returned (.int .i64 (x * 300 + y)) ∧ Below w.heap.size w w' := by
  obtain ⟨x0, x1⟩ := cost_new w (.int .i64 x) (.int .i64 y)
  have HB := hide ((Below.refl _ w).alloc (Nat.le_refl _) (.cells #[.int .i64 x, .int .i64 y] 82))
  go_enter Try.func71, Try.ntmps71
  go_wp2
  go_ret
  exact ⟨by rfl, unhide HB⟩
def Sp.lessB (x y x' y' : Int) : Bool := decide (x < x' ∨ (x = x' ∧ y < y'))
set_option maxRecDepth 100000 in
set_option maxHeartbeats 1000000 in
theorem less_any (x y x' y' : Int) (w : World) : Calls Try.prog 74 #[.agg #[.int .i64 x, .int .i64 y], .agg #[.int .i64 x', .int .i64 y']] w fun e w' => e = .returned (.bool (Sp.lessB x y x' y')) ∧ Below w.heap.size w w' := by
  have HB : Hid (∀ o o', Below w.heap.size w ((w.alloc o).alloc o')) := hide fun o o' => ((Below.refl _ w).alloc (Nat.le_refl _) o).alloc (by simp) o'
  by_cases h0 : x < x'
  · have HR : Hid (Sp.lessB x y x' y' = true) := hide (by simp [Sp.lessB, h0])
    generalize Sp.lessB x y x' y' = R at *
    go_enter Try.func74, Try.ntmps74
    go_wp2
    go_ret
    exact ⟨by rw [unhide HR]; rfl, unhide HB _ _⟩
  · by_cases h1 : x = x'
    · subst h1
      by_cases h2 : y < y'
      · have HR : Hid (Sp.lessB x y x y' = true) := hide (by simp [Sp.lessB, h2])
        generalize Sp.lessB x y x y' = R at *
        go_enter Try.func74, Try.ntmps74
        go_wp2
        go_ret
        exact ⟨by rw [unhide HR]; rfl, unhide HB _ _⟩
      · have HR : Hid (Sp.lessB x y x y' = false) := hide (by simp [Sp.lessB, h2])
        generalize Sp.lessB x y x y' = R at *
        go_enter Try.func74, Try.ntmps74
        go_wp2
        go_ret
        exact ⟨by rw [unhide HR]; rfl, unhide HB _ _⟩
    · have HR : Hid (Sp.lessB x y x' y' = false) := hide (by simp [Sp.lessB, h0, h1])
      generalize Sp.lessB x y x' y' = R at *
      go_enter Try.func74, Try.ntmps74
      go_wp2
      go_ret
      exact ⟨by rw [unhide HR]; rfl, unhide HB _ _⟩
set_option maxRecDepth 100000 in
set_option maxHeartbeats 2000000 in
theorem and_any (x y f t l : Int) (w : World) (h1 : -2305843009213693952 ≤ x) (h2 : x ≤ 2305843009213693952) (h3 : -1125899906842624 ≤ l) (h4 : l ≤ 1125899906842624) (h5 : 0 ≤ y) (h6 : y ≤ 1125899906842624) : Calls Try.prog 73 #[.agg #[.int .i64 x, .int .i64 y], .agg #[.int .i64 f, .int .i64 t, .int .i64 l]] w fun e w' => e = .returned (.agg #[.int .i64 (x + l), .int .i64 (y + 1)]) ∧ Below w.heap.size w w' := by
  obtain ⟨W1, hW1⟩ : ∃ W1, W1 = w.alloc (.cells #[.int .i64 x, .int .i64 y] 82) := ⟨_, rfl⟩
  obtain ⟨W2, hW2⟩ : ∃ W2, W2 = W1.alloc (.cells #[.int .i64 f, .int .i64 t, .int .i64 l] 71) := ⟨_, rfl⟩
  have hs1 : W1.heap.size = w.heap.size + 1 := by rw [hW1]; simp
  obtain ⟨x0, x1⟩ := cost_new w (.int .i64 x) (.int .i64 y)
  obtain ⟨y0, y1, y2⟩ := arc_new W1 (.int .i64 f) (.int .i64 t) (.int .i64 l)
  rw [← hW1] at x0 x1
  rw [← hW2, hs1] at y2
  have a0 : W2.cell? ⟨w.heap.size, 0, none⟩ = some (.int .i64 x) := by rw [hW2, cell_alloc (by show w.heap.size < _; omega)]; exact x0
  have a1 : W2.cell? ⟨w.heap.size, 1, none⟩ = some (.int .i64 y) := by rw [hW2, cell_alloc (by show w.heap.size < _; omega)]; exact x1
  have HB : Hid (∀ o, Below w.heap.size w (W2.alloc o)) := hide fun o => by rw [hW2, hW1]; exact (((Below.refl _ w).alloc (Nat.le_refl _) _).alloc (by simp) _).alloc (by simp; omega) _
  have HA : Hid (∀ o, (W2.alloc o).cell? ⟨w.heap.size, 0, none⟩ = some (.int .i64 x) ∧ (W2.alloc o).cell? ⟨w.heap.size, 1, none⟩ = some (.int .i64 y) ∧ (W2.alloc o).cell? ⟨w.heap.size + 1, 2, none⟩ = some (.int .i64 l)) := hide fun o => by
    have hs2 : W2.heap.size = w.heap.size + 2 := by rw [hW2]; simp; omega
    exact ⟨(cell_alloc (by show w.heap.size < _; omega)).trans a0, (cell_alloc (by show w.heap.size < _; omega)).trans a1, (cell_alloc (by show w.heap.size + 1 < _; omega)).trans y2⟩
  have b0 := fun o => (unhide HA o).1
  have b1 := fun o => (unhide HA o).2.1
  have b2 := fun o => (unhide HA o).2.2
  clear x0 x1 y0 y1 hs1
  subst hW2 hW1
  go_enter Try.func73, Try.ntmps73
  go_wp2_with fail
  refine bodyPost_ret (v := .agg #[.int .i64 (x + l), .int .i64 (y + 1)]) (by simp [results, Try.results73, go_sem]) rfl ?_
  exact ⟨rfl, unhide HB _⟩

/-- Block b is a row of n numbers, three for each arc. -/
def AcAt (w : World) (b n : Nat) (z : Nat → Int) : Prop := ∃ c, w.heap[b]? = some (.cells c 71) ∧ c.size = n ∧ ∀ j, j < n → c[j]? = some (.int .i64 (z j))
theorem AcAt.lt {w : World} {b n : Nat} {z : Nat → Int} (h : AcAt w b n z) : b < w.heap.size := by
  obtain ⟨c, hc, -⟩ := h
  exact (Array.getElem?_eq_some_iff.1 hc).1
theorem AcAt.cell {w : World} {b n : Nat} {z : Nat → Int} (h : AcAt w b n z) {j : Nat} (hj : j < n) : w.cell? ⟨b, j, none⟩ = some (.int .i64 (z j)) := by
  obtain ⟨c, hc, -, hz⟩ := h
  simp only [World.cell?, hc]
  exact hz j hj
theorem AcAt.frozen {w : World} {b n : Nat} {z : Nat → Int} (h : AcAt w b n z) (j : Nat) (s : Option Nat) : w.frozen? ⟨b, j, s⟩ = false := by
  obtain ⟨c, hc, -⟩ := h
  simp only [World.frozen?, hc]
  simp
theorem AcAt.of_block {w w' : World} {b n : Nat} {z : Nat → Int} (h : AcAt w b n z) (e : w'.heap[b]? = w.heap[b]?) : AcAt w' b n z := by
  obtain ⟨c, hc, h1⟩ := h
  exact ⟨c, by rw [e]; exact hc, h1⟩
theorem AcAt.set {w : World} {b n : Nat} {z : Nat → Int} (h : AcAt w b n z) (j : Nat) (v : Int) : AcAt (w.setCell ⟨b, j, none⟩ (.int .i64 v)) b n (Sp.upd z j v) := by
  obtain ⟨c, hc, hs, hz⟩ := h
  refine ⟨c.setIfInBounds j (.int .i64 v), ?_, by simpa using hs, fun k hk => ?_⟩
  · simp only [World.setCell, Array.getElem?_modify, if_pos, hc]
    rfl
  · rw [Array.getElem?_setIfInBounds]
    by_cases hjk : j = k
    · rw [if_pos hjk, if_pos (by omega), ← hjk, Sp.upd_same]
    · rw [if_neg hjk, hz k hk, Sp.upd_other _ _ (by omega)]
theorem AcAt.set_ne {w : World} {b n : Nat} {z : Nat → Int} (h : AcAt w b n z) {b' : Nat} (hb : b ≠ b') (j : Nat) (s : Option Nat) (v : Value) : AcAt (w.setCell ⟨b', j, s⟩ v) b n z :=
  h.of_block (Below.heap_setCell _ _ _ _ hb)
theorem AcAt.below {w w' : World} {b n : Nat} {z : Nat → Int} (h : AcAt w b n z) (hb : Below w.heap.size w w') : AcAt w' b n z := h.of_block (hb.block b h.lt)
theorem AcAt.bt {p : Nat → Prop} {w w' : World} {b n : Nat} {z : Nat → Int} (h : AcAt w b n z) (hb : Bt p w w') (hp : ¬ p b) : AcAt w' b n z := h.of_block (hb.block b h.lt hp)
theorem AcAt.alloc {w : World} {b n : Nat} {z : Nat → Int} (h : AcAt w b n z) (o : Obj) : AcAt (w.alloc o) b n z := h.below ((Below.refl _ w).alloc (Nat.le_refl _) o)
theorem AcAt.drew {w : World} {b n : Nat} {z : Nat → Int} (h : AcAt w b n z) : AcAt w.drew b n z := h.of_block rfl
theorem AcAt.dn {w : World} {b n : Nat} {z : Nat → Int} (h : AcAt w b n z) (k : Nat) : AcAt (w.drewN k) b n z := h.of_block rfl
theorem AcAt.congr {w : World} {b n : Nat} {z z' : Nat → Int} (h : AcAt w b n z) (e : ∀ j, j < n → z j = z' j) : AcAt w b n z' := by
  obtain ⟨c, hc, hs, hz⟩ := h
  exact ⟨c, hc, hs, fun j hj => by rw [← e j hj]; exact hz j hj⟩

theorem AcAt.own {w : World} {b m B : Nat} {y : Nat → Int} {L : List Sp.Arc} (h : AcAt w b (m * 3) y) (hL : L.length = m) (hy : ∀ j, j < m → y (j * 3) = ((L.getD j Sp.arc0).f : Int) ∧ y (j * 3 + 1) = ((L.getD j Sp.arc0).t : Int) ∧ y (j * 3 + 2) = (L.getD j Sp.arc0).l) (hB : B ≤ b) (hm : m ≤ 1000000) : OwnA w B (.slice (some ⟨b, 0, none⟩) m m) L := by
  subst hL
  obtain ⟨c, hc, hs, hz⟩ := h
  refine ⟨by rw [Sp.cells3_len], .inr ⟨b, L.length, c, rfl, hB, hc, Nat.le_refl _, by unfold maxLen; omega, hs, ?_⟩⟩
  apply List.ext_getElem?
  intro i
  rw [List.getElem?_take]
  by_cases hi : i < L.length * 3
  · rw [if_pos hi, Array.getElem?_toList, hz i hi]
    obtain ⟨g0, g1, g2⟩ := Sp.cells3_get L (i / 3) (by omega)
    obtain ⟨y0, y1, y2⟩ := hy (i / 3) (by omega)
    rcases (show i = i / 3 * 3 ∨ i = i / 3 * 3 + 1 ∨ i = i / 3 * 3 + 2 by omega) with e | e | e
    · rw [← e] at g0 y0; rw [g0, y0]
    · rw [← e] at g1 y1; rw [g1, y1]
    · rw [← e] at g2 y2; rw [g2, y2]
  · rw [if_neg hi, List.getElem?_eq_none (by rw [Sp.cells3_len]; omega)]
/-- An arc the other way about. -/
def Sp.sw (a : Sp.Arc) : Sp.Arc := ⟨a.t, a.f, a.l⟩
def Sp.tc (L : List Sp.Arc) (d : Nat) : Nat → Int := fun j => if j / 3 < d then (if j % 3 = 0 then ((L.getD (j / 3) Sp.arc0).t : Int) else if j % 3 = 1 then ((L.getD (j / 3) Sp.arc0).f : Int) else (L.getD (j / 3) Sp.arc0).l) else 0
end Go.Proofs.Ytoegjnolccabjaa


/- Places settled by a heap of ranks (P601: From, Way): what stays along spread. -/
namespace Go.Proofs.Ytoegjnolccabjaa
open Go Go.RowKit

/-- A row of costs as ranks. -/
def Sp.rk (y : Nat → Int) : Nat → Int := fun v => y (v * 2) * 300 + y (v * 2 + 1)
def Sp.Bd (n c : Nat) (y : Nat → Int) : Prop := ∀ v, v < n → (y (v * 2) = 1152921504606846976 ∧ y (v * 2 + 1) = 0) ∨ (0 ≤ y (v * 2) ∧ y (v * 2) ≤ (c : Int) * 1099511627776 ∧ 0 ≤ y (v * 2 + 1) ∧ y (v * 2 + 1) ≤ (c : Int))
def Sp.pr (a : Sp.Arc) : Sp.Arc := ⟨a.f, a.t, 300 * a.l + 1⟩
theorem Sp.mem_pairL {L : List Sp.Arc} {b : Sp.Arc} : b ∈ Sp.pairL 300 L ↔ ∃ a ∈ L, b = Sp.pr a := by
  unfold Sp.pairL
  rw [List.mem_map]
  constructor
  · rintro ⟨a, h, rfl⟩; exact ⟨a, h, rfl⟩
  · rintro ⟨a, h, rfl⟩; exact ⟨a, h, rfl⟩
theorem Sp.Bd.mono {n c c' : Nat} {y : Nat → Int} (h : Sp.Bd n c y) (hc : c ≤ c') : Sp.Bd n c' y := fun v hv => by
  rcases h v hv with h | h
  · exact .inl h
  · exact .inr ⟨h.1, by omega, h.2.2.1, by omega⟩
theorem Sp.Bd.far {n c : Nat} {y : Nat → Int} (h : Sp.Bd n c y) (hc : c ≤ 290) {v : Nat} (hv : v < n) : Sp.rk y v = 345876451382054092800 ↔ y (v * 2) = 1152921504606846976 := by
  unfold Sp.rk
  rcases h v hv with h | h <;> omega
theorem Sp.Bd.lt {n c : Nat} {y : Nat → Int} (h : Sp.Bd n c y) (hc : c ≤ 290) {v : Nat} (hv : v < n) (hf : y (v * 2) ≠ 1152921504606846976) : 0 ≤ Sp.rk y v ∧ Sp.rk y v < 144115188075855872 := by
  unfold Sp.rk
  rcases h v hv with h | h <;> omega
structure Sp.SpI (L : List Sp.Arc) (s n : Nat) (y : Nat → Int) (M : Nat → Option Int) (S : Nat → Bool) : Prop where
  dj : Sp.Dj 345876451382054092800 (Sp.pairL 300 L) s n (Sp.rk y) (fun v => S v = true)
  bd : Sp.Bd n (Sp.ct S n) y
  hp : ∀ v, v < n → M v = if S v = false ∧ y (v * 2) ≠ 1152921504606846976 then some (Sp.rk y v) else none
  hn : ∀ v, n ≤ v → M v = none
structure Sp.SpX (L : List Sp.Arc) (s n x c : Nat) (y : Nat → Int) (M : Nat → Option Int) (S : Nat → Bool) (P : Sp.Arc → Prop) : Prop where
  djx : Sp.DjX 345876451382054092800 (Sp.pairL 300 L) s n x (Sp.rk y) (fun v => S v = true) P
  bd : Sp.Bd n (c + 1) y
  bx : 0 ≤ y (x * 2) ∧ y (x * 2) ≤ (c : Int) * 1099511627776 ∧ 0 ≤ y (x * 2 + 1) ∧ y (x * 2 + 1) ≤ (c : Int)
  hp : ∀ v, v < n → M v = if S v = false ∧ v ≠ x ∧ y (v * 2) ≠ 1152921504606846976 then some (Sp.rk y v) else none
  hn : ∀ v, n ≤ v → M v = none
def Sp.y0 (s : Nat) : Nat → Int := Sp.upd (Sp.upd (fun j => if j % 2 = 0 then 1152921504606846976 else 0) (s * 2) 0) (s * 2 + 1) 0
theorem Sp.y0_at (s v : Nat) : Sp.y0 s (v * 2) = (if v = s then 0 else 1152921504606846976) ∧ Sp.y0 s (v * 2 + 1) = 0 := by
  unfold Sp.y0 Sp.upd
  constructor
  · rw [if_neg (by omega)]
    by_cases h : v = s
    · rw [if_pos (by omega), if_pos h]
    · rw [if_neg (by omega), if_neg h]
      show (if v * 2 % 2 = 0 then (1152921504606846976 : Int) else 0) = _
      rw [if_pos (by omega)]
  · by_cases h : v = s
    · rw [if_pos (by omega)]
    · rw [if_neg (by omega), if_neg (by omega)]
      show (if (v * 2 + 1) % 2 = 0 then (1152921504606846976 : Int) else 0) = _
      rw [if_neg (by omega)]
theorem Sp.ct_false (n : Nat) : Sp.ct (fun _ => false) n = 0 := by
  unfold Sp.ct; simp
theorem Sp.SpI.start (L : List Sp.Arc) {s n : Nat} (hs : s < n) : Sp.SpI L s n (Sp.y0 s) (Sp.putK (fun _ => none) (s : Int) 0) (fun _ => false) ∨ 300 ≤ n := by
  by_cases hn : 300 ≤ n
  · exact .inr hn
  refine .inl ?_
  have e : ∀ v, Sp.rk (Sp.y0 s) v = if v = s then 0 else 345876451382054092800 := fun v => by
    unfold Sp.rk
    rw [(Sp.y0_at s v).1, (Sp.y0_at s v).2]
    split <;> rfl
  have eM : Sp.putK (fun _ => none) (s : Int) 0 = Sp.put (fun _ => none) s (some 0) := by unfold Sp.putK; rw [if_pos (by omega), Int.toNat_natCast]
  refine ⟨⟨⟨?_, fun v _ hne => ?_⟩, fun v h => (by cases h), fun v h => (by cases h), fun v u h => (by cases h)⟩, fun v _ => ?_, fun v hv => ?_, fun v hv => ?_⟩
  · rw [e, if_pos rfl]; exact ⟨by omega, Int.le_refl _⟩
  · rw [e] at hne ⊢
    by_cases h : v = s
    · rw [if_pos h]; exact ⟨0, h, rfl⟩
    · rw [if_neg h] at hne; exact absurd rfl hne
  · rw [(Sp.y0_at s v).1, (Sp.y0_at s v).2]
    by_cases h : v = s
    · rw [if_pos h]; exact .inr ⟨by omega, by omega, by omega, by omega⟩
    · rw [if_neg h]; exact .inl ⟨rfl, rfl⟩
  · rw [eM, (Sp.y0_at s v).1, e]
    by_cases h : v = s
    · rw [h, Sp.put_same, if_pos rfl, if_pos rfl, if_pos ⟨rfl, by decide⟩]
    · rw [Sp.put_other _ _ h, if_neg h, if_neg (fun hh => hh.2 rfl)]
  · rw [eM, Sp.put_other _ _ (by omega)]
theorem Sp.SpI.open_ {L : List Sp.Arc} {s n : Nat} {y : Nat → Int} {M : Nat → Option Int} {S : Nat → Bool} {k r : Int} (h : Sp.SpI L s n y M S) (hn : n ≤ 290) (hl : Sp.LeastIs M k r true) : ∃ j : Nat, k = (j : Int) ∧ j < n ∧ S j = false ∧ Sp.SpX L s n j (Sp.ct S n) y (Sp.put M j none) S (fun _ => False) := by
  rcases hl with ⟨h0, -⟩ | ⟨-, j, rfl, hj, hM, hmin⟩
  · cases h0
  have hjn : j < n := by
    rcases Nat.lt_or_ge j n with e | e
    · exact e
    · rw [h.hn j e] at hM; cases hM
  have hMj := h.hp j hjn
  rw [hM] at hMj
  have hc : S j = false ∧ y (j * 2) ≠ 1152921504606846976 := by
    by_cases e : S j = false ∧ y (j * 2) ≠ 1152921504606846976
    · exact e
    · rw [if_neg e] at hMj; cases hMj
  rw [if_pos hc] at hMj
  have hr : r = Sp.rk y j := by injection hMj
  have hct : Sp.ct S n ≤ n := Sp.ct_le S n
  refine ⟨j, rfl, hjn, hc.1, ?_, h.bd.mono (by omega), ?_, fun v hv => ?_, fun v hv => ?_⟩
  · refine h.dj.open_ (by rw [hc.1]; simp) hjn (fun e => hc.2 ((h.bd.far (by omega) hjn).1 e)) (fun u hu hun hne => ?_)
    have hu0 : S u = false := by cases hs : S u with
      | false => rfl
      | true => exact absurd hs hu
    have huf : y (u * 2) ≠ 1152921504606846976 := fun e => hne ((h.bd.far (by omega) hun).2 e)
    have := hmin u (Sp.rk y u) (by rw [h.hp u hun, if_pos ⟨hu0, huf⟩])
    rcases (Sp.ahead_no _ _ _ _).1 this with e | e
    · omega
    · omega
  · rcases h.bd j hjn with e | e
    · exact absurd e.1 hc.2
    · exact e
  · by_cases e : v = j
    · subst e
      rw [Sp.put_same, if_neg (fun hh => hh.2.1 rfl)]
    · rw [Sp.put_other _ _ e, h.hp v hv]
      by_cases e2 : S v = false ∧ y (v * 2) ≠ 1152921504606846976
      · rw [if_pos e2, if_pos ⟨e2.1, e, e2.2⟩]
      · rw [if_neg e2, if_neg (fun hh => e2 ⟨hh.1, hh.2.2⟩)]
  · rw [Sp.put_other _ _ (by omega)]; exact h.hn v hv
theorem Sp.SpX.xg {L : List Sp.Arc} {s n x c : Nat} {y : Nat → Int} {M : Nat → Option Int} {S : Nat → Bool} {P : Sp.Arc → Prop} (h : Sp.SpX L s n x c y M S P) (hc : c + 1 ≤ 290) : y (x * 2) ≠ 1152921504606846976 := by
  have := h.bx; omega
theorem Sp.less_rk {n c : Nat} {y : Nat → Int} (h : Sp.Bd n c y) (hc : c ≤ 290) {t : Nat} (ht : t < n) {X A : Int} (hA : 0 ≤ A ∧ A < 300) : Sp.lessB X A (y (t * 2)) (y (t * 2 + 1)) = true ↔ X * 300 + A < Sp.rk y t := by
  unfold Sp.lessB Sp.rk
  rw [decide_eq_true_eq]
  rcases h t ht with h | h <;> omega
theorem Sp.rk_upd (y : Nat → Int) (t : Nat) (X A : Int) (v : Nat) : Sp.rk (Sp.upd (Sp.upd y (t * 2) X) (t * 2 + 1) A) v = if v = t then X * 300 + A else Sp.rk y v := by
  unfold Sp.rk Sp.upd
  by_cases h : v = t
  · subst h
    rw [if_pos rfl, if_neg (by omega), if_pos rfl, if_pos rfl]
  · rw [if_neg h, if_neg (by omega), if_neg (by omega), if_neg (by omega), if_neg (by omega)]
theorem Sp.upd_at (y : Nat → Int) (t : Nat) (X A : Int) (v : Nat) : Sp.upd (Sp.upd y (t * 2) X) (t * 2 + 1) A (v * 2) = (if v = t then X else y (v * 2)) ∧ Sp.upd (Sp.upd y (t * 2) X) (t * 2 + 1) A (v * 2 + 1) = (if v = t then A else y (v * 2 + 1)) := by
  unfold Sp.upd
  by_cases h : v = t
  · subst h
    rw [if_pos rfl, if_pos rfl, if_neg (by omega), if_pos rfl]
    exact ⟨rfl, by rw [if_pos rfl]⟩
  · rw [if_neg h, if_neg h, if_neg (by omega), if_neg (by omega), if_neg (by omega), if_neg (by omega)]
    exact ⟨rfl, rfl⟩
theorem Sp.SpX.no {L : List Sp.Arc} {s n x c : Nat} {y : Nat → Int} {M : Nat → Option Int} {S : Nat → Bool} {P : Sp.Arc → Prop} (h : Sp.SpX L s n x c y M S P) (hc : c + 1 ≤ 290) (hxn : x < n) (hpos : ∀ a ∈ L, 0 ≤ a.l) {a : Sp.Arc} (ha : a ∈ L) (hax : a.f = x) (htn : a.t < n) (hl : a.l ≤ 1099511627776) (hno : Sp.lessB (y (x * 2) + a.l) (y (x * 2 + 1) + 1) (y (a.t * 2)) (y (a.t * 2 + 1)) = false) :
    Sp.SpX L s n x c y M S (fun b => P b ∨ b = Sp.pr a) := by
  have h0 := hpos a ha
  have hbx := h.bx
  have hiff := Sp.less_rk h.bd hc htn (X := y (x * 2) + a.l) (A := y (x * 2 + 1) + 1) (by omega)
  have hge : ¬ (Sp.rk y x + (300 * a.l + 1) < Sp.rk y a.t) := fun hh => by
    have : (y (x * 2) + a.l) * 300 + (y (x * 2 + 1) + 1) < Sp.rk y a.t := by unfold Sp.rk at hh ⊢; omega
    rw [hiff.2 this] at hno; cases hno
  have hd := h.djx.try_ (a := Sp.pr a) (by omega) (fun b hb => by obtain ⟨a', ha', rfl⟩ := Sp.mem_pairL.1 hb; have := hpos a' ha'; show 0 < 300 * a'.l + 1; omega) hxn (Sp.mem_pairL.2 ⟨a, ha, rfl⟩) hax (by
    show Sp.rk y x + (300 * a.l + 1) < _; unfold Sp.rk; omega)
  have e : Sp.rx 345876451382054092800 (Sp.rk y) (Sp.pr a) = Sp.rk y := funext fun v => by
    unfold Sp.rx
    rw [if_neg]
    intro hh
    have h3 := hh.2.2
    rw [show (Sp.pr a).f = x from hax] at h3
    exact hge h3
  rw [e] at hd
  exact ⟨hd, h.bd, h.bx, h.hp, h.hn⟩
theorem Sp.SpX.yes {L : List Sp.Arc} {s n x c : Nat} {y : Nat → Int} {M : Nat → Option Int} {S : Nat → Bool} {P : Sp.Arc → Prop} (h : Sp.SpX L s n x c y M S P) (hc : c + 1 ≤ 290) (hn : n ≤ 290) (hxn : x < n) (hpos : ∀ a ∈ L, 0 ≤ a.l) {a : Sp.Arc} (ha : a ∈ L) (hax : a.f = x) (htn : a.t < n) (hl : a.l ≤ 1099511627776) (hyes : Sp.lessB (y (x * 2) + a.l) (y (x * 2 + 1) + 1) (y (a.t * 2)) (y (a.t * 2 + 1)) = true) :
    a.t ≠ x ∧ Sp.SpX L s n x c (Sp.upd (Sp.upd y (a.t * 2) (y (x * 2) + a.l)) (a.t * 2 + 1) (y (x * 2 + 1) + 1)) (Sp.putK M (a.t : Int) ((y (x * 2) + a.l) * 300 + (y (x * 2 + 1) + 1))) S (fun b => P b ∨ b = Sp.pr a) := by
  have h0 := hpos a ha
  have hbx := h.bx
  have hlt := (Sp.less_rk h.bd hc htn (X := y (x * 2) + a.l) (A := y (x * 2 + 1) + 1) (by omega)).1 hyes
  have hlt' : Sp.rk y x + (300 * a.l + 1) < Sp.rk y a.t := by unfold Sp.rk at hlt ⊢; omega
  have htx : a.t ≠ x := fun e => by rw [e] at hlt'; omega
  have hSt : S a.t = false := by
    cases hs : S a.t with
    | false => rfl
    | true => have := h.djx.below a.t hs; omega
  have hd := h.djx.try_ (a := Sp.pr a) (by omega) (fun b hb => by obtain ⟨a', ha', rfl⟩ := Sp.mem_pairL.1 hb; have := hpos a' ha'; show 0 < 300 * a'.l + 1; omega) hxn (Sp.mem_pairL.2 ⟨a, ha, rfl⟩) hax (by
    show Sp.rk y x + (300 * a.l + 1) < _; unfold Sp.rk; omega)
  have e : Sp.rx 345876451382054092800 (Sp.rk y) (Sp.pr a) = Sp.rk (Sp.upd (Sp.upd y (a.t * 2) (y (x * 2) + a.l)) (a.t * 2 + 1) (y (x * 2 + 1) + 1)) := funext fun v => by
    rw [Sp.rk_upd]
    unfold Sp.rx
    rw [show (Sp.pr a).f = x from hax]
    show (if v = a.t ∧ Sp.rk y x ≠ 345876451382054092800 ∧ Sp.rk y x + (300 * a.l + 1) < Sp.rk y a.t then Sp.rk y x + (300 * a.l + 1) else Sp.rk y v) = _
    by_cases hv : v = a.t
    · rw [if_pos ⟨hv, fun e => h.xg hc ((h.bd.far hc hxn).1 e), hlt'⟩, if_pos hv]
      unfold Sp.rk; omega
    · rw [if_neg (fun hh => hv hh.1), if_neg hv]
  rw [e] at hd
  have eM : Sp.putK M (a.t : Int) ((y (x * 2) + a.l) * 300 + (y (x * 2 + 1) + 1)) = Sp.put M a.t (some ((y (x * 2) + a.l) * 300 + (y (x * 2 + 1) + 1))) := by unfold Sp.putK; rw [if_pos (by omega), Int.toNat_natCast]
  refine ⟨htx, hd, fun v hv => ?_, ?_, fun v hv => ?_, fun v hv => ?_⟩
  · rw [(Sp.upd_at _ _ _ _ v).1, (Sp.upd_at _ _ _ _ v).2]
    by_cases e : v = a.t
    · rw [if_pos e, if_pos e]; exact .inr ⟨by omega, by omega, by omega, by omega⟩
    · rw [if_neg e, if_neg e]; exact h.bd v hv
  · rw [(Sp.upd_at _ _ _ _ x).1, (Sp.upd_at _ _ _ _ x).2, if_neg (fun e => htx e.symm), if_neg (fun e => htx e.symm)]; exact h.bx
  · rw [eM, (Sp.upd_at _ _ _ _ v).1, Sp.rk_upd]
    by_cases e : v = a.t
    · subst e
      rw [Sp.put_same, if_pos rfl, if_pos rfl, if_pos ⟨hSt, htx, by omega⟩]
    · rw [Sp.put_other _ _ e, if_neg e, if_neg e]; exact h.hp v hv
  · rw [eM, Sp.put_other _ _ (by omega)]; exact h.hn v hv
theorem Sp.ct_or {S : Nat → Bool} {x : Nat} (hx : S x = false) : ∀ n, Sp.ct (fun v => S v || (v == x)) n = Sp.ct S n + if x < n then 1 else 0
  | 0 => by simp [Sp.ct]
  | n + 1 => by
    rw [Sp.ct_succ, Sp.ct_succ, Sp.ct_or hx n]
    by_cases e : n = x
    · subst e; rw [hx]; simp
    · have e2 : (n == x) = false := beq_eq_false_iff_ne.2 e
      rw [e2, Bool.or_false]
      by_cases h : x < n
      · rw [if_pos h, if_pos (by omega : x < n + 1)]; omega
      · rw [if_neg h, if_neg (by omega : ¬ x < n + 1)]; omega
theorem Sp.SpX.close {L : List Sp.Arc} {s n x : Nat} {y : Nat → Int} {M : Nat → Option Int} {S : Nat → Bool} {P : Sp.Arc → Prop} (h : Sp.SpX L s n x (Sp.ct S n) y M S P) (hSx : S x = false) (hxn : x < n) (hP : ∀ a ∈ L, a.f = x → P (Sp.pr a)) :
    Sp.SpI L s n y M (fun v => S v || (v == x)) ∧ Sp.ct (fun v => S v || (v == x)) n = Sp.ct S n + 1 := by
  have hct : Sp.ct (fun v => S v || (v == x)) n = Sp.ct S n + 1 := by rw [Sp.ct_or hSx, if_pos hxn]
  have hd := h.djx.close (fun b hb hbx => by obtain ⟨a, ha, rfl⟩ := Sp.mem_pairL.1 hb; exact hP a ha hbx)
  have eS : (fun v => S v = true ∨ v = x) = fun v => (S v || (v == x)) = true := funext fun v => by
    rw [Bool.or_eq_true, beq_iff_eq]
  rw [eS] at hd
  refine ⟨⟨hd, by rw [hct]; exact h.bd, fun v hv => ?_, h.hn⟩, hct⟩
  rw [h.hp v hv]
  by_cases e : v = x
  · subst e
    rw [if_neg (fun hh => hh.2.1 rfl), if_neg (fun hh => by simp at hh)]
  · have e2 : (v == x) = false := beq_eq_false_iff_ne.2 e
    simp only [e2, Bool.or_false, ne_eq, e, not_false_eq_true, true_and]
theorem Sp.SpI.finish {L : List Sp.Arc} {s n : Nat} {y : Nat → Int} {M : Nat → Option Int} {S : Nat → Bool} {k r : Int} (h : Sp.SpI L s n y M S) (hn : n ≤ 290) (hL : ∀ a ∈ L, a.f < n ∧ a.t < n) (hpos : ∀ a ∈ L, 0 ≤ a.l) (hs : s < n) (hl : Sp.LeastIs M k r false) : Sp.Short 345876451382054092800 (Sp.pairL 300 L) s n (Sp.rk y) ∧ Sp.Bd n n y := by
  have hct : Sp.ct S n ≤ n := Sp.ct_le S n
  rcases hl with ⟨-, -, -, hno⟩ | ⟨h0, -⟩
  · refine ⟨h.dj.short (fun b hb => by obtain ⟨a, ha, rfl⟩ := Sp.mem_pairL.1 hb; exact hL a ha) (fun b hb => by obtain ⟨a', ha', rfl⟩ := Sp.mem_pairL.1 hb; have := hpos a' ha'; show 0 < 300 * a'.l + 1; omega) hs (fun v hv hne => ?_), h.bd.mono hct⟩
    have h1 := h.hp v hv
    rw [hno v] at h1
    cases hs : S v with
    | true => rfl
    | false => rw [if_pos ⟨hs, fun e => hne ((h.bd.far (by omega) hv).2 e)⟩] at h1; cases h1
  · cases h0
/-- Ranks that are the shortest ways: so are the lengths. -/
theorem Sp.short_long {L : List Sp.Arc} {s n : Nat} {y : Nat → Int} (h : Sp.Short 345876451382054092800 (Sp.pairL 300 L) s n (Sp.rk y)) (hb : Sp.Bd n n y) (hn : n ≤ 290) (hL : ∀ a ∈ L, a.f < n ∧ a.t < n) (hs : s < n) : Sp.Short 1152921504606846976 L s n (fun v => y (v * 2)) := by
  have hwk : ∀ m v x, Sp.Wk (Sp.pairL 300 L) s m v x → ∃ x', Sp.Wk L s m v x' ∧ x = 300 * x' + (m : Int) := by
    intro m
    induction m with
    | zero => intro v x hw; obtain ⟨rfl, rfl⟩ := hw; exact ⟨0, ⟨rfl, rfl⟩, by omega⟩
    | succ m ih =>
      intro v x hw
      obtain ⟨b, hb, rfl, hw⟩ := hw
      obtain ⟨a, ha, rfl⟩ := Sp.mem_pairL.1 hb
      obtain ⟨x', h1, h2⟩ := ih _ _ hw
      refine ⟨x' + a.l, ⟨a, ha, rfl, by rw [Int.add_sub_cancel]; exact h1⟩, ?_⟩
      have h2' : x - (300 * a.l + 1) = 300 * x' + (m : Int) := h2
      rw [Int.mul_add]
      push_cast
      omega
  have hnn : ∀ v, v < n → y (v * 2) ≠ 1152921504606846976 → 0 ≤ y (v * 2) ∧ 0 ≤ y (v * 2 + 1) ∧ y (v * 2 + 1) ≤ 290 := fun v hv hne => by
    rcases hb v hv with e | e
    · exact absurd e.1 hne
    · exact ⟨e.1, e.2.2.1, by omega⟩
  have hsrc : y (s * 2) = 0 := by
    have h0 := h.src
    have hne : y (s * 2) ≠ 1152921504606846976 := fun e => by
      have := (hb.far hn hs).2 e; omega
    have := hnn s hs hne
    unfold Sp.rk at h0
    omega
  have harc : ∀ a ∈ L, y (a.f * 2) ≠ 1152921504606846976 → y (a.t * 2) ≠ 1152921504606846976 ∧ y (a.t * 2) ≤ y (a.f * 2) + a.l := fun a ha hne => by
    have h1 := h.arc (Sp.pr a) (Sp.mem_pairL.2 ⟨a, ha, rfl⟩) (fun e => hne ((hb.far hn (hL a ha).1).1 e))
    have h2 : y (a.t * 2) ≠ 1152921504606846976 := fun e => h1.1 ((hb.far hn (hL a ha).2).2 e)
    have h3 : Sp.rk y a.t ≤ Sp.rk y a.f + (300 * a.l + 1) := h1.2
    have h4 := hnn _ (hL a ha).1 hne
    have h5 := hnn _ (hL a ha).2 h2
    refine ⟨h2, ?_⟩
    unfold Sp.rk at h3
    omega
  have hlow : ∀ m v x, Sp.Wk L s m v x → y (v * 2) ≠ 1152921504606846976 ∧ y (v * 2) ≤ x := by
    intro m
    induction m with
    | zero => intro v x hw; obtain ⟨rfl, rfl⟩ := hw; rw [hsrc]; exact ⟨by decide, Int.le_refl _⟩
    | succ m ih =>
      intro v x hw
      obtain ⟨a, ha, rfl, hw⟩ := hw
      obtain ⟨h1, h2⟩ := ih _ _ hw
      obtain ⟨h3, h4⟩ := harc a ha h1
      exact ⟨h3, by omega⟩
  refine ⟨hsrc, harc, fun v hv hne => ?_⟩
  obtain ⟨m, hm⟩ := h.att v hv (fun e => hne ((hb.far hn hv).1 e))
  obtain ⟨x', h1, h2⟩ := hwk m v _ hm
  have h3 := hnn v hv hne
  have h4 := (hlow m v x' h1).2
  refine ⟨m, ?_⟩
  unfold Sp.rk at h2
  have e : y (v * 2) = x' := by omega
  show Sp.Wk L s m v (y (v * 2))
  rw [e]; exact h1
end Go.Proofs.Ytoegjnolccabjaa


/- The laws of heaps: within, known. -/
namespace Go.Proofs.Ytoegjnolccabjaa
open Go Go.RowKit

theorem But.on {B b : Nat} {w u v : World} (k : But b u v) (h : Below B w u) (hB : B ≤ b) (hw : B ≤ u.heap.size) : Below B w v := h.trans (k.below hB hw)
theorem hnew2_any (w : World) :
    Calls Try.prog 69 #[] w fun e w' => e = .returned (.pointer (some ⟨w.heap.size, 0, none⟩)) ∧ Below w.heap.size w w' ∧ HpIs w' w.heap.size (fun _ => none) ∧ w'.heap.size = w.heap.size + 1 := by
  refine (hnew_any w).mono ?_
  rintro e w' ⟨rfl, rfl⟩
  exact ⟨rfl, (Below.refl _ w).alloc (Nat.le_refl _) _, hnew_is w, by show (w.heap.push _).size = _; exact Array.size_push _⟩
end Go.Proofs.Ytoegjnolccabjaa


