/- What the proof needs, part 13. -/
import Derived.Test.YtoegjnolccabjabL12
/- Package heap: Least, Take. -/
namespace Go.Proofs.Ytoegjnolccabjab
open Go Go.RowKit

/-- What is ahead of all that M holds; nothing, of none. -/
def Sp.LeastIs (M : Nat → Option Int) (k r : Int) (is : Bool) : Prop :=
  (is = false ∧ k = 0 ∧ r = 0 ∧ ∀ j, M j = none) ∨ (is = true ∧ ∃ j : Nat, k = (j : Int) ∧ j < 300 ∧ M j = some r ∧ ∀ j' r', M j' = some r' → Sp.aheadB (j' : Int) r' k r = false)
theorem Sp.LeastIs.uniq {M : Nat → Option Int} {k r k' r' : Int} {is is' : Bool} (h : Sp.LeastIs M k r is) (h' : Sp.LeastIs M k' r' is') : k = k' ∧ r = r' ∧ is = is' := by
  rcases h with ⟨a, b, c, d⟩ | ⟨a, j, b, -, c, d⟩
  · rcases h' with ⟨a', b', c', d'⟩ | ⟨a', j', b', -, c', d'⟩
    · exact ⟨by omega, by omega, by rw [a, a']⟩
    · rw [d j'] at c'; cases c'
  · rcases h' with ⟨a', b', c', d'⟩ | ⟨a', j', b', -, c', d'⟩
    · rw [d' j] at c; cases c
    · have h1 := d j' r' c'
      have h2 := d' j r c
      rw [Sp.ahead_no] at h1 h2
      exact ⟨by omega, by omega, by rw [a, a']⟩
theorem Sp.HpI.least {z : Nat → Int} {M : Nat → Option Int} {n : Nat} (h : Sp.HpI z M n) (hw : Sp.Wiped z n) : Sp.LeastIs M (z (0 * 2)) (z (0 * 2 + 1)) (decide (0 < n)) := by
  by_cases h0 : 0 < n
  · obtain ⟨k, hk, a, b, c⟩ := h.it 0 h0
    refine .inr ⟨decide_eq_true h0, k, a, hk, c, fun j' r' hm => ?_⟩
    have hj : j' < 300 := by
      rcases Nat.lt_or_ge j' 300 with h1 | h1
      · exact h1
      · rw [h.out j' h1] at hm; cases hm
    rcases h.pl j' hj with ⟨-, e⟩ | ⟨i, hi, e, f⟩
    · rw [hm] at e; cases e
    · have := h.first i hi
      obtain ⟨k2, -, g, -, g2⟩ := h.it i hi
      have hk2 : k2 = j' := by omega
      rw [hk2, hm] at g2
      rw [← f, Option.some.inj g2]
      exact this
  · refine .inl ⟨decide_eq_false h0, (hw 0 (by omega) (by omega)).1, (hw 0 (by omega) (by omega)).2, fun j => ?_⟩
    rcases Nat.lt_or_ge j 300 with h1 | h1
    · rcases h.pl j h1 with ⟨-, e⟩ | ⟨i, hi, -, -⟩
      · exact e
      · omega
    · exact h.out j h1
theorem But.trans' {b : Nat} {u w w' : World} (h : But b u w) (k : Below u.heap.size w w') : But b u w' :=
  ⟨k.os.trans h.os, k.tape.trans h.tape, k.output.trans h.output, Nat.le_trans h.size k.size, fun i hi hb => (k.block i hi).trans (h.block i hi hb)⟩
set_option maxRecDepth 100000 in
set_option maxHeartbeats 4000000 in
theorem hleast0_any (z : Nat → Int) (n b : Nat) (w : World) (h : HpAt w b z) (hn : z 600 = (n : Int)) :
    Calls Try.prog 86 #[.pointer (some ⟨b, 0, none⟩)] w fun e w' => e = .returned (.tuple #[.agg #[.int .i64 (z (0 * 2)), .int .i64 (z (0 * 2 + 1))], .bool (decide (0 < n))]) ∧ Below w.heap.size w w' := by
  have hb := h.lt
  have c6 := fun o => (h.alloc o).cell (j := 600) (by omega)
  have d6 := h.cell (j := 600) (by omega)
  rw [hn] at c6 d6
  have c0 := fun o => (h.alloc o).cell (j := 0) (by omega)
  have c1 := fun o => (h.alloc o).cell (j := 1) (by omega)
  have d0 := h.cell (j := 0) (by omega)
  have d1 := h.cell (j := 1) (by omega)
  have HB : Hid (∀ o, Below w.heap.size w (w.alloc o).drew) := hide fun o => ((Below.refl _ w).alloc (Nat.le_refl _) o).drew
  show Calls Try.prog 86 #[.pointer (some ⟨b, 0, none⟩)] w fun e w' => e = .returned (.tuple #[.agg #[.int .i64 (z 0), .int .i64 (z 1)], .bool (decide (0 < n))]) ∧ Below w.heap.size w w'
  generalize z 0 = k0 at *
  generalize z 1 = r0 at *
  clear h hn
  go_enter Try.func86, Try.ntmps86
  go_wp2_with fail
  go_region
  go_wp2
  refine bodyPost_ret (v := .tuple #[.agg #[.int .i64 k0, .int .i64 r0], .bool (decide (0 < n))]) (by simp [results, Try.results86, go_sem]) rfl ?_
  exact ⟨rfl, unhide HB _⟩
theorem But.set_new {b B : Nat} {u w : World} (h : But b u w) (hB : u.heap.size ≤ B) (j : Nat) (v : Value) : But b u (w.setCell ⟨B, j, none⟩ v) :=
  h.trans' ⟨rfl, rfl, rfl, by simp [World.setCell], fun k hk => Below.heap_setCell _ _ _ _ (by show k ≠ B; omega)⟩
theorem cell_set_eq {w : World} {a : Addr} {v u : Value} (h : w.cell? a = some u) : (w.setCell a v).cell? a = some v := by
  apply World.cell?_setCell_same; exact h
/-- An item's block. -/
theorem item_at {w : World} {B : Nat} {k r : Value} (h : w.heap[B]? = some (.cells #[k, r] 98)) : w.cell? ⟨B, 0, none⟩ = some k ∧ w.cell? ⟨B, 1, none⟩ = some r ∧ ∀ j, w.frozen? ⟨B, j, none⟩ = false := by
  refine ⟨?_, ?_, fun j => ?_⟩
  · simp only [World.cell?, h]; rfl
  · simp only [World.cell?, h]; rfl
  · simp [World.frozen?, h]
set_option maxRecDepth 100000 in
set_option maxHeartbeats 4000000 in
theorem htake_any (M : Nat → Option Int) (b : Nat) (w : World) (h : HpIs w b M) :
    Calls Try.prog 68 #[.pointer (some ⟨b, 0, none⟩)] w fun e w' => ∃ k r is, e = .returned (.tuple #[.agg #[.int .i64 k, .int .i64 r], .bool is]) ∧ Sp.LeastIs M k r is ∧ But b w w' ∧ HpIs w' b (Sp.put M k.toNat none) := by
  have hb := h.lt
  have h0 := h
  obtain ⟨z, h1, h2, h3⟩ := h
  have hL := h2.least h3
  have hLs := fun w' (hw : HpAt w' b z) => hleast0_any z (Sp.hcnt M) b w' hw h2.many
  have HW : Hid (∀ w', Below (w.heap.size + 1) (w.alloc (.cells #[.int .i64 0, .int .i64 0] 98)) w' → Below w.heap.size w w' ∧ w'.heap[w.heap.size]? = some (.cells #[.int .i64 0, .int .i64 0] 98) ∧ HpAt w' b z ∧ w.heap.size + 1 ≤ w'.heap.size) := hide fun w' hb' => by
    have hb1 : Below w.heap.size w (w.alloc (.cells #[.int .i64 0, .int .i64 0] 98)) := (Below.refl _ w).alloc (Nat.le_refl _) _
    have hb2 := hb1.trans (hb'.mono (Nat.le_succ _))
    refine ⟨hb2, ?_, h1.below hb2, by have := hb'.size; simp at this; omega⟩
    rw [hb'.block _ (Nat.lt_succ_self _)]
    show (w.heap.push _)[w.heap.size]? = _
    rw [Array.getElem?_push, if_pos rfl]
  have hs : (w.alloc (.cells #[.int .i64 0, .int .i64 0] 98)).heap.size = w.heap.size + 1 := by simp
  have hL0 := hLs _ (unhide HW _ (Below.refl _ _)).2.2.1
  rw [hs] at hL0
  have HL0 := hide hL0
  have H0 := hide (And.intro h1 (And.intro h2 (And.intro h3 h0)))
  have HLe := hide hL
  clear hL hLs hL0 h1 h2 h3 h0 hs
  generalize hk0 : z (0 * 2) = k0 at *
  generalize z (0 * 2 + 1) = r0 at *
  have HK0 := hide hk0
  clear hk0
  obtain ⟨P, hP⟩ : ∃ P : Ending → World → Prop, P = fun e w' => ∃ k r is, e = .returned (.tuple #[.agg #[.int .i64 k, .int .i64 r], .bool is]) ∧ Sp.LeastIs M k r is ∧ But b w w' ∧ HpIs w' b (Sp.put M k.toNat none) := ⟨_, rfl⟩
  rw [← hP]
  have HP := hide hP
  clear hP
  by_cases hn : 0 < Sp.hcnt M
  · rw [decide_eq_true hn] at HL0 HLe
    go_enter Try.func68, Try.ntmps68
    go_wp2_with fail
    go_at_call 86
    generalize w.alloc (.cells #[.int .i64 0, .int .i64 0] 98) = W0 at *
    refine (unhide HL0).mono ?_
    rintro e w2 ⟨rfl, hb2⟩
    obtain ⟨hb3, hB3, hp3, hs3⟩ := unhide HW _ hb2
    have H2 := hide (And.intro hb3 (And.intro hB3 hp3))
    have hs2 := hs3
    clear hb3 hB3 hp3 hb2
    obtain ⟨j, hkj, hj⟩ : ∃ j : Nat, k0 = (j : Int) ∧ j < 300 := by
      rcases unhide HLe with ⟨a, -⟩ | ⟨-, j, a, b, -⟩
      · cases a
      · exact ⟨j, a, b⟩
    subst hkj
    obtain ⟨m, hm⟩ : ∃ m, Sp.hcnt M = m + 1 := ⟨Sp.hcnt M - 1, by omega⟩
    rw [hm] at H0
    have hR := remove_any z M b m 0 j (w2.alloc (.cells #[.int .i64 (j : Int), .int .i64 r0] 98)) ((unhide H2).2.2.alloc _) (unhide H0).2.1 (unhide H0).2.2.1 (by omega) (unhide HK0)
    rw [show (((0 : Nat)) : Int) = 0 from rfl] at hR
    have HR := hide hR
    have HI : Hid ((w2.alloc (.cells #[.int .i64 (j : Int), .int .i64 r0] 98)).heap[w2.heap.size]? = some (.cells #[.int .i64 (j : Int), .int .i64 r0] 98) ∧ (w2.alloc (.cells #[.int .i64 (j : Int), .int .i64 r0] 98)).heap[w.heap.size]? = some (.cells #[.int .i64 0, .int .i64 0] 98) ∧ (w2.alloc (.cells #[.int .i64 (j : Int), .int .i64 r0] 98)).heap.size = w2.heap.size + 1 ∧ But b w (w2.alloc (.cells #[.int .i64 (j : Int), .int .i64 r0] 98))) := hide ⟨by
      show (w2.heap.push _)[w2.heap.size]? = _
      rw [Array.getElem?_push, if_pos rfl], by
      rw [Below.heap_alloc _ _ _ (by omega)]; exact (unhide H2).2.1, by simp, (But.of (unhide H2).1).alloc _⟩
    clear hR hm hn hj hs3
    go_wp2_with fail
    generalize w2.alloc (.cells #[.int .i64 (j : Int), .int .i64 r0] 98) = W3 at *
    refine (unhide HR).mono ?_
    rintro e w4 ⟨rfl, hb4, hi4⟩
    have hs4 := (unhide HI).2.2.1
    have hg4 := hb4.size
    obtain ⟨x0, x1, -⟩ := item_at (w := w4) (B := w2.heap.size) ((hb4.block _ (by omega) (by omega)).trans (unhide HI).1)
    obtain ⟨y0, y1, yf⟩ := item_at (w := w4) (B := w.heap.size) ((hb4.block _ (by omega) (by omega)).trans (unhide HI).2.1)
    have y1' := fun v : Value => show (w4.setCell ⟨w.heap.size, 0, none⟩ v).cell? ⟨w.heap.size, 1, none⟩ = some (.int .i64 0) by rw [cell_set_ne (by omega)]; exact y1
    have HQ : Hid (∀ v v', But b w ((w4.setCell ⟨w.heap.size, 0, none⟩ v).setCell ⟨w.heap.size, 1, none⟩ v') ∧ HpIs ((w4.setCell ⟨w.heap.size, 0, none⟩ v).setCell ⟨w.heap.size, 1, none⟩ v') b (Sp.put M j none) ∧ ((w4.setCell ⟨w.heap.size, 0, none⟩ v).setCell ⟨w.heap.size, 1, none⟩ v').cell? ⟨w.heap.size, 0, none⟩ = some v ∧ ((w4.setCell ⟨w.heap.size, 0, none⟩ v).setCell ⟨w.heap.size, 1, none⟩ v').cell? ⟨w.heap.size, 1, none⟩ = some v') := hide fun v v' => ⟨(((unhide HI).2.2.2.trans hb4).set_new (Nat.le_refl _) _ _).set_new (Nat.le_refl _) _ _, hi4.of_block (by rw [Below.heap_setCell _ _ _ _ (by show b ≠ w.heap.size; omega), Below.heap_setCell _ _ _ _ (by show b ≠ w.heap.size; omega)]), by
      rw [cell_set_ne (by omega)]; exact cell_set_eq y0, cell_set_eq (y1' v)⟩
    have r0' := (unhide HQ (.int .i64 (j : Int)) (.int .i64 r0)).2.2.1
    have r1' := (unhide HQ (.int .i64 (j : Int)) (.int .i64 r0)).2.2.2
    clear hb4 hi4 hs4 hg4 HR
    go_wp2
    refine bodyPost_ret (v := .tuple #[.agg #[.int .i64 (j : Int), .int .i64 r0], .bool true]) (by simp [results, Try.results68, go_sem, r0', r1']) rfl ?_
    rw [unhide HP]
    exact ⟨_, _, _, rfl, unhide HLe, (unhide HQ _ _).1, by rw [Int.toNat_natCast]; exact (unhide HQ _ _).2.1⟩
  · rw [decide_eq_false hn] at HL0 HLe
    go_enter Try.func68, Try.ntmps68
    go_wp2_with fail
    go_at_call 86
    generalize w.alloc (.cells #[.int .i64 0, .int .i64 0] 98) = W0 at *
    refine (unhide HL0).mono ?_
    rintro e w2 ⟨rfl, hb2⟩
    obtain ⟨hb3, hB3, hp3, hs3⟩ := unhide HW _ hb2
    have hI1 : (w2.alloc (.cells #[.int .i64 k0, .int .i64 r0] 98)).heap[w2.heap.size]? = some (.cells #[.int .i64 k0, .int .i64 r0] 98) := by
      show (w2.heap.push _)[w2.heap.size]? = _
      rw [Array.getElem?_push, if_pos rfl]
    have hI2 : (w2.alloc (.cells #[.int .i64 k0, .int .i64 r0] 98)).heap[w.heap.size]? = some (.cells #[.int .i64 0, .int .i64 0] 98) := by
      rw [Below.heap_alloc _ _ _ (by omega)]; exact hB3
    obtain ⟨x0, x1, -⟩ := item_at hI1
    obtain ⟨y0, y1, yf⟩ := item_at hI2
    have y1' := fun v : Value => show ((w2.alloc (.cells #[.int .i64 k0, .int .i64 r0] 98)).setCell ⟨w.heap.size, 0, none⟩ v).cell? ⟨w.heap.size, 1, none⟩ = some (.int .i64 0) by rw [cell_set_ne (by omega)]; exact y1
    have HQ : Hid (∀ v v', But b w (((w2.alloc (.cells #[.int .i64 k0, .int .i64 r0] 98)).setCell ⟨w.heap.size, 0, none⟩ v).setCell ⟨w.heap.size, 1, none⟩ v') ∧ HpIs (((w2.alloc (.cells #[.int .i64 k0, .int .i64 r0] 98)).setCell ⟨w.heap.size, 0, none⟩ v).setCell ⟨w.heap.size, 1, none⟩ v') b M) := hide fun v v' => ⟨((((But.of hb3).alloc _).set_new (Nat.le_refl _) _ _).set_new (Nat.le_refl _) _ _), ((unhide H0).2.2.2.below (hb3.trans ((Below.refl _ w2).alloc (by omega) _))).of_block (by rw [Below.heap_setCell _ _ _ _ (by show b ≠ w.heap.size; omega), Below.heap_setCell _ _ _ _ (by show b ≠ w.heap.size; omega)])⟩
    have r0' := fun v' : Value => show (((w2.alloc (.cells #[.int .i64 k0, .int .i64 r0] 98)).setCell ⟨w.heap.size, 0, none⟩ (.int .i64 k0)).setCell ⟨w.heap.size, 1, none⟩ v').cell? ⟨w.heap.size, 0, none⟩ = some (.int .i64 k0) by rw [cell_set_ne (by omega)]; exact cell_set_eq y0
    have r1' := show (((w2.alloc (.cells #[.int .i64 k0, .int .i64 r0] 98)).setCell ⟨w.heap.size, 0, none⟩ (.int .i64 k0)).setCell ⟨w.heap.size, 1, none⟩ (.int .i64 r0)).cell? ⟨w.heap.size, 1, none⟩ = some (.int .i64 r0) from cell_set_eq (y1' _)
    clear hb3 hB3 hp3 hb2 hI1 hI2
    go_wp2
    refine bodyPost_ret (v := .tuple #[.agg #[.int .i64 k0, .int .i64 r0], .bool false]) (by simp [results, Try.results68, go_sem, r0', r1']) rfl ?_
    rw [unhide HP]
    refine ⟨_, _, _, rfl, unhide HLe, (unhide HQ _ _).1, ?_⟩
    rcases unhide HLe with ⟨-, a, -, c⟩ | ⟨a, -⟩
    · rw [Sp.put_none _ _ (c _)]; exact (unhide HQ _ _).2
    · cases a
end Go.Proofs.Ytoegjnolccabjab


/- Package path: and, less, rank, turned. -/
namespace Go.Proofs.Ytoegjnolccabjab
open Go Go.RowKit

theorem cost_new (w : World) (x y : Value) : (w.alloc (.cells #[x, y] 76)).cell? ⟨w.heap.size, 0, none⟩ = some x ∧ (w.alloc (.cells #[x, y] 76)).cell? ⟨w.heap.size, 1, none⟩ = some y := by
  have e : (w.alloc (.cells #[x, y] 76)).heap[w.heap.size]? = some (.cells #[x, y] 76) := by
    show (w.heap.push _)[w.heap.size]? = _
    simp
  refine ⟨?_, ?_⟩ <;> simp only [World.cell?, e] <;> rfl
theorem cell_alloc {w : World} {a : Addr} {o : Obj} (h : a.block < w.heap.size) : (w.alloc o).cell? a = w.cell? a := World.cell?_of_block (Below.heap_alloc _ _ _ h)
set_option maxRecDepth 100000 in
set_option maxHeartbeats 1000000 in
theorem rank_any (x y : Int) (w : World) (h1 : -1125899906842624 ≤ x) (h2 : x ≤ 1125899906842624) (h3 : 0 ≤ y) (h4 : y ≤ 1125899906842624) : Calls Try.prog 67 #[.agg #[.int .i64 x, .int .i64 y]] w fun e w' => e = .returned (.int .i64 (x * 300 + y)) ∧ Below w.heap.size w w' := by
  obtain ⟨x0, x1⟩ := cost_new w (.int .i64 x) (.int .i64 y)
  have HB := hide ((Below.refl _ w).alloc (Nat.le_refl _) (.cells #[.int .i64 x, .int .i64 y] 76))
  go_enter Try.func67, Try.ntmps67
  go_wp2
  go_ret
  exact ⟨by rfl, unhide HB⟩
def Sp.lessB (x y x' y' : Int) : Bool := decide (x < x' ∨ (x = x' ∧ y < y'))
set_option maxRecDepth 100000 in
set_option maxHeartbeats 1000000 in
theorem less_any (x y x' y' : Int) (w : World) : Calls Try.prog 70 #[.agg #[.int .i64 x, .int .i64 y], .agg #[.int .i64 x', .int .i64 y']] w fun e w' => e = .returned (.bool (Sp.lessB x y x' y')) ∧ Below w.heap.size w w' := by
  have HB : Hid (∀ o o', Below w.heap.size w ((w.alloc o).alloc o')) := hide fun o o' => ((Below.refl _ w).alloc (Nat.le_refl _) o).alloc (by simp) o'
  by_cases h0 : x < x'
  · have HR : Hid (Sp.lessB x y x' y' = true) := hide (by simp [Sp.lessB, h0])
    generalize Sp.lessB x y x' y' = R at *
    go_enter Try.func70, Try.ntmps70
    go_wp2
    go_ret
    exact ⟨by rw [unhide HR]; rfl, unhide HB _ _⟩
  · by_cases h1 : x = x'
    · subst h1
      by_cases h2 : y < y'
      · have HR : Hid (Sp.lessB x y x y' = true) := hide (by simp [Sp.lessB, h2])
        generalize Sp.lessB x y x y' = R at *
        go_enter Try.func70, Try.ntmps70
        go_wp2
        go_ret
        exact ⟨by rw [unhide HR]; rfl, unhide HB _ _⟩
      · have HR : Hid (Sp.lessB x y x y' = false) := hide (by simp [Sp.lessB, h2])
        generalize Sp.lessB x y x y' = R at *
        go_enter Try.func70, Try.ntmps70
        go_wp2
        go_ret
        exact ⟨by rw [unhide HR]; rfl, unhide HB _ _⟩
    · have HR : Hid (Sp.lessB x y x' y' = false) := hide (by simp [Sp.lessB, h0, h1])
      generalize Sp.lessB x y x' y' = R at *
      go_enter Try.func70, Try.ntmps70
      go_wp2
      go_ret
      exact ⟨by rw [unhide HR]; rfl, unhide HB _ _⟩
set_option maxRecDepth 100000 in
set_option maxHeartbeats 2000000 in
theorem and_any (x y f t l : Int) (w : World) (h1 : -2305843009213693952 ≤ x) (h2 : x ≤ 2305843009213693952) (h3 : -1125899906842624 ≤ l) (h4 : l ≤ 1125899906842624) (h5 : 0 ≤ y) (h6 : y ≤ 1125899906842624) : Calls Try.prog 69 #[.agg #[.int .i64 x, .int .i64 y], .agg #[.int .i64 f, .int .i64 t, .int .i64 l]] w fun e w' => e = .returned (.agg #[.int .i64 (x + l), .int .i64 (y + 1)]) ∧ Below w.heap.size w w' := by
  obtain ⟨W1, hW1⟩ : ∃ W1, W1 = w.alloc (.cells #[.int .i64 x, .int .i64 y] 76) := ⟨_, rfl⟩
  obtain ⟨W2, hW2⟩ : ∃ W2, W2 = W1.alloc (.cells #[.int .i64 f, .int .i64 t, .int .i64 l] 65) := ⟨_, rfl⟩
  have hs1 : W1.heap.size = w.heap.size + 1 := by rw [hW1]; simp
  obtain ⟨x0, x1⟩ := cost_new w (.int .i64 x) (.int .i64 y)
  obtain ⟨y0, y1, y2⟩ := arc_new W1 (.int .i64 f) (.int .i64 t) (.int .i64 l)
  rw [← hW1] at x0 x1
  rw [← hW2, hs1] at y2
  have a0 : W2.cell? ⟨w.heap.size, 0, none⟩ = some (.int .i64 x) := by rw [hW2, cell_alloc (by show w.heap.size < _; omega)]; exact x0
  have a1 : W2.cell? ⟨w.heap.size, 1, none⟩ = some (.int .i64 y) := by rw [hW2, cell_alloc (by show w.heap.size < _; omega)]; exact x1
  have HB : Hid (∀ o, Below w.heap.size w (W2.alloc o)) := hide fun o => by rw [hW2, hW1]; exact (((Below.refl _ w).alloc (Nat.le_refl _) _).alloc (by simp) _).alloc (by simp; omega) _
  have HA : Hid (∀ o, (W2.alloc o).cell? ⟨w.heap.size, 0, none⟩ = some (.int .i64 x) ∧ (W2.alloc o).cell? ⟨w.heap.size, 1, none⟩ = some (.int .i64 y) ∧ (W2.alloc o).cell? ⟨w.heap.size + 1, 2, none⟩ = some (.int .i64 l)) := hide fun o => by
    have hs2 : W2.heap.size = w.heap.size + 2 := by rw [hW2]; simp; omega
    exact ⟨(cell_alloc (by show w.heap.size < _; omega)).trans a0, (cell_alloc (by show w.heap.size < _; omega)).trans a1, (cell_alloc (by show w.heap.size + 1 < _; omega)).trans y2⟩
  have b0 := fun o => (unhide HA o).1
  have b1 := fun o => (unhide HA o).2.1
  have b2 := fun o => (unhide HA o).2.2
  clear x0 x1 y0 y1 hs1
  subst hW2 hW1
  go_enter Try.func69, Try.ntmps69
  go_wp2_with fail
  refine bodyPost_ret (v := .agg #[.int .i64 (x + l), .int .i64 (y + 1)]) (by simp [results, Try.results69, go_sem]) rfl ?_
  exact ⟨rfl, unhide HB _⟩

/-- Block b is a row of n numbers, three for each arc. -/
def AcAt (w : World) (b n : Nat) (z : Nat → Int) : Prop := ∃ c, w.heap[b]? = some (.cells c 65) ∧ c.size = n ∧ ∀ j, j < n → c[j]? = some (.int .i64 (z j))
theorem AcAt.lt {w : World} {b n : Nat} {z : Nat → Int} (h : AcAt w b n z) : b < w.heap.size := by
  obtain ⟨c, hc, -⟩ := h
  exact (Array.getElem?_eq_some_iff.1 hc).1
theorem AcAt.cell {w : World} {b n : Nat} {z : Nat → Int} (h : AcAt w b n z) {j : Nat} (hj : j < n) : w.cell? ⟨b, j, none⟩ = some (.int .i64 (z j)) := by
  obtain ⟨c, hc, -, hz⟩ := h
  simp only [World.cell?, hc]
  exact hz j hj
theorem AcAt.frozen {w : World} {b n : Nat} {z : Nat → Int} (h : AcAt w b n z) (j : Nat) (s : Option Nat) : w.frozen? ⟨b, j, s⟩ = false := by
  obtain ⟨c, hc, -⟩ := h
  simp only [World.frozen?, hc]
  simp
theorem AcAt.of_block {w w' : World} {b n : Nat} {z : Nat → Int} (h : AcAt w b n z) (e : w'.heap[b]? = w.heap[b]?) : AcAt w' b n z := by
  obtain ⟨c, hc, h1⟩ := h
  exact ⟨c, by rw [e]; exact hc, h1⟩
theorem AcAt.set {w : World} {b n : Nat} {z : Nat → Int} (h : AcAt w b n z) (j : Nat) (v : Int) : AcAt (w.setCell ⟨b, j, none⟩ (.int .i64 v)) b n (Sp.upd z j v) := by
  obtain ⟨c, hc, hs, hz⟩ := h
  refine ⟨c.setIfInBounds j (.int .i64 v), ?_, by simpa using hs, fun k hk => ?_⟩
  · simp only [World.setCell, Array.getElem?_modify, if_pos, hc]
    rfl
  · rw [Array.getElem?_setIfInBounds]
    by_cases hjk : j = k
    · rw [if_pos hjk, if_pos (by omega), ← hjk, Sp.upd_same]
    · rw [if_neg hjk, hz k hk, Sp.upd_other _ _ (by omega)]
theorem AcAt.set_ne {w : World} {b n : Nat} {z : Nat → Int} (h : AcAt w b n z) {b' : Nat} (hb : b ≠ b') (j : Nat) (s : Option Nat) (v : Value) : AcAt (w.setCell ⟨b', j, s⟩ v) b n z :=
  h.of_block (Below.heap_setCell _ _ _ _ hb)
theorem AcAt.below {w w' : World} {b n : Nat} {z : Nat → Int} (h : AcAt w b n z) (hb : Below w.heap.size w w') : AcAt w' b n z := h.of_block (hb.block b h.lt)
theorem AcAt.bt {p : Nat → Prop} {w w' : World} {b n : Nat} {z : Nat → Int} (h : AcAt w b n z) (hb : Bt p w w') (hp : ¬ p b) : AcAt w' b n z := h.of_block (hb.block b h.lt hp)
theorem AcAt.alloc {w : World} {b n : Nat} {z : Nat → Int} (h : AcAt w b n z) (o : Obj) : AcAt (w.alloc o) b n z := h.below ((Below.refl _ w).alloc (Nat.le_refl _) o)
theorem AcAt.drew {w : World} {b n : Nat} {z : Nat → Int} (h : AcAt w b n z) : AcAt w.drew b n z := h.of_block rfl
theorem AcAt.dn {w : World} {b n : Nat} {z : Nat → Int} (h : AcAt w b n z) (k : Nat) : AcAt (w.drewN k) b n z := h.of_block rfl
theorem AcAt.congr {w : World} {b n : Nat} {z z' : Nat → Int} (h : AcAt w b n z) (e : ∀ j, j < n → z j = z' j) : AcAt w b n z' := by
  obtain ⟨c, hc, hs, hz⟩ := h
  exact ⟨c, hc, hs, fun j hj => by rw [← e j hj]; exact hz j hj⟩

theorem AcAt.own {w : World} {b m B : Nat} {y : Nat → Int} {L : List Sp.Arc} (h : AcAt w b (m * 3) y) (hL : L.length = m) (hy : ∀ j, j < m → y (j * 3) = ((L.getD j Sp.arc0).f : Int) ∧ y (j * 3 + 1) = ((L.getD j Sp.arc0).t : Int) ∧ y (j * 3 + 2) = (L.getD j Sp.arc0).l) (hB : B ≤ b) (hm : m ≤ 1000000) : OwnA w B (.slice (some ⟨b, 0, none⟩) m m) L := by
  subst hL
  obtain ⟨c, hc, hs, hz⟩ := h
  refine ⟨by rw [Sp.cells3_len], .inr ⟨b, L.length, c, rfl, hB, hc, Nat.le_refl _, by unfold maxLen; omega, hs, ?_⟩⟩
  apply List.ext_getElem?
  intro i
  rw [List.getElem?_take]
  by_cases hi : i < L.length * 3
  · rw [if_pos hi, Array.getElem?_toList, hz i hi]
    obtain ⟨g0, g1, g2⟩ := Sp.cells3_get L (i / 3) (by omega)
    obtain ⟨y0, y1, y2⟩ := hy (i / 3) (by omega)
    rcases (show i = i / 3 * 3 ∨ i = i / 3 * 3 + 1 ∨ i = i / 3 * 3 + 2 by omega) with e | e | e
    · rw [← e] at g0 y0; rw [g0, y0]
    · rw [← e] at g1 y1; rw [g1, y1]
    · rw [← e] at g2 y2; rw [g2, y2]
  · rw [if_neg hi, List.getElem?_eq_none (by rw [Sp.cells3_len]; omega)]
/-- An arc the other way about. -/
def Sp.sw (a : Sp.Arc) : Sp.Arc := ⟨a.t, a.f, a.l⟩
def Sp.tc (L : List Sp.Arc) (d : Nat) : Nat → Int := fun j => if j / 3 < d then (if j % 3 = 0 then ((L.getD (j / 3) Sp.arc0).t : Int) else if j % 3 = 1 then ((L.getD (j / 3) Sp.arc0).f : Int) else (L.getD (j / 3) Sp.arc0).l) else 0
end Go.Proofs.Ytoegjnolccabjab


/- Places settled by a heap of ranks (P601: From, Way): what stays along spread. -/
namespace Go.Proofs.Ytoegjnolccabjab
open Go Go.RowKit

/-- A row of costs as ranks. -/
def Sp.rk (y : Nat → Int) : Nat → Int := fun v => y (v * 2) * 300 + y (v * 2 + 1)
def Sp.Bd (n c : Nat) (y : Nat → Int) : Prop := ∀ v, v < n → (y (v * 2) = 1152921504606846976 ∧ y (v * 2 + 1) = 0) ∨ (0 ≤ y (v * 2) ∧ y (v * 2) ≤ (c : Int) * 1099511627776 ∧ 0 ≤ y (v * 2 + 1) ∧ y (v * 2 + 1) ≤ (c : Int))
def Sp.pr (a : Sp.Arc) : Sp.Arc := ⟨a.f, a.t, 300 * a.l + 1⟩
theorem Sp.mem_pairL {L : List Sp.Arc} {b : Sp.Arc} : b ∈ Sp.pairL 300 L ↔ ∃ a ∈ L, b = Sp.pr a := by
  unfold Sp.pairL
  rw [List.mem_map]
  constructor
  · rintro ⟨a, h, rfl⟩; exact ⟨a, h, rfl⟩
  · rintro ⟨a, h, rfl⟩; exact ⟨a, h, rfl⟩
theorem Sp.Bd.mono {n c c' : Nat} {y : Nat → Int} (h : Sp.Bd n c y) (hc : c ≤ c') : Sp.Bd n c' y := fun v hv => by
  rcases h v hv with h | h
  · exact .inl h
  · exact .inr ⟨h.1, by omega, h.2.2.1, by omega⟩
theorem Sp.Bd.far {n c : Nat} {y : Nat → Int} (h : Sp.Bd n c y) (hc : c ≤ 290) {v : Nat} (hv : v < n) : Sp.rk y v = 345876451382054092800 ↔ y (v * 2) = 1152921504606846976 := by
  unfold Sp.rk
  rcases h v hv with h | h <;> omega
theorem Sp.Bd.lt {n c : Nat} {y : Nat → Int} (h : Sp.Bd n c y) (hc : c ≤ 290) {v : Nat} (hv : v < n) (hf : y (v * 2) ≠ 1152921504606846976) : 0 ≤ Sp.rk y v ∧ Sp.rk y v < 144115188075855872 := by
  unfold Sp.rk
  rcases h v hv with h | h <;> omega
structure Sp.SpI (L : List Sp.Arc) (s n : Nat) (y : Nat → Int) (M : Nat → Option Int) (S : Nat → Bool) : Prop where
  dj : Sp.Dj 345876451382054092800 (Sp.pairL 300 L) s n (Sp.rk y) (fun v => S v = true)
  bd : Sp.Bd n (Sp.ct S n) y
  hp : ∀ v, v < n → M v = if S v = false ∧ y (v * 2) ≠ 1152921504606846976 then some (Sp.rk y v) else none
  hn : ∀ v, n ≤ v → M v = none
structure Sp.SpX (L : List Sp.Arc) (s n x c : Nat) (y : Nat → Int) (M : Nat → Option Int) (S : Nat → Bool) (P : Sp.Arc → Prop) : Prop where
  djx : Sp.DjX 345876451382054092800 (Sp.pairL 300 L) s n x (Sp.rk y) (fun v => S v = true) P
  bd : Sp.Bd n (c + 1) y
  bx : 0 ≤ y (x * 2) ∧ y (x * 2) ≤ (c : Int) * 1099511627776 ∧ 0 ≤ y (x * 2 + 1) ∧ y (x * 2 + 1) ≤ (c : Int)
  hp : ∀ v, v < n → M v = if S v = false ∧ v ≠ x ∧ y (v * 2) ≠ 1152921504606846976 then some (Sp.rk y v) else none
  hn : ∀ v, n ≤ v → M v = none
def Sp.y0 (s : Nat) : Nat → Int := Sp.upd (Sp.upd (fun j => if j % 2 = 0 then 1152921504606846976 else 0) (s * 2) 0) (s * 2 + 1) 0
theorem Sp.y0_at (s v : Nat) : Sp.y0 s (v * 2) = (if v = s then 0 else 1152921504606846976) ∧ Sp.y0 s (v * 2 + 1) = 0 := by
  unfold Sp.y0 Sp.upd
  constructor
  · rw [if_neg (by omega)]
    by_cases h : v = s
    · rw [if_pos (by omega), if_pos h]
    · rw [if_neg (by omega), if_neg h]
      show (if v * 2 % 2 = 0 then (1152921504606846976 : Int) else 0) = _
      rw [if_pos (by omega)]
  · by_cases h : v = s
    · rw [if_pos (by omega)]
    · rw [if_neg (by omega), if_neg (by omega)]
      show (if (v * 2 + 1) % 2 = 0 then (1152921504606846976 : Int) else 0) = _
      rw [if_neg (by omega)]
theorem Sp.ct_false (n : Nat) : Sp.ct (fun _ => false) n = 0 := by
  unfold Sp.ct; simp
theorem Sp.SpI.start (L : List Sp.Arc) {s n : Nat} (hs : s < n) : Sp.SpI L s n (Sp.y0 s) (Sp.putK (fun _ => none) (s : Int) 0) (fun _ => false) ∨ 300 ≤ n := by
  by_cases hn : 300 ≤ n
  · exact .inr hn
  refine .inl ?_
  have e : ∀ v, Sp.rk (Sp.y0 s) v = if v = s then 0 else 345876451382054092800 := fun v => by
    unfold Sp.rk
    rw [(Sp.y0_at s v).1, (Sp.y0_at s v).2]
    split <;> rfl
  have eM : Sp.putK (fun _ => none) (s : Int) 0 = Sp.put (fun _ => none) s (some 0) := by unfold Sp.putK; rw [if_pos (by omega), Int.toNat_natCast]
  refine ⟨⟨⟨?_, fun v _ hne => ?_⟩, fun v h => (by cases h), fun v h => (by cases h), fun v u h => (by cases h)⟩, fun v _ => ?_, fun v hv => ?_, fun v hv => ?_⟩
  · rw [e, if_pos rfl]; exact ⟨by omega, Int.le_refl _⟩
  · rw [e] at hne ⊢
    by_cases h : v = s
    · rw [if_pos h]; exact ⟨0, h, rfl⟩
    · rw [if_neg h] at hne; exact absurd rfl hne
  · rw [(Sp.y0_at s v).1, (Sp.y0_at s v).2]
    by_cases h : v = s
    · rw [if_pos h]; exact .inr ⟨by omega, by omega, by omega, by omega⟩
    · rw [if_neg h]; exact .inl ⟨rfl, rfl⟩
  · rw [eM, (Sp.y0_at s v).1, e]
    by_cases h : v = s
    · rw [h, Sp.put_same, if_pos rfl, if_pos rfl, if_pos ⟨rfl, by decide⟩]
    · rw [Sp.put_other _ _ h, if_neg h, if_neg (fun hh => hh.2 rfl)]
  · rw [eM, Sp.put_other _ _ (by omega)]
theorem Sp.SpI.open_ {L : List Sp.Arc} {s n : Nat} {y : Nat → Int} {M : Nat → Option Int} {S : Nat → Bool} {k r : Int} (h : Sp.SpI L s n y M S) (hn : n ≤ 290) (hl : Sp.LeastIs M k r true) : ∃ j : Nat, k = (j : Int) ∧ j < n ∧ S j = false ∧ Sp.SpX L s n j (Sp.ct S n) y (Sp.put M j none) S (fun _ => False) := by
  rcases hl with ⟨h0, -⟩ | ⟨-, j, rfl, hj, hM, hmin⟩
  · cases h0
  have hjn : j < n := by
    rcases Nat.lt_or_ge j n with e | e
    · exact e
    · rw [h.hn j e] at hM; cases hM
  have hMj := h.hp j hjn
  rw [hM] at hMj
  have hc : S j = false ∧ y (j * 2) ≠ 1152921504606846976 := by
    by_cases e : S j = false ∧ y (j * 2) ≠ 1152921504606846976
    · exact e
    · rw [if_neg e] at hMj; cases hMj
  rw [if_pos hc] at hMj
  have hr : r = Sp.rk y j := by injection hMj
  have hct : Sp.ct S n ≤ n := Sp.ct_le S n
  refine ⟨j, rfl, hjn, hc.1, ?_, h.bd.mono (by omega), ?_, fun v hv => ?_, fun v hv => ?_⟩
  · refine h.dj.open_ (by rw [hc.1]; simp) hjn (fun e => hc.2 ((h.bd.far (by omega) hjn).1 e)) (fun u hu hun hne => ?_)
    have hu0 : S u = false := by cases hs : S u with
      | false => rfl
      | true => exact absurd hs hu
    have huf : y (u * 2) ≠ 1152921504606846976 := fun e => hne ((h.bd.far (by omega) hun).2 e)
    have := hmin u (Sp.rk y u) (by rw [h.hp u hun, if_pos ⟨hu0, huf⟩])
    rcases (Sp.ahead_no _ _ _ _).1 this with e | e
    · omega
    · omega
  · rcases h.bd j hjn with e | e
    · exact absurd e.1 hc.2
    · exact e
  · by_cases e : v = j
    · subst e
      rw [Sp.put_same, if_neg (fun hh => hh.2.1 rfl)]
    · rw [Sp.put_other _ _ e, h.hp v hv]
      by_cases e2 : S v = false ∧ y (v * 2) ≠ 1152921504606846976
      · rw [if_pos e2, if_pos ⟨e2.1, e, e2.2⟩]
      · rw [if_neg e2, if_neg (fun hh => e2 ⟨hh.1, hh.2.2⟩)]
  · rw [Sp.put_other _ _ (by omega)]; exact h.hn v hv
theorem Sp.SpX.xg {L : List Sp.Arc} {s n x c : Nat} {y : Nat → Int} {M : Nat → Option Int} {S : Nat → Bool} {P : Sp.Arc → Prop} (h : Sp.SpX L s n x c y M S P) (hc : c + 1 ≤ 290) : y (x * 2) ≠ 1152921504606846976 := by
  have := h.bx; omega
theorem Sp.less_rk {n c : Nat} {y : Nat → Int} (h : Sp.Bd n c y) (hc : c ≤ 290) {t : Nat} (ht : t < n) {X A : Int} (hA : 0 ≤ A ∧ A < 300) : Sp.lessB X A (y (t * 2)) (y (t * 2 + 1)) = true ↔ X * 300 + A < Sp.rk y t := by
  unfold Sp.lessB Sp.rk
  rw [decide_eq_true_eq]
  rcases h t ht with h | h <;> omega
theorem Sp.rk_upd (y : Nat → Int) (t : Nat) (X A : Int) (v : Nat) : Sp.rk (Sp.upd (Sp.upd y (t * 2) X) (t * 2 + 1) A) v = if v = t then X * 300 + A else Sp.rk y v := by
  unfold Sp.rk Sp.upd
  by_cases h : v = t
  · subst h
    rw [if_pos rfl, if_neg (by omega), if_pos rfl, if_pos rfl]
  · rw [if_neg h, if_neg (by omega), if_neg (by omega), if_neg (by omega), if_neg (by omega)]
theorem Sp.upd_at (y : Nat → Int) (t : Nat) (X A : Int) (v : Nat) : Sp.upd (Sp.upd y (t * 2) X) (t * 2 + 1) A (v * 2) = (if v = t then X else y (v * 2)) ∧ Sp.upd (Sp.upd y (t * 2) X) (t * 2 + 1) A (v * 2 + 1) = (if v = t then A else y (v * 2 + 1)) := by
  unfold Sp.upd
  by_cases h : v = t
  · subst h
    rw [if_pos rfl, if_pos rfl, if_neg (by omega), if_pos rfl]
    exact ⟨rfl, by rw [if_pos rfl]⟩
  · rw [if_neg h, if_neg h, if_neg (by omega), if_neg (by omega), if_neg (by omega), if_neg (by omega)]
    exact ⟨rfl, rfl⟩
theorem Sp.SpX.no {L : List Sp.Arc} {s n x c : Nat} {y : Nat → Int} {M : Nat → Option Int} {S : Nat → Bool} {P : Sp.Arc → Prop} (h : Sp.SpX L s n x c y M S P) (hc : c + 1 ≤ 290) (hxn : x < n) (hpos : ∀ a ∈ L, 0 ≤ a.l) {a : Sp.Arc} (ha : a ∈ L) (hax : a.f = x) (htn : a.t < n) (hl : a.l ≤ 1099511627776) (hno : Sp.lessB (y (x * 2) + a.l) (y (x * 2 + 1) + 1) (y (a.t * 2)) (y (a.t * 2 + 1)) = false) :
    Sp.SpX L s n x c y M S (fun b => P b ∨ b = Sp.pr a) := by
  have h0 := hpos a ha
  have hbx := h.bx
  have hiff := Sp.less_rk h.bd hc htn (X := y (x * 2) + a.l) (A := y (x * 2 + 1) + 1) (by omega)
  have hge : ¬ (Sp.rk y x + (300 * a.l + 1) < Sp.rk y a.t) := fun hh => by
    have : (y (x * 2) + a.l) * 300 + (y (x * 2 + 1) + 1) < Sp.rk y a.t := by unfold Sp.rk at hh ⊢; omega
    rw [hiff.2 this] at hno; cases hno
  have hd := h.djx.try_ (a := Sp.pr a) (by omega) (fun b hb => by obtain ⟨a', ha', rfl⟩ := Sp.mem_pairL.1 hb; have := hpos a' ha'; show 0 < 300 * a'.l + 1; omega) hxn (Sp.mem_pairL.2 ⟨a, ha, rfl⟩) hax (by
    show Sp.rk y x + (300 * a.l + 1) < _; unfold Sp.rk; omega)
  have e : Sp.rx 345876451382054092800 (Sp.rk y) (Sp.pr a) = Sp.rk y := funext fun v => by
    unfold Sp.rx
    rw [if_neg]
    intro hh
    have h3 := hh.2.2
    rw [show (Sp.pr a).f = x from hax] at h3
    exact hge h3
  rw [e] at hd
  exact ⟨hd, h.bd, h.bx, h.hp, h.hn⟩
theorem Sp.SpX.yes {L : List Sp.Arc} {s n x c : Nat} {y : Nat → Int} {M : Nat → Option Int} {S : Nat → Bool} {P : Sp.Arc → Prop} (h : Sp.SpX L s n x c y M S P) (hc : c + 1 ≤ 290) (hn : n ≤ 290) (hxn : x < n) (hpos : ∀ a ∈ L, 0 ≤ a.l) {a : Sp.Arc} (ha : a ∈ L) (hax : a.f = x) (htn : a.t < n) (hl : a.l ≤ 1099511627776) (hyes : Sp.lessB (y (x * 2) + a.l) (y (x * 2 + 1) + 1) (y (a.t * 2)) (y (a.t * 2 + 1)) = true) :
    a.t ≠ x ∧ Sp.SpX L s n x c (Sp.upd (Sp.upd y (a.t * 2) (y (x * 2) + a.l)) (a.t * 2 + 1) (y (x * 2 + 1) + 1)) (Sp.putK M (a.t : Int) ((y (x * 2) + a.l) * 300 + (y (x * 2 + 1) + 1))) S (fun b => P b ∨ b = Sp.pr a) := by
  have h0 := hpos a ha
  have hbx := h.bx
  have hlt := (Sp.less_rk h.bd hc htn (X := y (x * 2) + a.l) (A := y (x * 2 + 1) + 1) (by omega)).1 hyes
  have hlt' : Sp.rk y x + (300 * a.l + 1) < Sp.rk y a.t := by unfold Sp.rk at hlt ⊢; omega
  have htx : a.t ≠ x := fun e => by rw [e] at hlt'; omega
  have hSt : S a.t = false := by
    cases hs : S a.t with
    | false => rfl
    | true => have := h.djx.below a.t hs; omega
  have hd := h.djx.try_ (a := Sp.pr a) (by omega) (fun b hb => by obtain ⟨a', ha', rfl⟩ := Sp.mem_pairL.1 hb; have := hpos a' ha'; show 0 < 300 * a'.l + 1; omega) hxn (Sp.mem_pairL.2 ⟨a, ha, rfl⟩) hax (by
    show Sp.rk y x + (300 * a.l + 1) < _; unfold Sp.rk; omega)
  have e : Sp.rx 345876451382054092800 (Sp.rk y) (Sp.pr a) = Sp.rk (Sp.upd (Sp.upd y (a.t * 2) (y (x * 2) + a.l)) (a.t * 2 + 1) (y (x * 2 + 1) + 1)) := funext fun v => by
    rw [Sp.rk_upd]
    unfold Sp.rx
    rw [show (Sp.pr a).f = x from hax]
    show (if v = a.t ∧ Sp.rk y x ≠ 345876451382054092800 ∧ Sp.rk y x + (300 * a.l + 1) < Sp.rk y a.t then Sp.rk y x + (300 * a.l + 1) else Sp.rk y v) = _
    by_cases hv : v = a.t
    · rw [if_pos ⟨hv, fun e => h.xg hc ((h.bd.far hc hxn).1 e), hlt'⟩, if_pos hv]
      unfold Sp.rk; omega
    · rw [if_neg (fun hh => hv hh.1), if_neg hv]
  rw [e] at hd
  have eM : Sp.putK M (a.t : Int) ((y (x * 2) + a.l) * 300 + (y (x * 2 + 1) + 1)) = Sp.put M a.t (some ((y (x * 2) + a.l) * 300 + (y (x * 2 + 1) + 1))) := by unfold Sp.putK; rw [if_pos (by omega), Int.toNat_natCast]
  refine ⟨htx, hd, fun v hv => ?_, ?_, fun v hv => ?_, fun v hv => ?_⟩
  · rw [(Sp.upd_at _ _ _ _ v).1, (Sp.upd_at _ _ _ _ v).2]
    by_cases e : v = a.t
    · rw [if_pos e, if_pos e]; exact .inr ⟨by omega, by omega, by omega, by omega⟩
    · rw [if_neg e, if_neg e]; exact h.bd v hv
  · rw [(Sp.upd_at _ _ _ _ x).1, (Sp.upd_at _ _ _ _ x).2, if_neg (fun e => htx e.symm), if_neg (fun e => htx e.symm)]; exact h.bx
  · rw [eM, (Sp.upd_at _ _ _ _ v).1, Sp.rk_upd]
    by_cases e : v = a.t
    · subst e
      rw [Sp.put_same, if_pos rfl, if_pos rfl, if_pos ⟨hSt, htx, by omega⟩]
    · rw [Sp.put_other _ _ e, if_neg e, if_neg e]; exact h.hp v hv
  · rw [eM, Sp.put_other _ _ (by omega)]; exact h.hn v hv
theorem Sp.ct_or {S : Nat → Bool} {x : Nat} (hx : S x = false) : ∀ n, Sp.ct (fun v => S v || (v == x)) n = Sp.ct S n + if x < n then 1 else 0
  | 0 => by simp [Sp.ct]
  | n + 1 => by
    rw [Sp.ct_succ, Sp.ct_succ, Sp.ct_or hx n]
    by_cases e : n = x
    · subst e; rw [hx]; simp
    · have e2 : (n == x) = false := beq_eq_false_iff_ne.2 e
      rw [e2, Bool.or_false]
      by_cases h : x < n
      · rw [if_pos h, if_pos (by omega : x < n + 1)]; omega
      · rw [if_neg h, if_neg (by omega : ¬ x < n + 1)]; omega
theorem Sp.SpX.close {L : List Sp.Arc} {s n x : Nat} {y : Nat → Int} {M : Nat → Option Int} {S : Nat → Bool} {P : Sp.Arc → Prop} (h : Sp.SpX L s n x (Sp.ct S n) y M S P) (hSx : S x = false) (hxn : x < n) (hP : ∀ a ∈ L, a.f = x → P (Sp.pr a)) :
    Sp.SpI L s n y M (fun v => S v || (v == x)) ∧ Sp.ct (fun v => S v || (v == x)) n = Sp.ct S n + 1 := by
  have hct : Sp.ct (fun v => S v || (v == x)) n = Sp.ct S n + 1 := by rw [Sp.ct_or hSx, if_pos hxn]
  have hd := h.djx.close (fun b hb hbx => by obtain ⟨a, ha, rfl⟩ := Sp.mem_pairL.1 hb; exact hP a ha hbx)
  have eS : (fun v => S v = true ∨ v = x) = fun v => (S v || (v == x)) = true := funext fun v => by
    rw [Bool.or_eq_true, beq_iff_eq]
  rw [eS] at hd
  refine ⟨⟨hd, by rw [hct]; exact h.bd, fun v hv => ?_, h.hn⟩, hct⟩
  rw [h.hp v hv]
  by_cases e : v = x
  · subst e
    rw [if_neg (fun hh => hh.2.1 rfl), if_neg (fun hh => by simp at hh)]
  · have e2 : (v == x) = false := beq_eq_false_iff_ne.2 e
    simp only [e2, Bool.or_false, ne_eq, e, not_false_eq_true, true_and]
theorem Sp.SpI.finish {L : List Sp.Arc} {s n : Nat} {y : Nat → Int} {M : Nat → Option Int} {S : Nat → Bool} {k r : Int} (h : Sp.SpI L s n y M S) (hn : n ≤ 290) (hL : ∀ a ∈ L, a.f < n ∧ a.t < n) (hpos : ∀ a ∈ L, 0 ≤ a.l) (hs : s < n) (hl : Sp.LeastIs M k r false) : Sp.Short 345876451382054092800 (Sp.pairL 300 L) s n (Sp.rk y) ∧ Sp.Bd n n y := by
  have hct : Sp.ct S n ≤ n := Sp.ct_le S n
  rcases hl with ⟨-, -, -, hno⟩ | ⟨h0, -⟩
  · refine ⟨h.dj.short (fun b hb => by obtain ⟨a, ha, rfl⟩ := Sp.mem_pairL.1 hb; exact hL a ha) (fun b hb => by obtain ⟨a', ha', rfl⟩ := Sp.mem_pairL.1 hb; have := hpos a' ha'; show 0 < 300 * a'.l + 1; omega) hs (fun v hv hne => ?_), h.bd.mono hct⟩
    have h1 := h.hp v hv
    rw [hno v] at h1
    cases hs : S v with
    | true => rfl
    | false => rw [if_pos ⟨hs, fun e => hne ((h.bd.far (by omega) hv).2 e)⟩] at h1; cases h1
  · cases h0
/-- Ranks that are the shortest ways: so are the lengths. -/
theorem Sp.short_long {L : List Sp.Arc} {s n : Nat} {y : Nat → Int} (h : Sp.Short 345876451382054092800 (Sp.pairL 300 L) s n (Sp.rk y)) (hb : Sp.Bd n n y) (hn : n ≤ 290) (hL : ∀ a ∈ L, a.f < n ∧ a.t < n) (hs : s < n) : Sp.Short 1152921504606846976 L s n (fun v => y (v * 2)) := by
  have hwk : ∀ m v x, Sp.Wk (Sp.pairL 300 L) s m v x → ∃ x', Sp.Wk L s m v x' ∧ x = 300 * x' + (m : Int) := by
    intro m
    induction m with
    | zero => intro v x hw; obtain ⟨rfl, rfl⟩ := hw; exact ⟨0, ⟨rfl, rfl⟩, by omega⟩
    | succ m ih =>
      intro v x hw
      obtain ⟨b, hb, rfl, hw⟩ := hw
      obtain ⟨a, ha, rfl⟩ := Sp.mem_pairL.1 hb
      obtain ⟨x', h1, h2⟩ := ih _ _ hw
      refine ⟨x' + a.l, ⟨a, ha, rfl, by rw [Int.add_sub_cancel]; exact h1⟩, ?_⟩
      have h2' : x - (300 * a.l + 1) = 300 * x' + (m : Int) := h2
      rw [Int.mul_add]
      push_cast
      omega
  have hnn : ∀ v, v < n → y (v * 2) ≠ 1152921504606846976 → 0 ≤ y (v * 2) ∧ 0 ≤ y (v * 2 + 1) ∧ y (v * 2 + 1) ≤ 290 := fun v hv hne => by
    rcases hb v hv with e | e
    · exact absurd e.1 hne
    · exact ⟨e.1, e.2.2.1, by omega⟩
  have hsrc : y (s * 2) = 0 := by
    have h0 := h.src
    have hne : y (s * 2) ≠ 1152921504606846976 := fun e => by
      have := (hb.far hn hs).2 e; omega
    have := hnn s hs hne
    unfold Sp.rk at h0
    omega
  have harc : ∀ a ∈ L, y (a.f * 2) ≠ 1152921504606846976 → y (a.t * 2) ≠ 1152921504606846976 ∧ y (a.t * 2) ≤ y (a.f * 2) + a.l := fun a ha hne => by
    have h1 := h.arc (Sp.pr a) (Sp.mem_pairL.2 ⟨a, ha, rfl⟩) (fun e => hne ((hb.far hn (hL a ha).1).1 e))
    have h2 : y (a.t * 2) ≠ 1152921504606846976 := fun e => h1.1 ((hb.far hn (hL a ha).2).2 e)
    have h3 : Sp.rk y a.t ≤ Sp.rk y a.f + (300 * a.l + 1) := h1.2
    have h4 := hnn _ (hL a ha).1 hne
    have h5 := hnn _ (hL a ha).2 h2
    refine ⟨h2, ?_⟩
    unfold Sp.rk at h3
    omega
  have hlow : ∀ m v x, Sp.Wk L s m v x → y (v * 2) ≠ 1152921504606846976 ∧ y (v * 2) ≤ x := by
    intro m
    induction m with
    | zero => intro v x hw; obtain ⟨rfl, rfl⟩ := hw; rw [hsrc]; exact ⟨by decide, Int.le_refl _⟩
    | succ m ih =>
      intro v x hw
      obtain ⟨a, ha, rfl, hw⟩ := hw
      obtain ⟨h1, h2⟩ := ih _ _ hw
      obtain ⟨h3, h4⟩ := harc a ha h1
      exact ⟨h3, by omega⟩
  refine ⟨hsrc, harc, fun v hv hne => ?_⟩
  obtain ⟨m, hm⟩ := h.att v hv (fun e => hne ((hb.far hn hv).1 e))
  obtain ⟨x', h1, h2⟩ := hwk m v _ hm
  have h3 := hnn v hv hne
  have h4 := (hlow m v x' h1).2
  refine ⟨m, ?_⟩
  unfold Sp.rk at h2
  have e : y (v * 2) = x' := by omega
  show Sp.Wk L s m v (y (v * 2))
  rw [e]; exact h1
end Go.Proofs.Ytoegjnolccabjab


/- The laws of heaps: within, known. -/
namespace Go.Proofs.Ytoegjnolccabjab
open Go Go.RowKit

theorem But.on {B b : Nat} {w u v : World} (k : But b u v) (h : Below B w u) (hB : B ≤ b) (hw : B ≤ u.heap.size) : Below B w v := h.trans (k.below hB hw)
theorem hnew2_any (w : World) :
    Calls Try.prog 65 #[] w fun e w' => e = .returned (.pointer (some ⟨w.heap.size, 0, none⟩)) ∧ Below w.heap.size w w' ∧ HpIs w' w.heap.size (fun _ => none) ∧ w'.heap.size = w.heap.size + 1 := by
  refine (hnew_any w).mono ?_
  rintro e w' ⟨rfl, rfl⟩
  exact ⟨rfl, (Below.refl _ w).alloc (Nat.le_refl _) _, hnew_is w, by show (w.heap.push _).size = _; exact Array.size_push _⟩
end Go.Proofs.Ytoegjnolccabjab


