/- What the proof needs, part 5. -/
import Derived.Test.YtggjpglakocilaaL4
/- Package heap: Least, Take. -/
namespace Go.Proofs.Ytggjpglakocilaa
open Go Go.RowKit

/-- What is ahead of all that M holds; nothing, of none. -/
def Sp.LeastIs (M : Nat → Option Int) (k r : Int) (is : Bool) : Prop :=
  (is = false ∧ k = 0 ∧ r = 0 ∧ ∀ j, M j = none) ∨ (is = true ∧ ∃ j : Nat, k = (j : Int) ∧ j < 300 ∧ M j = some r ∧ ∀ j' r', M j' = some r' → Sp.aheadB (j' : Int) r' k r = false)
theorem Sp.LeastIs.uniq {M : Nat → Option Int} {k r k' r' : Int} {is is' : Bool} (h : Sp.LeastIs M k r is) (h' : Sp.LeastIs M k' r' is') : k = k' ∧ r = r' ∧ is = is' := by
  rcases h with ⟨a, b, c, d⟩ | ⟨a, j, b, -, c, d⟩
  · rcases h' with ⟨a', b', c', d'⟩ | ⟨a', j', b', -, c', d'⟩
    · exact ⟨by omega, by omega, by rw [a, a']⟩
    · rw [d j'] at c'; cases c'
  · rcases h' with ⟨a', b', c', d'⟩ | ⟨a', j', b', -, c', d'⟩
    · rw [d' j] at c; cases c
    · have h1 := d j' r' c'
      have h2 := d' j r c
      rw [Sp.ahead_no] at h1 h2
      exact ⟨by omega, by omega, by rw [a, a']⟩
theorem Sp.HpI.least {z : Nat → Int} {M : Nat → Option Int} {n : Nat} (h : Sp.HpI z M n) (hw : Sp.Wiped z n) : Sp.LeastIs M (z (0 * 2)) (z (0 * 2 + 1)) (decide (0 < n)) := by
  by_cases h0 : 0 < n
  · obtain ⟨k, hk, a, b, c⟩ := h.it 0 h0
    refine .inr ⟨decide_eq_true h0, k, a, hk, c, fun j' r' hm => ?_⟩
    have hj : j' < 300 := by
      rcases Nat.lt_or_ge j' 300 with h1 | h1
      · exact h1
      · rw [h.out j' h1] at hm; cases hm
    rcases h.pl j' hj with ⟨-, e⟩ | ⟨i, hi, e, f⟩
    · rw [hm] at e; cases e
    · have := h.first i hi
      obtain ⟨k2, -, g, -, g2⟩ := h.it i hi
      have hk2 : k2 = j' := by omega
      rw [hk2, hm] at g2
      rw [← f, Option.some.inj g2]
      exact this
  · refine .inl ⟨decide_eq_false h0, (hw 0 (by omega) (by omega)).1, (hw 0 (by omega) (by omega)).2, fun j => ?_⟩
    rcases Nat.lt_or_ge j 300 with h1 | h1
    · rcases h.pl j h1 with ⟨-, e⟩ | ⟨i, hi, -, -⟩
      · exact e
      · omega
    · exact h.out j h1
theorem But.trans' {b : Nat} {u w w' : World} (h : But b u w) (k : Below u.heap.size w w') : But b u w' :=
  ⟨k.os.trans h.os, k.tape.trans h.tape, k.output.trans h.output, Nat.le_trans h.size k.size, fun i hi hb => (k.block i hi).trans (h.block i hi hb)⟩
set_option maxRecDepth 100000 in
set_option maxHeartbeats 4000000 in
theorem hleast0_any (z : Nat → Int) (n b : Nat) (w : World) (h : HpAt w b z) (hn : z 600 = (n : Int)) :
    Calls Try.prog 55 #[.pointer (some ⟨b, 0, none⟩)] w fun e w' => e = .returned (.tuple #[.agg #[.int .i64 (z (0 * 2)), .int .i64 (z (0 * 2 + 1))], .bool (decide (0 < n))]) ∧ Below w.heap.size w w' := by
  have hb := h.lt
  have c6 := fun o => (h.alloc o).cell (j := 600) (by omega)
  have d6 := h.cell (j := 600) (by omega)
  rw [hn] at c6 d6
  have c0 := fun o => (h.alloc o).cell (j := 0) (by omega)
  have c1 := fun o => (h.alloc o).cell (j := 1) (by omega)
  have d0 := h.cell (j := 0) (by omega)
  have d1 := h.cell (j := 1) (by omega)
  have HB : Hid (∀ o, Below w.heap.size w (w.alloc o).drew) := hide fun o => ((Below.refl _ w).alloc (Nat.le_refl _) o).drew
  show Calls Try.prog 55 #[.pointer (some ⟨b, 0, none⟩)] w fun e w' => e = .returned (.tuple #[.agg #[.int .i64 (z 0), .int .i64 (z 1)], .bool (decide (0 < n))]) ∧ Below w.heap.size w w'
  generalize z 0 = k0 at *
  generalize z 1 = r0 at *
  clear h hn
  go_enter Try.func55, Try.ntmps55
  go_wp2_with fail
  go_region
  go_wp2
  refine bodyPost_ret (v := .tuple #[.agg #[.int .i64 k0, .int .i64 r0], .bool (decide (0 < n))]) (by simp [results, Try.results55, go_sem]) rfl ?_
  exact ⟨rfl, unhide HB _⟩
theorem But.set_new {b B : Nat} {u w : World} (h : But b u w) (hB : u.heap.size ≤ B) (j : Nat) (v : Value) : But b u (w.setCell ⟨B, j, none⟩ v) :=
  h.trans' ⟨rfl, rfl, rfl, by simp [World.setCell], fun k hk => Below.heap_setCell _ _ _ _ (by show k ≠ B; omega)⟩
theorem cell_set_eq {w : World} {a : Addr} {v u : Value} (h : w.cell? a = some u) : (w.setCell a v).cell? a = some v := by
  apply World.cell?_setCell_same; exact h
/-- An item's block. -/
theorem item_at {w : World} {B : Nat} {k r : Value} (h : w.heap[B]? = some (.cells #[k, r] 68)) : w.cell? ⟨B, 0, none⟩ = some k ∧ w.cell? ⟨B, 1, none⟩ = some r ∧ ∀ j, w.frozen? ⟨B, j, none⟩ = false := by
  refine ⟨?_, ?_, fun j => ?_⟩
  · simp only [World.cell?, h]; rfl
  · simp only [World.cell?, h]; rfl
  · simp [World.frozen?, h]
set_option maxRecDepth 100000 in
set_option maxHeartbeats 4000000 in
theorem htake_any (M : Nat → Option Int) (b : Nat) (w : World) (h : HpIs w b M) :
    Calls Try.prog 45 #[.pointer (some ⟨b, 0, none⟩)] w fun e w' => ∃ k r is, e = .returned (.tuple #[.agg #[.int .i64 k, .int .i64 r], .bool is]) ∧ Sp.LeastIs M k r is ∧ But b w w' ∧ HpIs w' b (Sp.put M k.toNat none) := by
  have hb := h.lt
  have h0 := h
  obtain ⟨z, h1, h2, h3⟩ := h
  have hL := h2.least h3
  have hLs := fun w' (hw : HpAt w' b z) => hleast0_any z (Sp.cnt M) b w' hw h2.many
  have HW : Hid (∀ w', Below (w.heap.size + 1) (w.alloc (.cells #[.int .i64 0, .int .i64 0] 68)) w' → Below w.heap.size w w' ∧ w'.heap[w.heap.size]? = some (.cells #[.int .i64 0, .int .i64 0] 68) ∧ HpAt w' b z ∧ w.heap.size + 1 ≤ w'.heap.size) := hide fun w' hb' => by
    have hb1 : Below w.heap.size w (w.alloc (.cells #[.int .i64 0, .int .i64 0] 68)) := (Below.refl _ w).alloc (Nat.le_refl _) _
    have hb2 := hb1.trans (hb'.mono (Nat.le_succ _))
    refine ⟨hb2, ?_, h1.below hb2, by have := hb'.size; simp at this; omega⟩
    rw [hb'.block _ (Nat.lt_succ_self _)]
    show (w.heap.push _)[w.heap.size]? = _
    rw [Array.getElem?_push, if_pos rfl]
  have hs : (w.alloc (.cells #[.int .i64 0, .int .i64 0] 68)).heap.size = w.heap.size + 1 := by simp
  have hL0 := hLs _ (unhide HW _ (Below.refl _ _)).2.2.1
  rw [hs] at hL0
  have HL0 := hide hL0
  have H0 := hide (And.intro h1 (And.intro h2 (And.intro h3 h0)))
  have HLe := hide hL
  clear hL hLs hL0 h1 h2 h3 h0 hs
  generalize hk0 : z (0 * 2) = k0 at *
  generalize z (0 * 2 + 1) = r0 at *
  have HK0 := hide hk0
  clear hk0
  obtain ⟨P, hP⟩ : ∃ P : Ending → World → Prop, P = fun e w' => ∃ k r is, e = .returned (.tuple #[.agg #[.int .i64 k, .int .i64 r], .bool is]) ∧ Sp.LeastIs M k r is ∧ But b w w' ∧ HpIs w' b (Sp.put M k.toNat none) := ⟨_, rfl⟩
  rw [← hP]
  have HP := hide hP
  clear hP
  by_cases hn : 0 < Sp.cnt M
  · rw [decide_eq_true hn] at HL0 HLe
    go_enter Try.func45, Try.ntmps45
    go_wp2_with fail
    go_at_call 55
    generalize w.alloc (.cells #[.int .i64 0, .int .i64 0] 68) = W0 at *
    refine (unhide HL0).mono ?_
    rintro e w2 ⟨rfl, hb2⟩
    obtain ⟨hb3, hB3, hp3, hs3⟩ := unhide HW _ hb2
    have H2 := hide (And.intro hb3 (And.intro hB3 hp3))
    have hs2 := hs3
    clear hb3 hB3 hp3 hb2
    obtain ⟨j, hkj, hj⟩ : ∃ j : Nat, k0 = (j : Int) ∧ j < 300 := by
      rcases unhide HLe with ⟨a, -⟩ | ⟨-, j, a, b, -⟩
      · cases a
      · exact ⟨j, a, b⟩
    subst hkj
    obtain ⟨m, hm⟩ : ∃ m, Sp.cnt M = m + 1 := ⟨Sp.cnt M - 1, by omega⟩
    rw [hm] at H0
    have hR := remove_any z M b m 0 j (w2.alloc (.cells #[.int .i64 (j : Int), .int .i64 r0] 68)) ((unhide H2).2.2.alloc _) (unhide H0).2.1 (unhide H0).2.2.1 (by omega) (unhide HK0)
    rw [show (((0 : Nat)) : Int) = 0 from rfl] at hR
    have HR := hide hR
    have HI : Hid ((w2.alloc (.cells #[.int .i64 (j : Int), .int .i64 r0] 68)).heap[w2.heap.size]? = some (.cells #[.int .i64 (j : Int), .int .i64 r0] 68) ∧ (w2.alloc (.cells #[.int .i64 (j : Int), .int .i64 r0] 68)).heap[w.heap.size]? = some (.cells #[.int .i64 0, .int .i64 0] 68) ∧ (w2.alloc (.cells #[.int .i64 (j : Int), .int .i64 r0] 68)).heap.size = w2.heap.size + 1 ∧ But b w (w2.alloc (.cells #[.int .i64 (j : Int), .int .i64 r0] 68))) := hide ⟨by
      show (w2.heap.push _)[w2.heap.size]? = _
      rw [Array.getElem?_push, if_pos rfl], by
      rw [Below.heap_alloc _ _ _ (by omega)]; exact (unhide H2).2.1, by simp, (But.of (unhide H2).1).alloc _⟩
    clear hR hm hn hj hs3
    go_wp2_with fail
    generalize w2.alloc (.cells #[.int .i64 (j : Int), .int .i64 r0] 68) = W3 at *
    refine (unhide HR).mono ?_
    rintro e w4 ⟨rfl, hb4, hi4⟩
    have hs4 := (unhide HI).2.2.1
    have hg4 := hb4.size
    obtain ⟨x0, x1, -⟩ := item_at (w := w4) (B := w2.heap.size) ((hb4.block _ (by omega) (by omega)).trans (unhide HI).1)
    obtain ⟨y0, y1, yf⟩ := item_at (w := w4) (B := w.heap.size) ((hb4.block _ (by omega) (by omega)).trans (unhide HI).2.1)
    have y1' := fun v : Value => show (w4.setCell ⟨w.heap.size, 0, none⟩ v).cell? ⟨w.heap.size, 1, none⟩ = some (.int .i64 0) by rw [cell_set_ne (by omega)]; exact y1
    have HQ : Hid (∀ v v', But b w ((w4.setCell ⟨w.heap.size, 0, none⟩ v).setCell ⟨w.heap.size, 1, none⟩ v') ∧ HpIs ((w4.setCell ⟨w.heap.size, 0, none⟩ v).setCell ⟨w.heap.size, 1, none⟩ v') b (Sp.put M j none) ∧ ((w4.setCell ⟨w.heap.size, 0, none⟩ v).setCell ⟨w.heap.size, 1, none⟩ v').cell? ⟨w.heap.size, 0, none⟩ = some v ∧ ((w4.setCell ⟨w.heap.size, 0, none⟩ v).setCell ⟨w.heap.size, 1, none⟩ v').cell? ⟨w.heap.size, 1, none⟩ = some v') := hide fun v v' => ⟨(((unhide HI).2.2.2.trans hb4).set_new (Nat.le_refl _) _ _).set_new (Nat.le_refl _) _ _, hi4.of_block (by rw [Below.heap_setCell _ _ _ _ (by show b ≠ w.heap.size; omega), Below.heap_setCell _ _ _ _ (by show b ≠ w.heap.size; omega)]), by
      rw [cell_set_ne (by omega)]; exact cell_set_eq y0, cell_set_eq (y1' v)⟩
    have r0' := (unhide HQ (.int .i64 (j : Int)) (.int .i64 r0)).2.2.1
    have r1' := (unhide HQ (.int .i64 (j : Int)) (.int .i64 r0)).2.2.2
    clear hb4 hi4 hs4 hg4 HR
    go_wp2
    refine bodyPost_ret (v := .tuple #[.agg #[.int .i64 (j : Int), .int .i64 r0], .bool true]) (by simp [results, Try.results45, go_sem, r0', r1']) rfl ?_
    rw [unhide HP]
    exact ⟨_, _, _, rfl, unhide HLe, (unhide HQ _ _).1, by rw [Int.toNat_natCast]; exact (unhide HQ _ _).2.1⟩
  · rw [decide_eq_false hn] at HL0 HLe
    go_enter Try.func45, Try.ntmps45
    go_wp2_with fail
    go_at_call 55
    generalize w.alloc (.cells #[.int .i64 0, .int .i64 0] 68) = W0 at *
    refine (unhide HL0).mono ?_
    rintro e w2 ⟨rfl, hb2⟩
    obtain ⟨hb3, hB3, hp3, hs3⟩ := unhide HW _ hb2
    have hI1 : (w2.alloc (.cells #[.int .i64 k0, .int .i64 r0] 68)).heap[w2.heap.size]? = some (.cells #[.int .i64 k0, .int .i64 r0] 68) := by
      show (w2.heap.push _)[w2.heap.size]? = _
      rw [Array.getElem?_push, if_pos rfl]
    have hI2 : (w2.alloc (.cells #[.int .i64 k0, .int .i64 r0] 68)).heap[w.heap.size]? = some (.cells #[.int .i64 0, .int .i64 0] 68) := by
      rw [Below.heap_alloc _ _ _ (by omega)]; exact hB3
    obtain ⟨x0, x1, -⟩ := item_at hI1
    obtain ⟨y0, y1, yf⟩ := item_at hI2
    have y1' := fun v : Value => show ((w2.alloc (.cells #[.int .i64 k0, .int .i64 r0] 68)).setCell ⟨w.heap.size, 0, none⟩ v).cell? ⟨w.heap.size, 1, none⟩ = some (.int .i64 0) by rw [cell_set_ne (by omega)]; exact y1
    have HQ : Hid (∀ v v', But b w (((w2.alloc (.cells #[.int .i64 k0, .int .i64 r0] 68)).setCell ⟨w.heap.size, 0, none⟩ v).setCell ⟨w.heap.size, 1, none⟩ v') ∧ HpIs (((w2.alloc (.cells #[.int .i64 k0, .int .i64 r0] 68)).setCell ⟨w.heap.size, 0, none⟩ v).setCell ⟨w.heap.size, 1, none⟩ v') b M) := hide fun v v' => ⟨((((But.of hb3).alloc _).set_new (Nat.le_refl _) _ _).set_new (Nat.le_refl _) _ _), ((unhide H0).2.2.2.below (hb3.trans ((Below.refl _ w2).alloc (by omega) _))).of_block (by rw [Below.heap_setCell _ _ _ _ (by show b ≠ w.heap.size; omega), Below.heap_setCell _ _ _ _ (by show b ≠ w.heap.size; omega)])⟩
    have r0' := fun v' : Value => show (((w2.alloc (.cells #[.int .i64 k0, .int .i64 r0] 68)).setCell ⟨w.heap.size, 0, none⟩ (.int .i64 k0)).setCell ⟨w.heap.size, 1, none⟩ v').cell? ⟨w.heap.size, 0, none⟩ = some (.int .i64 k0) by rw [cell_set_ne (by omega)]; exact cell_set_eq y0
    have r1' := show (((w2.alloc (.cells #[.int .i64 k0, .int .i64 r0] 68)).setCell ⟨w.heap.size, 0, none⟩ (.int .i64 k0)).setCell ⟨w.heap.size, 1, none⟩ (.int .i64 r0)).cell? ⟨w.heap.size, 1, none⟩ = some (.int .i64 r0) from cell_set_eq (y1' _)
    clear hb3 hB3 hp3 hb2 hI1 hI2
    go_wp2
    refine bodyPost_ret (v := .tuple #[.agg #[.int .i64 k0, .int .i64 r0], .bool false]) (by simp [results, Try.results45, go_sem, r0', r1']) rfl ?_
    rw [unhide HP]
    refine ⟨_, _, _, rfl, unhide HLe, (unhide HQ _ _).1, ?_⟩
    rcases unhide HLe with ⟨-, a, -, c⟩ | ⟨a, -⟩
    · rw [Sp.put_none _ _ (c _)]; exact (unhide HQ _ _).2
    · cases a
end Go.Proofs.Ytggjpglakocilaa


/- Package path: and, less, rank, turned. -/
namespace Go.Proofs.Ytggjpglakocilaa
open Go Go.RowKit

theorem cost_new (w : World) (x y : Value) : (w.alloc (.cells #[x, y] 46)).cell? ⟨w.heap.size, 0, none⟩ = some x ∧ (w.alloc (.cells #[x, y] 46)).cell? ⟨w.heap.size, 1, none⟩ = some y := by
  have e : (w.alloc (.cells #[x, y] 46)).heap[w.heap.size]? = some (.cells #[x, y] 46) := by
    show (w.heap.push _)[w.heap.size]? = _
    simp
  refine ⟨?_, ?_⟩ <;> simp only [World.cell?, e] <;> rfl
theorem cell_alloc {w : World} {a : Addr} {o : Obj} (h : a.block < w.heap.size) : (w.alloc o).cell? a = w.cell? a := World.cell?_of_block (Below.heap_alloc _ _ _ h)
set_option maxRecDepth 100000 in
set_option maxHeartbeats 1000000 in
theorem rank_any (x y : Int) (w : World) (h1 : -1125899906842624 ≤ x) (h2 : x ≤ 1125899906842624) (h3 : 0 ≤ y) (h4 : y ≤ 1125899906842624) : Calls Try.prog 44 #[.agg #[.int .i64 x, .int .i64 y]] w fun e w' => e = .returned (.int .i64 (x * 300 + y)) ∧ Below w.heap.size w w' := by
  obtain ⟨x0, x1⟩ := cost_new w (.int .i64 x) (.int .i64 y)
  have HB := hide ((Below.refl _ w).alloc (Nat.le_refl _) (.cells #[.int .i64 x, .int .i64 y] 46))
  go_enter Try.func44, Try.ntmps44
  go_wp2
  go_ret
  exact ⟨by rfl, unhide HB⟩
def Sp.lessB (x y x' y' : Int) : Bool := decide (x < x' ∨ (x = x' ∧ y < y'))
set_option maxRecDepth 100000 in
set_option maxHeartbeats 1000000 in
theorem less_any (x y x' y' : Int) (w : World) : Calls Try.prog 46 #[.agg #[.int .i64 x, .int .i64 y], .agg #[.int .i64 x', .int .i64 y']] w fun e w' => e = .returned (.bool (Sp.lessB x y x' y')) ∧ Below w.heap.size w w' := by
  have HB : Hid (∀ o o', Below w.heap.size w ((w.alloc o).alloc o')) := hide fun o o' => ((Below.refl _ w).alloc (Nat.le_refl _) o).alloc (by simp) o'
  by_cases h0 : x < x'
  · have HR : Hid (Sp.lessB x y x' y' = true) := hide (by simp [Sp.lessB, h0])
    generalize Sp.lessB x y x' y' = R at *
    go_enter Try.func46, Try.ntmps46
    go_wp2
    go_ret
    exact ⟨by rw [unhide HR]; rfl, unhide HB _ _⟩
  · by_cases h1 : x = x'
    · subst h1
      by_cases h2 : y < y'
      · have HR : Hid (Sp.lessB x y x y' = true) := hide (by simp [Sp.lessB, h2])
        generalize Sp.lessB x y x y' = R at *
        go_enter Try.func46, Try.ntmps46
        go_wp2
        go_ret
        exact ⟨by rw [unhide HR]; rfl, unhide HB _ _⟩
      · have HR : Hid (Sp.lessB x y x y' = false) := hide (by simp [Sp.lessB, h2])
        generalize Sp.lessB x y x y' = R at *
        go_enter Try.func46, Try.ntmps46
        go_wp2
        go_ret
        exact ⟨by rw [unhide HR]; rfl, unhide HB _ _⟩
    · have HR : Hid (Sp.lessB x y x' y' = false) := hide (by simp [Sp.lessB, h0, h1])
      generalize Sp.lessB x y x' y' = R at *
      go_enter Try.func46, Try.ntmps46
      go_wp2
      go_ret
      exact ⟨by rw [unhide HR]; rfl, unhide HB _ _⟩
set_option maxRecDepth 100000 in
set_option maxHeartbeats 2000000 in
theorem and_any (x y f t l : Int) (w : World) (h1 : -2305843009213693952 ≤ x) (h2 : x ≤ 2305843009213693952) (h3 : -1125899906842624 ≤ l) (h4 : l ≤ 1125899906842624) (h5 : 0 ≤ y) (h6 : y ≤ 1125899906842624) : Calls Try.prog 32 #[.agg #[.int .i64 x, .int .i64 y], .agg #[.int .i64 f, .int .i64 t, .int .i64 l]] w fun e w' => e = .returned (.agg #[.int .i64 (x + l), .int .i64 (y + 1)]) ∧ Below w.heap.size w w' := by
  obtain ⟨W1, hW1⟩ : ∃ W1, W1 = w.alloc (.cells #[.int .i64 x, .int .i64 y] 46) := ⟨_, rfl⟩
  obtain ⟨W2, hW2⟩ : ∃ W2, W2 = W1.alloc (.cells #[.int .i64 f, .int .i64 t, .int .i64 l] 30) := ⟨_, rfl⟩
  have hs1 : W1.heap.size = w.heap.size + 1 := by rw [hW1]; simp
  obtain ⟨x0, x1⟩ := cost_new w (.int .i64 x) (.int .i64 y)
  obtain ⟨y0, y1, y2⟩ := arc_new W1 (.int .i64 f) (.int .i64 t) (.int .i64 l)
  rw [← hW1] at x0 x1
  rw [← hW2, hs1] at y2
  have a0 : W2.cell? ⟨w.heap.size, 0, none⟩ = some (.int .i64 x) := by rw [hW2, cell_alloc (by show w.heap.size < _; omega)]; exact x0
  have a1 : W2.cell? ⟨w.heap.size, 1, none⟩ = some (.int .i64 y) := by rw [hW2, cell_alloc (by show w.heap.size < _; omega)]; exact x1
  have HB : Hid (∀ o, Below w.heap.size w (W2.alloc o)) := hide fun o => by rw [hW2, hW1]; exact (((Below.refl _ w).alloc (Nat.le_refl _) _).alloc (by simp) _).alloc (by simp; omega) _
  have HA : Hid (∀ o, (W2.alloc o).cell? ⟨w.heap.size, 0, none⟩ = some (.int .i64 x) ∧ (W2.alloc o).cell? ⟨w.heap.size, 1, none⟩ = some (.int .i64 y) ∧ (W2.alloc o).cell? ⟨w.heap.size + 1, 2, none⟩ = some (.int .i64 l)) := hide fun o => by
    have hs2 : W2.heap.size = w.heap.size + 2 := by rw [hW2]; simp; omega
    exact ⟨(cell_alloc (by show w.heap.size < _; omega)).trans a0, (cell_alloc (by show w.heap.size < _; omega)).trans a1, (cell_alloc (by show w.heap.size + 1 < _; omega)).trans y2⟩
  have b0 := fun o => (unhide HA o).1
  have b1 := fun o => (unhide HA o).2.1
  have b2 := fun o => (unhide HA o).2.2
  clear x0 x1 y0 y1 hs1
  subst hW2 hW1
  go_enter Try.func32, Try.ntmps32
  go_wp2_with fail
  refine bodyPost_ret (v := .agg #[.int .i64 (x + l), .int .i64 (y + 1)]) (by simp [results, Try.results32, go_sem]) rfl ?_
  exact ⟨rfl, unhide HB _⟩

/-- Block b is a row of n numbers, three for each arc. -/
def AcAt (w : World) (b n : Nat) (z : Nat → Int) : Prop := ∃ c, w.heap[b]? = some (.cells c 30) ∧ c.size = n ∧ ∀ j, j < n → c[j]? = some (.int .i64 (z j))
theorem AcAt.lt {w : World} {b n : Nat} {z : Nat → Int} (h : AcAt w b n z) : b < w.heap.size := by
  obtain ⟨c, hc, -⟩ := h
  exact (Array.getElem?_eq_some_iff.1 hc).1
theorem AcAt.cell {w : World} {b n : Nat} {z : Nat → Int} (h : AcAt w b n z) {j : Nat} (hj : j < n) : w.cell? ⟨b, j, none⟩ = some (.int .i64 (z j)) := by
  obtain ⟨c, hc, -, hz⟩ := h
  simp only [World.cell?, hc]
  exact hz j hj
theorem AcAt.frozen {w : World} {b n : Nat} {z : Nat → Int} (h : AcAt w b n z) (j : Nat) (s : Option Nat) : w.frozen? ⟨b, j, s⟩ = false := by
  obtain ⟨c, hc, -⟩ := h
  simp only [World.frozen?, hc]
  simp
theorem AcAt.of_block {w w' : World} {b n : Nat} {z : Nat → Int} (h : AcAt w b n z) (e : w'.heap[b]? = w.heap[b]?) : AcAt w' b n z := by
  obtain ⟨c, hc, h1⟩ := h
  exact ⟨c, by rw [e]; exact hc, h1⟩
theorem AcAt.set {w : World} {b n : Nat} {z : Nat → Int} (h : AcAt w b n z) (j : Nat) (v : Int) : AcAt (w.setCell ⟨b, j, none⟩ (.int .i64 v)) b n (Sp.upd z j v) := by
  obtain ⟨c, hc, hs, hz⟩ := h
  refine ⟨c.setIfInBounds j (.int .i64 v), ?_, by simpa using hs, fun k hk => ?_⟩
  · simp only [World.setCell, Array.getElem?_modify, if_pos, hc]
    rfl
  · rw [Array.getElem?_setIfInBounds]
    by_cases hjk : j = k
    · rw [if_pos hjk, if_pos (by omega), ← hjk, Sp.upd_same]
    · rw [if_neg hjk, hz k hk, Sp.upd_other _ _ (by omega)]
theorem AcAt.set_ne {w : World} {b n : Nat} {z : Nat → Int} (h : AcAt w b n z) {b' : Nat} (hb : b ≠ b') (j : Nat) (s : Option Nat) (v : Value) : AcAt (w.setCell ⟨b', j, s⟩ v) b n z :=
  h.of_block (Below.heap_setCell _ _ _ _ hb)
theorem AcAt.below {w w' : World} {b n : Nat} {z : Nat → Int} (h : AcAt w b n z) (hb : Below w.heap.size w w') : AcAt w' b n z := h.of_block (hb.block b h.lt)
theorem AcAt.bt {p : Nat → Prop} {w w' : World} {b n : Nat} {z : Nat → Int} (h : AcAt w b n z) (hb : Bt p w w') (hp : ¬ p b) : AcAt w' b n z := h.of_block (hb.block b h.lt hp)
theorem AcAt.alloc {w : World} {b n : Nat} {z : Nat → Int} (h : AcAt w b n z) (o : Obj) : AcAt (w.alloc o) b n z := h.below ((Below.refl _ w).alloc (Nat.le_refl _) o)
theorem AcAt.drew {w : World} {b n : Nat} {z : Nat → Int} (h : AcAt w b n z) : AcAt w.drew b n z := h.of_block rfl
theorem AcAt.dn {w : World} {b n : Nat} {z : Nat → Int} (h : AcAt w b n z) (k : Nat) : AcAt (w.drewN k) b n z := h.of_block rfl
theorem AcAt.congr {w : World} {b n : Nat} {z z' : Nat → Int} (h : AcAt w b n z) (e : ∀ j, j < n → z j = z' j) : AcAt w b n z' := by
  obtain ⟨c, hc, hs, hz⟩ := h
  exact ⟨c, hc, hs, fun j hj => by rw [← e j hj]; exact hz j hj⟩

theorem AcAt.own {w : World} {b m B : Nat} {y : Nat → Int} {L : List Sp.Arc} (h : AcAt w b (m * 3) y) (hL : L.length = m) (hy : ∀ j, j < m → y (j * 3) = ((L.getD j Sp.arc0).f : Int) ∧ y (j * 3 + 1) = ((L.getD j Sp.arc0).t : Int) ∧ y (j * 3 + 2) = (L.getD j Sp.arc0).l) (hB : B ≤ b) (hm : m ≤ 1000000) : OwnA w B (.slice (some ⟨b, 0, none⟩) m m) L := by
  subst hL
  obtain ⟨c, hc, hs, hz⟩ := h
  refine ⟨by rw [Sp.cells3_len], .inr ⟨b, L.length, c, rfl, hB, hc, Nat.le_refl _, by unfold maxLen; omega, hs, ?_⟩⟩
  apply List.ext_getElem?
  intro i
  rw [List.getElem?_take]
  by_cases hi : i < L.length * 3
  · rw [if_pos hi, Array.getElem?_toList, hz i hi]
    obtain ⟨g0, g1, g2⟩ := Sp.cells3_get L (i / 3) (by omega)
    obtain ⟨y0, y1, y2⟩ := hy (i / 3) (by omega)
    rcases (show i = i / 3 * 3 ∨ i = i / 3 * 3 + 1 ∨ i = i / 3 * 3 + 2 by omega) with e | e | e
    · rw [← e] at g0 y0; rw [g0, y0]
    · rw [← e] at g1 y1; rw [g1, y1]
    · rw [← e] at g2 y2; rw [g2, y2]
  · rw [if_neg hi, List.getElem?_eq_none (by rw [Sp.cells3_len]; omega)]
/-- An arc the other way about. -/
def Sp.sw (a : Sp.Arc) : Sp.Arc := ⟨a.t, a.f, a.l⟩
def Sp.tc (L : List Sp.Arc) (d : Nat) : Nat → Int := fun j => if j / 3 < d then (if j % 3 = 0 then ((L.getD (j / 3) Sp.arc0).t : Int) else if j % 3 = 1 then ((L.getD (j / 3) Sp.arc0).f : Int) else (L.getD (j / 3) Sp.arc0).l) else 0
theorem Sp.tc_succ (L : List Sp.Arc) (d : Nat) : Sp.upd (Sp.upd (Sp.upd (Sp.tc L d) (d * 3) ((L.getD d Sp.arc0).t : Int)) (d * 3 + 1) ((L.getD d Sp.arc0).f : Int)) (d * 3 + 2) (L.getD d Sp.arc0).l = Sp.tc L (d + 1) := by
  funext j
  unfold Sp.upd Sp.tc
  by_cases e2 : j = d * 3 + 2
  · subst e2
    rw [if_pos rfl, show (d * 3 + 2) / 3 = d by omega, show (d * 3 + 2) % 3 = 2 by omega, if_pos (by omega)]
    rfl
  · rw [if_neg e2]
    by_cases e1 : j = d * 3 + 1
    · subst e1
      rw [if_pos rfl, show (d * 3 + 1) / 3 = d by omega, show (d * 3 + 1) % 3 = 1 by omega, if_pos (by omega)]
      rfl
    · rw [if_neg e1]
      by_cases e0 : j = d * 3
      · subst e0
        rw [if_pos rfl, show (d * 3) / 3 = d by omega, show (d * 3) % 3 = 0 by omega, if_pos (by omega)]
        rfl
      · rw [if_neg e0]
        by_cases h : j / 3 < d
        · rw [if_pos h, if_pos (by omega : j / 3 < d + 1)]
        · rw [if_neg h, if_neg (by omega)]
set_option maxRecDepth 100000 in
set_option maxHeartbeats 4000000 in
theorem turned_any (L : List Sp.Arc) (lv : Value) (w : World) (hl : ArcsI w lv L) (hfew : L.length ≤ 1000) :
    Calls Try.prog 31 #[lv] w fun e w' => ∃ rv, e = .returned rv ∧ OwnA w' w.heap.size rv (L.map Sp.sw) ∧ Below w.heap.size w w' := by
  obtain ⟨iS, hiS, hS0, hS1, hS2⟩ := infoA_parts
  obtain ⟨la, lc, rfl, -, -, HT⟩ := hl.all
  have HTs := hide (Sp.tc_succ L)
  have HE : Hid (∀ w', AcAt w' w.heap.size (L.length * 3) (Sp.tc L L.length) → OwnA w' w.heap.size (.slice (some ⟨w.heap.size, 0, none⟩) L.length L.length) (L.map Sp.sw)) := hide fun w' h => by
    refine h.own (by simp) (fun j hj => ?_) (Nat.le_refl _) (by omega)
    have e : (L.map Sp.sw).getD j Sp.arc0 = Sp.sw (L.getD j Sp.arc0) := by
      rw [List.getD_eq_getElem?_getD, List.getD_eq_getElem?_getD, List.getElem?_map, List.getElem?_eq_getElem hj]; rfl
    rw [e]
    unfold Sp.tc
    rw [show j * 3 / 3 = j by omega, show (j * 3 + 1) / 3 = j by omega, show (j * 3 + 2) / 3 = j by omega, show j * 3 % 3 = 0 by omega, show (j * 3 + 1) % 3 = 1 by omega, show (j * 3 + 2) % 3 = 2 by omega, if_pos hj, if_pos hj, if_pos hj]
    exact ⟨rfl, rfl, rfl⟩
  obtain ⟨P, hP⟩ : ∃ P : Ending → World → Prop, P = fun e w' => ∃ rv, e = .returned rv ∧ OwnA w' w.heap.size rv (L.map Sp.sw) ∧ Below w.heap.size w w' := ⟨_, rfl⟩
  rw [← hP]
  have HP := hide hP
  clear hP hl
  go_enter Try.func31, Try.ntmps31
  go_wp2_with (at_make; refine wpList_make_full _ rfl _ _ 25 rfl w.heap.size 30 iS (.agg #[.int .i64 0, .int .i64 0, .int .i64 0]) 3 Try.underlying25 hiS hS0 hS1 .i64 .i64 _ _ L.length rfl rfl rfl rfl (by rw [hS2]; omega) (by unfold maxLen; omega) (Nat.le_refl _) ?_)
  intro w3 hown3 hg3
  have hb3 : Below w.heap.size w w3 := (Below.refl _ w).grown hg3 (Nat.le_refl _) (by simp)
  have hz3 : AcAt w3 w.heap.size (L.length * 3) (Sp.tc L 0) := by
    rcases hown3.2 with ⟨e, -⟩ | ⟨g, cap, cur, e, -, hc, h1, -, h3, h4⟩
    · cases e
    · injection e with e1 _ e2
      injection e1 with e1
      injection e1 with e1
      subst e1 e2
      refine ⟨cur, hc, h3, fun j hj => ?_⟩
      have hlen : cur.toList.length ≤ L.length * 3 := by simp [h3]
      rw [List.take_of_length_le hlen] at h4
      rw [← Array.getElem?_toList, h4, Array.getElem?_toList]
      show (madeCells #[.int .i64 0, .int .i64 0, .int .i64 0] (L.length * 3))[j]? = _
      rw [made_same #[.int .i64 0, .int .i64 0, .int .i64 0] (.int .i64 0) (by decide) (fun i hi => by rcases i with _ | _ | _ | i <;> first | rfl | (simp at hi; omega)) _ _ hj]
      simp [Sp.tc]
  have H3 := hide (And.intro hb3 hz3)
  clear hown3 hg3 hb3 hz3
  go_wp2
  go_loopg [11] L.length (fun g s11 wr => ∃ d : Nat, d + g = L.length ∧ s11 = .int .i64 (d : Int) ∧ Hid (Below w.heap.size w wr ∧ AcAt wr w.heap.size (L.length * 3) (Sp.tc L d)))
  case atStart => exact ⟨0, by omega, rfl, H3⟩
  case round =>
    clear H3
    obtain ⟨d, hdg, rfl, HI⟩ := hrel
    by_cases hd : d < L.length
    · have hdI : (d : Int) < (L.length : Int) := by omega
      obtain ⟨g', rfl⟩ : ∃ g', gk = g' + 1 := ⟨gk - 1, by omega⟩
      obtain ⟨b, o, rfl, hb, hcx⟩ := unhide HT d hd
      obtain ⟨c1, c2, c3⟩ := hcx wr (unhide HI).1
      have HTd := hide (unhide HTs d)
      generalize L.getD d Sp.arc0 = a at *
      obtain ⟨f, t, l⟩ := a
      simp only at c1 c2 c3
      obtain ⟨W2, hW2⟩ : ∃ W2, W2 = wr.alloc (.cells #[.int .i64 (f : Int), .int .i64 (t : Int), .int .i64 l] 30) := ⟨_, rfl⟩
      obtain ⟨u0, u1, u2⟩ := arc_new wr (.int .i64 (f : Int)) (.int .i64 (t : Int)) (.int .i64 l)
      rw [← hW2] at u0 u1 u2
      have hr : AcAt W2 w.heap.size (L.length * 3) (Sp.tc L d) := by rw [hW2]; exact (unhide HI).2.alloc _
      have hsz := (unhide HI).1.size
      have hb2 : Below w.heap.size w W2 := by rw [hW2]; exact (unhide HI).1.alloc (by omega) _
      have d0 := hr.cell (j := d * 3) (by omega)
      have d1 := hr.cell (j := d * 3 + 1) (by omega)
      have d2 := hr.cell (j := d * 3 + 2) (by omega)
      have fz := fun j => hr.frozen j none
      have e1 := fun v : Value => show (W2.setCell ⟨w.heap.size, d * 3, none⟩ v).cell? ⟨w.heap.size, d * 3 + 1, none⟩ = some (.int .i64 (Sp.tc L d (d * 3 + 1))) by rw [cell_set_ne (by omega)]; exact d1
      have e2 := fun v v' : Value => show ((W2.setCell ⟨w.heap.size, d * 3, none⟩ v).setCell ⟨w.heap.size, d * 3 + 1, none⟩ v').cell? ⟨w.heap.size, d * 3 + 2, none⟩ = some (.int .i64 (Sp.tc L d (d * 3 + 2))) by rw [cell_set_ne (by omega), cell_set_ne (by omega)]; exact d2
      have HF : Hid (Below w.heap.size w (((W2.setCell ⟨w.heap.size, d * 3, none⟩ (.int .i64 (t : Int))).setCell ⟨w.heap.size, d * 3 + 1, none⟩ (.int .i64 (f : Int))).setCell ⟨w.heap.size, d * 3 + 2, none⟩ (.int .i64 l)) ∧ AcAt (((W2.setCell ⟨w.heap.size, d * 3, none⟩ (.int .i64 (t : Int))).setCell ⟨w.heap.size, d * 3 + 1, none⟩ (.int .i64 (f : Int))).setCell ⟨w.heap.size, d * 3 + 2, none⟩ (.int .i64 l)) w.heap.size (L.length * 3) (Sp.tc L (d + 1))) := hide
        ⟨((hb2.setCell (p := ⟨w.heap.size, d * 3, none⟩) (Nat.le_refl _) _).setCell (p := ⟨w.heap.size, d * 3 + 1, none⟩) (Nat.le_refl _) _).setCell (p := ⟨w.heap.size, d * 3 + 2, none⟩) (Nat.le_refl _) _, by rw [← unhide HTd]; exact ((hr.set _ _).set _ _).set _ _⟩
      clear hr hb2 hcx HI d1 d2 HTd
      subst hW2
      go_wp2
      go_roundg g'
      case rel => exact ⟨d + 1, by omega, by go_num, HF⟩
      case measure => omega
    · have hdI : ¬ (d : Int) < (L.length : Int) := by omega
      obtain rfl : d = L.length := by omega
      go_wp2
      rw [unhide HP]
      exact ⟨_, rfl, unhide HE _ (unhide HI).2, (unhide HI).1⟩
end Go.Proofs.Ytggjpglakocilaa


/- Places settled by a heap of ranks (P601: From, Way): what stays along spread. -/
namespace Go.Proofs.Ytggjpglakocilaa
open Go Go.RowKit

/-- A row of costs as ranks. -/
def Sp.rk (y : Nat → Int) : Nat → Int := fun v => y (v * 2) * 300 + y (v * 2 + 1)
def Sp.Bd (n c : Nat) (y : Nat → Int) : Prop := ∀ v, v < n → (y (v * 2) = 1152921504606846976 ∧ y (v * 2 + 1) = 0) ∨ (0 ≤ y (v * 2) ∧ y (v * 2) ≤ (c : Int) * 1099511627776 ∧ 0 ≤ y (v * 2 + 1) ∧ y (v * 2 + 1) ≤ (c : Int))
def Sp.pr (a : Sp.Arc) : Sp.Arc := ⟨a.f, a.t, 300 * a.l + 1⟩
theorem Sp.mem_pairL {L : List Sp.Arc} {b : Sp.Arc} : b ∈ Sp.pairL 300 L ↔ ∃ a ∈ L, b = Sp.pr a := by
  unfold Sp.pairL
  rw [List.mem_map]
  constructor
  · rintro ⟨a, h, rfl⟩; exact ⟨a, h, rfl⟩
  · rintro ⟨a, h, rfl⟩; exact ⟨a, h, rfl⟩
theorem Sp.Bd.mono {n c c' : Nat} {y : Nat → Int} (h : Sp.Bd n c y) (hc : c ≤ c') : Sp.Bd n c' y := fun v hv => by
  rcases h v hv with h | h
  · exact .inl h
  · exact .inr ⟨h.1, by omega, h.2.2.1, by omega⟩
theorem Sp.Bd.far {n c : Nat} {y : Nat → Int} (h : Sp.Bd n c y) (hc : c ≤ 290) {v : Nat} (hv : v < n) : Sp.rk y v = 345876451382054092800 ↔ y (v * 2) = 1152921504606846976 := by
  unfold Sp.rk
  rcases h v hv with h | h <;> omega
theorem Sp.Bd.lt {n c : Nat} {y : Nat → Int} (h : Sp.Bd n c y) (hc : c ≤ 290) {v : Nat} (hv : v < n) (hf : y (v * 2) ≠ 1152921504606846976) : 0 ≤ Sp.rk y v ∧ Sp.rk y v < 144115188075855872 := by
  unfold Sp.rk
  rcases h v hv with h | h <;> omega
structure Sp.SpI (L : List Sp.Arc) (s n : Nat) (y : Nat → Int) (M : Nat → Option Int) (S : Nat → Bool) : Prop where
  dj : Sp.Dj 345876451382054092800 (Sp.pairL 300 L) s n (Sp.rk y) (fun v => S v = true)
  bd : Sp.Bd n (Sp.ct S n) y
  hp : ∀ v, v < n → M v = if S v = false ∧ y (v * 2) ≠ 1152921504606846976 then some (Sp.rk y v) else none
  hn : ∀ v, n ≤ v → M v = none
structure Sp.SpX (L : List Sp.Arc) (s n x c : Nat) (y : Nat → Int) (M : Nat → Option Int) (S : Nat → Bool) (P : Sp.Arc → Prop) : Prop where
  djx : Sp.DjX 345876451382054092800 (Sp.pairL 300 L) s n x (Sp.rk y) (fun v => S v = true) P
  bd : Sp.Bd n (c + 1) y
  bx : 0 ≤ y (x * 2) ∧ y (x * 2) ≤ (c : Int) * 1099511627776 ∧ 0 ≤ y (x * 2 + 1) ∧ y (x * 2 + 1) ≤ (c : Int)
  hp : ∀ v, v < n → M v = if S v = false ∧ v ≠ x ∧ y (v * 2) ≠ 1152921504606846976 then some (Sp.rk y v) else none
  hn : ∀ v, n ≤ v → M v = none
def Sp.y0 (s : Nat) : Nat → Int := Sp.upd (Sp.upd (fun j => if j % 2 = 0 then 1152921504606846976 else 0) (s * 2) 0) (s * 2 + 1) 0
theorem Sp.y0_at (s v : Nat) : Sp.y0 s (v * 2) = (if v = s then 0 else 1152921504606846976) ∧ Sp.y0 s (v * 2 + 1) = 0 := by
  unfold Sp.y0 Sp.upd
  constructor
  · rw [if_neg (by omega)]
    by_cases h : v = s
    · rw [if_pos (by omega), if_pos h]
    · rw [if_neg (by omega), if_neg h]
      show (if v * 2 % 2 = 0 then (1152921504606846976 : Int) else 0) = _
      rw [if_pos (by omega)]
  · by_cases h : v = s
    · rw [if_pos (by omega)]
    · rw [if_neg (by omega), if_neg (by omega)]
      show (if (v * 2 + 1) % 2 = 0 then (1152921504606846976 : Int) else 0) = _
      rw [if_neg (by omega)]
theorem Sp.ct_false (n : Nat) : Sp.ct (fun _ => false) n = 0 := by
  unfold Sp.ct; simp
theorem Sp.SpI.start (L : List Sp.Arc) {s n : Nat} (hs : s < n) : Sp.SpI L s n (Sp.y0 s) (Sp.putK (fun _ => none) (s : Int) 0) (fun _ => false) ∨ 300 ≤ n := by
  by_cases hn : 300 ≤ n
  · exact .inr hn
  refine .inl ?_
  have e : ∀ v, Sp.rk (Sp.y0 s) v = if v = s then 0 else 345876451382054092800 := fun v => by
    unfold Sp.rk
    rw [(Sp.y0_at s v).1, (Sp.y0_at s v).2]
    split <;> rfl
  have eM : Sp.putK (fun _ => none) (s : Int) 0 = Sp.put (fun _ => none) s (some 0) := by unfold Sp.putK; rw [if_pos (by omega), Int.toNat_natCast]
  refine ⟨⟨⟨?_, fun v _ hne => ?_⟩, fun v h => (by cases h), fun v h => (by cases h), fun v u h => (by cases h)⟩, fun v _ => ?_, fun v hv => ?_, fun v hv => ?_⟩
  · rw [e, if_pos rfl]; exact ⟨by omega, Int.le_refl _⟩
  · rw [e] at hne ⊢
    by_cases h : v = s
    · rw [if_pos h]; exact ⟨0, h, rfl⟩
    · rw [if_neg h] at hne; exact absurd rfl hne
  · rw [(Sp.y0_at s v).1, (Sp.y0_at s v).2]
    by_cases h : v = s
    · rw [if_pos h]; exact .inr ⟨by omega, by omega, by omega, by omega⟩
    · rw [if_neg h]; exact .inl ⟨rfl, rfl⟩
  · rw [eM, (Sp.y0_at s v).1, e]
    by_cases h : v = s
    · rw [h, Sp.put_same, if_pos rfl, if_pos rfl, if_pos ⟨rfl, by decide⟩]
    · rw [Sp.put_other _ _ h, if_neg h, if_neg (fun hh => hh.2 rfl)]
  · rw [eM, Sp.put_other _ _ (by omega)]
theorem Sp.SpI.open_ {L : List Sp.Arc} {s n : Nat} {y : Nat → Int} {M : Nat → Option Int} {S : Nat → Bool} {k r : Int} (h : Sp.SpI L s n y M S) (hn : n ≤ 290) (hl : Sp.LeastIs M k r true) : ∃ j : Nat, k = (j : Int) ∧ j < n ∧ S j = false ∧ Sp.SpX L s n j (Sp.ct S n) y (Sp.put M j none) S (fun _ => False) := by
  rcases hl with ⟨h0, -⟩ | ⟨-, j, rfl, hj, hM, hmin⟩
  · cases h0
  have hjn : j < n := by
    rcases Nat.lt_or_ge j n with e | e
    · exact e
    · rw [h.hn j e] at hM; cases hM
  have hMj := h.hp j hjn
  rw [hM] at hMj
  have hc : S j = false ∧ y (j * 2) ≠ 1152921504606846976 := by
    by_cases e : S j = false ∧ y (j * 2) ≠ 1152921504606846976
    · exact e
    · rw [if_neg e] at hMj; cases hMj
  rw [if_pos hc] at hMj
  have hr : r = Sp.rk y j := by injection hMj
  have hct : Sp.ct S n ≤ n := Sp.ct_le S n
  refine ⟨j, rfl, hjn, hc.1, ?_, h.bd.mono (by omega), ?_, fun v hv => ?_, fun v hv => ?_⟩
  · refine h.dj.open_ (by rw [hc.1]; simp) hjn (fun e => hc.2 ((h.bd.far (by omega) hjn).1 e)) (fun u hu hun hne => ?_)
    have hu0 : S u = false := by cases hs : S u with
      | false => rfl
      | true => exact absurd hs hu
    have huf : y (u * 2) ≠ 1152921504606846976 := fun e => hne ((h.bd.far (by omega) hun).2 e)
    have := hmin u (Sp.rk y u) (by rw [h.hp u hun, if_pos ⟨hu0, huf⟩])
    rcases (Sp.ahead_no _ _ _ _).1 this with e | e
    · omega
    · omega
  · rcases h.bd j hjn with e | e
    · exact absurd e.1 hc.2
    · exact e
  · by_cases e : v = j
    · subst e
      rw [Sp.put_same, if_neg (fun hh => hh.2.1 rfl)]
    · rw [Sp.put_other _ _ e, h.hp v hv]
      by_cases e2 : S v = false ∧ y (v * 2) ≠ 1152921504606846976
      · rw [if_pos e2, if_pos ⟨e2.1, e, e2.2⟩]
      · rw [if_neg e2, if_neg (fun hh => e2 ⟨hh.1, hh.2.2⟩)]
  · rw [Sp.put_other _ _ (by omega)]; exact h.hn v hv
theorem Sp.SpX.xg {L : List Sp.Arc} {s n x c : Nat} {y : Nat → Int} {M : Nat → Option Int} {S : Nat → Bool} {P : Sp.Arc → Prop} (h : Sp.SpX L s n x c y M S P) (hc : c + 1 ≤ 290) : y (x * 2) ≠ 1152921504606846976 := by
  have := h.bx; omega
theorem Sp.less_rk {n c : Nat} {y : Nat → Int} (h : Sp.Bd n c y) (hc : c ≤ 290) {t : Nat} (ht : t < n) {X A : Int} (hA : 0 ≤ A ∧ A < 300) : Sp.lessB X A (y (t * 2)) (y (t * 2 + 1)) = true ↔ X * 300 + A < Sp.rk y t := by
  unfold Sp.lessB Sp.rk
  rw [decide_eq_true_eq]
  rcases h t ht with h | h <;> omega
theorem Sp.rk_upd (y : Nat → Int) (t : Nat) (X A : Int) (v : Nat) : Sp.rk (Sp.upd (Sp.upd y (t * 2) X) (t * 2 + 1) A) v = if v = t then X * 300 + A else Sp.rk y v := by
  unfold Sp.rk Sp.upd
  by_cases h : v = t
  · subst h
    rw [if_pos rfl, if_neg (by omega), if_pos rfl, if_pos rfl]
  · rw [if_neg h, if_neg (by omega), if_neg (by omega), if_neg (by omega), if_neg (by omega)]
theorem Sp.upd_at (y : Nat → Int) (t : Nat) (X A : Int) (v : Nat) : Sp.upd (Sp.upd y (t * 2) X) (t * 2 + 1) A (v * 2) = (if v = t then X else y (v * 2)) ∧ Sp.upd (Sp.upd y (t * 2) X) (t * 2 + 1) A (v * 2 + 1) = (if v = t then A else y (v * 2 + 1)) := by
  unfold Sp.upd
  by_cases h : v = t
  · subst h
    rw [if_pos rfl, if_pos rfl, if_neg (by omega), if_pos rfl]
    exact ⟨rfl, by rw [if_pos rfl]⟩
  · rw [if_neg h, if_neg h, if_neg (by omega), if_neg (by omega), if_neg (by omega), if_neg (by omega)]
    exact ⟨rfl, rfl⟩
theorem Sp.SpX.no {L : List Sp.Arc} {s n x c : Nat} {y : Nat → Int} {M : Nat → Option Int} {S : Nat → Bool} {P : Sp.Arc → Prop} (h : Sp.SpX L s n x c y M S P) (hc : c + 1 ≤ 290) (hxn : x < n) (hpos : ∀ a ∈ L, 0 ≤ a.l) {a : Sp.Arc} (ha : a ∈ L) (hax : a.f = x) (htn : a.t < n) (hl : a.l ≤ 1099511627776) (hno : Sp.lessB (y (x * 2) + a.l) (y (x * 2 + 1) + 1) (y (a.t * 2)) (y (a.t * 2 + 1)) = false) :
    Sp.SpX L s n x c y M S (fun b => P b ∨ b = Sp.pr a) := by
  have h0 := hpos a ha
  have hbx := h.bx
  have hiff := Sp.less_rk h.bd hc htn (X := y (x * 2) + a.l) (A := y (x * 2 + 1) + 1) (by omega)
  have hge : ¬ (Sp.rk y x + (300 * a.l + 1) < Sp.rk y a.t) := fun hh => by
    have : (y (x * 2) + a.l) * 300 + (y (x * 2 + 1) + 1) < Sp.rk y a.t := by unfold Sp.rk at hh ⊢; omega
    rw [hiff.2 this] at hno; cases hno
  have hd := h.djx.try_ (a := Sp.pr a) (by omega) (fun b hb => by obtain ⟨a', ha', rfl⟩ := Sp.mem_pairL.1 hb; have := hpos a' ha'; show 0 < 300 * a'.l + 1; omega) hxn (Sp.mem_pairL.2 ⟨a, ha, rfl⟩) hax (by
    show Sp.rk y x + (300 * a.l + 1) < _; unfold Sp.rk; omega)
  have e : Sp.rx 345876451382054092800 (Sp.rk y) (Sp.pr a) = Sp.rk y := funext fun v => by
    unfold Sp.rx
    rw [if_neg]
    intro hh
    have h3 := hh.2.2
    rw [show (Sp.pr a).f = x from hax] at h3
    exact hge h3
  rw [e] at hd
  exact ⟨hd, h.bd, h.bx, h.hp, h.hn⟩
theorem Sp.SpX.yes {L : List Sp.Arc} {s n x c : Nat} {y : Nat → Int} {M : Nat → Option Int} {S : Nat → Bool} {P : Sp.Arc → Prop} (h : Sp.SpX L s n x c y M S P) (hc : c + 1 ≤ 290) (hn : n ≤ 290) (hxn : x < n) (hpos : ∀ a ∈ L, 0 ≤ a.l) {a : Sp.Arc} (ha : a ∈ L) (hax : a.f = x) (htn : a.t < n) (hl : a.l ≤ 1099511627776) (hyes : Sp.lessB (y (x * 2) + a.l) (y (x * 2 + 1) + 1) (y (a.t * 2)) (y (a.t * 2 + 1)) = true) :
    a.t ≠ x ∧ Sp.SpX L s n x c (Sp.upd (Sp.upd y (a.t * 2) (y (x * 2) + a.l)) (a.t * 2 + 1) (y (x * 2 + 1) + 1)) (Sp.putK M (a.t : Int) ((y (x * 2) + a.l) * 300 + (y (x * 2 + 1) + 1))) S (fun b => P b ∨ b = Sp.pr a) := by
  have h0 := hpos a ha
  have hbx := h.bx
  have hlt := (Sp.less_rk h.bd hc htn (X := y (x * 2) + a.l) (A := y (x * 2 + 1) + 1) (by omega)).1 hyes
  have hlt' : Sp.rk y x + (300 * a.l + 1) < Sp.rk y a.t := by unfold Sp.rk at hlt ⊢; omega
  have htx : a.t ≠ x := fun e => by rw [e] at hlt'; omega
  have hSt : S a.t = false := by
    cases hs : S a.t with
    | false => rfl
    | true => have := h.djx.below a.t hs; omega
  have hd := h.djx.try_ (a := Sp.pr a) (by omega) (fun b hb => by obtain ⟨a', ha', rfl⟩ := Sp.mem_pairL.1 hb; have := hpos a' ha'; show 0 < 300 * a'.l + 1; omega) hxn (Sp.mem_pairL.2 ⟨a, ha, rfl⟩) hax (by
    show Sp.rk y x + (300 * a.l + 1) < _; unfold Sp.rk; omega)
  have e : Sp.rx 345876451382054092800 (Sp.rk y) (Sp.pr a) = Sp.rk (Sp.upd (Sp.upd y (a.t * 2) (y (x * 2) + a.l)) (a.t * 2 + 1) (y (x * 2 + 1) + 1)) := funext fun v => by
    rw [Sp.rk_upd]
    unfold Sp.rx
    rw [show (Sp.pr a).f = x from hax]
    show (if v = a.t ∧ Sp.rk y x ≠ 345876451382054092800 ∧ Sp.rk y x + (300 * a.l + 1) < Sp.rk y a.t then Sp.rk y x + (300 * a.l + 1) else Sp.rk y v) = _
    by_cases hv : v = a.t
    · rw [if_pos ⟨hv, fun e => h.xg hc ((h.bd.far hc hxn).1 e), hlt'⟩, if_pos hv]
      unfold Sp.rk; omega
    · rw [if_neg (fun hh => hv hh.1), if_neg hv]
  rw [e] at hd
  have eM : Sp.putK M (a.t : Int) ((y (x * 2) + a.l) * 300 + (y (x * 2 + 1) + 1)) = Sp.put M a.t (some ((y (x * 2) + a.l) * 300 + (y (x * 2 + 1) + 1))) := by unfold Sp.putK; rw [if_pos (by omega), Int.toNat_natCast]
  refine ⟨htx, hd, fun v hv => ?_, ?_, fun v hv => ?_, fun v hv => ?_⟩
  · rw [(Sp.upd_at _ _ _ _ v).1, (Sp.upd_at _ _ _ _ v).2]
    by_cases e : v = a.t
    · rw [if_pos e, if_pos e]; exact .inr ⟨by omega, by omega, by omega, by omega⟩
    · rw [if_neg e, if_neg e]; exact h.bd v hv
  · rw [(Sp.upd_at _ _ _ _ x).1, (Sp.upd_at _ _ _ _ x).2, if_neg (fun e => htx e.symm), if_neg (fun e => htx e.symm)]; exact h.bx
  · rw [eM, (Sp.upd_at _ _ _ _ v).1, Sp.rk_upd]
    by_cases e : v = a.t
    · subst e
      rw [Sp.put_same, if_pos rfl, if_pos rfl, if_pos ⟨hSt, htx, by omega⟩]
    · rw [Sp.put_other _ _ e, if_neg e, if_neg e]; exact h.hp v hv
  · rw [eM, Sp.put_other _ _ (by omega)]; exact h.hn v hv
theorem Sp.ct_or {S : Nat → Bool} {x : Nat} (hx : S x = false) : ∀ n, Sp.ct (fun v => S v || (v == x)) n = Sp.ct S n + if x < n then 1 else 0
  | 0 => by simp [Sp.ct]
  | n + 1 => by
    rw [Sp.ct_succ, Sp.ct_succ, Sp.ct_or hx n]
    by_cases e : n = x
    · subst e; rw [hx]; simp
    · have e2 : (n == x) = false := beq_eq_false_iff_ne.2 e
      rw [e2, Bool.or_false]
      by_cases h : x < n
      · rw [if_pos h, if_pos (by omega : x < n + 1)]; omega
      · rw [if_neg h, if_neg (by omega : ¬ x < n + 1)]; omega
theorem Sp.SpX.close {L : List Sp.Arc} {s n x : Nat} {y : Nat → Int} {M : Nat → Option Int} {S : Nat → Bool} {P : Sp.Arc → Prop} (h : Sp.SpX L s n x (Sp.ct S n) y M S P) (hSx : S x = false) (hxn : x < n) (hP : ∀ a ∈ L, a.f = x → P (Sp.pr a)) :
    Sp.SpI L s n y M (fun v => S v || (v == x)) ∧ Sp.ct (fun v => S v || (v == x)) n = Sp.ct S n + 1 := by
  have hct : Sp.ct (fun v => S v || (v == x)) n = Sp.ct S n + 1 := by rw [Sp.ct_or hSx, if_pos hxn]
  have hd := h.djx.close (fun b hb hbx => by obtain ⟨a, ha, rfl⟩ := Sp.mem_pairL.1 hb; exact hP a ha hbx)
  have eS : (fun v => S v = true ∨ v = x) = fun v => (S v || (v == x)) = true := funext fun v => by
    rw [Bool.or_eq_true, beq_iff_eq]
  rw [eS] at hd
  refine ⟨⟨hd, by rw [hct]; exact h.bd, fun v hv => ?_, h.hn⟩, hct⟩
  rw [h.hp v hv]
  by_cases e : v = x
  · subst e
    rw [if_neg (fun hh => hh.2.1 rfl), if_neg (fun hh => by simp at hh)]
  · have e2 : (v == x) = false := beq_eq_false_iff_ne.2 e
    simp only [e2, Bool.or_false, ne_eq, e, not_false_eq_true, true_and]
theorem Sp.SpI.finish {L : List Sp.Arc} {s n : Nat} {y : Nat → Int} {M : Nat → Option Int} {S : Nat → Bool} {k r : Int} (h : Sp.SpI L s n y M S) (hn : n ≤ 290) (hL : ∀ a ∈ L, a.f < n ∧ a.t < n) (hpos : ∀ a ∈ L, 0 ≤ a.l) (hs : s < n) (hl : Sp.LeastIs M k r false) : Sp.Short 345876451382054092800 (Sp.pairL 300 L) s n (Sp.rk y) ∧ Sp.Bd n n y := by
  have hct : Sp.ct S n ≤ n := Sp.ct_le S n
  rcases hl with ⟨-, -, -, hno⟩ | ⟨h0, -⟩
  · refine ⟨h.dj.short (fun b hb => by obtain ⟨a, ha, rfl⟩ := Sp.mem_pairL.1 hb; exact hL a ha) (fun b hb => by obtain ⟨a', ha', rfl⟩ := Sp.mem_pairL.1 hb; have := hpos a' ha'; show 0 < 300 * a'.l + 1; omega) hs (fun v hv hne => ?_), h.bd.mono hct⟩
    have h1 := h.hp v hv
    rw [hno v] at h1
    cases hs : S v with
    | true => rfl
    | false => rw [if_pos ⟨hs, fun e => hne ((h.bd.far (by omega) hv).2 e)⟩] at h1; cases h1
  · cases h0
/-- Ranks that are the shortest ways: so are the lengths. -/
theorem Sp.short_long {L : List Sp.Arc} {s n : Nat} {y : Nat → Int} (h : Sp.Short 345876451382054092800 (Sp.pairL 300 L) s n (Sp.rk y)) (hb : Sp.Bd n n y) (hn : n ≤ 290) (hL : ∀ a ∈ L, a.f < n ∧ a.t < n) (hs : s < n) : Sp.Short 1152921504606846976 L s n (fun v => y (v * 2)) := by
  have hwk : ∀ m v x, Sp.Wk (Sp.pairL 300 L) s m v x → ∃ x', Sp.Wk L s m v x' ∧ x = 300 * x' + (m : Int) := by
    intro m
    induction m with
    | zero => intro v x hw; obtain ⟨rfl, rfl⟩ := hw; exact ⟨0, ⟨rfl, rfl⟩, by omega⟩
    | succ m ih =>
      intro v x hw
      obtain ⟨b, hb, rfl, hw⟩ := hw
      obtain ⟨a, ha, rfl⟩ := Sp.mem_pairL.1 hb
      obtain ⟨x', h1, h2⟩ := ih _ _ hw
      refine ⟨x' + a.l, ⟨a, ha, rfl, by rw [Int.add_sub_cancel]; exact h1⟩, ?_⟩
      have h2' : x - (300 * a.l + 1) = 300 * x' + (m : Int) := h2
      rw [Int.mul_add]
      push_cast
      omega
  have hnn : ∀ v, v < n → y (v * 2) ≠ 1152921504606846976 → 0 ≤ y (v * 2) ∧ 0 ≤ y (v * 2 + 1) ∧ y (v * 2 + 1) ≤ 290 := fun v hv hne => by
    rcases hb v hv with e | e
    · exact absurd e.1 hne
    · exact ⟨e.1, e.2.2.1, by omega⟩
  have hsrc : y (s * 2) = 0 := by
    have h0 := h.src
    have hne : y (s * 2) ≠ 1152921504606846976 := fun e => by
      have := (hb.far hn hs).2 e; omega
    have := hnn s hs hne
    unfold Sp.rk at h0
    omega
  have harc : ∀ a ∈ L, y (a.f * 2) ≠ 1152921504606846976 → y (a.t * 2) ≠ 1152921504606846976 ∧ y (a.t * 2) ≤ y (a.f * 2) + a.l := fun a ha hne => by
    have h1 := h.arc (Sp.pr a) (Sp.mem_pairL.2 ⟨a, ha, rfl⟩) (fun e => hne ((hb.far hn (hL a ha).1).1 e))
    have h2 : y (a.t * 2) ≠ 1152921504606846976 := fun e => h1.1 ((hb.far hn (hL a ha).2).2 e)
    have h3 : Sp.rk y a.t ≤ Sp.rk y a.f + (300 * a.l + 1) := h1.2
    have h4 := hnn _ (hL a ha).1 hne
    have h5 := hnn _ (hL a ha).2 h2
    refine ⟨h2, ?_⟩
    unfold Sp.rk at h3
    omega
  have hlow : ∀ m v x, Sp.Wk L s m v x → y (v * 2) ≠ 1152921504606846976 ∧ y (v * 2) ≤ x := by
    intro m
    induction m with
    | zero => intro v x hw; obtain ⟨rfl, rfl⟩ := hw; rw [hsrc]; exact ⟨by decide, Int.le_refl _⟩
    | succ m ih =>
      intro v x hw
      obtain ⟨a, ha, rfl, hw⟩ := hw
      obtain ⟨h1, h2⟩ := ih _ _ hw
      obtain ⟨h3, h4⟩ := harc a ha h1
      exact ⟨h3, by omega⟩
  refine ⟨hsrc, harc, fun v hv hne => ?_⟩
  obtain ⟨m, hm⟩ := h.att v hv (fun e => hne ((hb.far hn hv).1 e))
  obtain ⟨x', h1, h2⟩ := hwk m v _ hm
  have h3 := hnn v hv hne
  have h4 := (hlow m v x' h1).2
  refine ⟨m, ?_⟩
  unfold Sp.rk at h2
  have e : y (v * 2) = x' := by omega
  show Sp.Wk L s m v (y (v * 2))
  rw [e]; exact h1
end Go.Proofs.Ytggjpglakocilaa


/- Ways along tight arcs (P601: Way). -/
namespace Go.Proofs.Ytggjpglakocilaa
open Go Go.RowKit

/-- Whether the way from v may go on by arc i. -/
def Sp.tt (L : List Sp.Arc) (y : Nat → Int) (v i : Nat) : Bool := decide ((L.getD i Sp.arc0).f = v) && (decide (y ((L.getD i Sp.arc0).t * 2) + (L.getD i Sp.arc0).l = y (v * 2)) && decide (y ((L.getD i Sp.arc0).t * 2 + 1) + 1 = y (v * 2 + 1)))
def Sp.WayIs (L : List Sp.Arc) (y : Nat → Int) (t : Nat) : Nat → List Nat → Prop
  | v, [] => v = t
  | v, i :: r => v ≠ t ∧ i < L.length ∧ Sp.tt L y v i = true ∧ (∀ k, k < i → Sp.tt L y v k = false) ∧ Sp.WayIs L y t (L.getD i Sp.arc0).t r
theorem Sp.tt_iff {L : List Sp.Arc} {y : Nat → Int} {v i : Nat} : Sp.tt L y v i = true ↔ (L.getD i Sp.arc0).f = v ∧ y ((L.getD i Sp.arc0).t * 2) + (L.getD i Sp.arc0).l = y (v * 2) ∧ y ((L.getD i Sp.arc0).t * 2 + 1) + 1 = y (v * 2 + 1) := by
  unfold Sp.tt
  rw [Bool.and_eq_true, Bool.and_eq_true, decide_eq_true_eq, decide_eq_true_eq, decide_eq_true_eq]
theorem Sp.sw_snd {n : Nat} {L : List Sp.Arc} (h : Sp.Snd n L) : Sp.Snd n (L.map Sp.sw) := ⟨by rw [List.length_map]; exact h.few, fun b hb => by
  obtain ⟨a, ha, rfl⟩ := List.mem_map.1 hb
  have := h.at_ a ha
  exact ⟨this.2.1, this.1, this.2.2⟩⟩
theorem Sp.sw_pos {L : List Sp.Arc} (h : ∀ a ∈ L, 0 ≤ a.l) : ∀ a ∈ L.map Sp.sw, 0 ≤ a.l := fun b hb => by
  obtain ⟨a, ha, rfl⟩ := List.mem_map.1 hb
  exact h a ha
/-- The row of costs that Way works with: from t on, against the arcs. -/
structure Sp.Tow (L : List Sp.Arc) (t n : Nat) (y : Nat → Int) : Prop where
  sh : Sp.Short 345876451382054092800 (Sp.pairL 300 (L.map Sp.sw)) t n (Sp.rk y)
  bd : Sp.Bd n n y
theorem Sp.Tow.on {L : List Sp.Arc} {t n : Nat} {y : Nat → Int} (h : Sp.Tow L t n y) (hn : n ≤ 200) (hL : ∀ a ∈ L, a.f < n ∧ a.t < n) {v : Nat} (hv : v < n) (hvt : v ≠ t) (hf : y (v * 2) ≠ 1152921504606846976) : ∃ i, i < L.length ∧ Sp.tt L y v i = true := by
  obtain ⟨m, hm⟩ := h.sh.att v hv (fun e => hf ((h.bd.far (by omega) hv).1 e))
  cases m with
  | zero => exact absurd hm.1 hvt
  | succ m =>
    obtain ⟨b, hb, hbt, hw⟩ := hm
    obtain ⟨a', ha', rfl⟩ := Sp.mem_pairL.1 hb
    obtain ⟨a, ha, rfl⟩ := List.mem_map.1 ha'
    have hbt' : a.f = v := hbt
    have h1 : Sp.Wk (Sp.pairL 300 (L.map Sp.sw)) t m a.t (Sp.rk y v - (300 * a.l + 1)) := hw
    obtain ⟨h2, h3⟩ := h.sh.low (by omega) m _ _ h1
    have h4 : Sp.rk y a.f ≤ Sp.rk y a.t + (300 * a.l + 1) := (h.sh.arc _ hb h2).2
    rw [hbt'] at h4
    have h5 : y (a.t * 2) ≠ 1152921504606846976 := fun e => h2 ((h.bd.far (by omega) (hL a ha).2).2 e)
    have b1 := h.bd v hv
    have b2 := h.bd a.t (hL a ha).2
    obtain ⟨i, hi, e⟩ := List.mem_iff_getElem.1 ha
    refine ⟨i, hi, Sp.tt_iff.2 ?_⟩
    have e2 : L.getD i Sp.arc0 = a := by rw [List.getD_eq_getElem?_getD, List.getElem?_eq_getElem hi]; exact e
    rw [e2]
    unfold Sp.rk at h3 h4
    refine ⟨hbt', ?_⟩
    rcases b1 with b1 | b1
    · exact absurd b1.1 hf
    · rcases b2 with b2 | b2
      · exact absurd b2.1 h5
      · omega
theorem Sp.Tow.root {L : List Sp.Arc} {t n : Nat} {y : Nat → Int} (h : Sp.Tow L t n y) (ht : t < n) : y (t * 2) = 0 ∧ y (t * 2 + 1) = 0 := by
  have h0 := h.sh.src
  have h1 := h.bd t ht
  unfold Sp.rk at h0
  rcases h1 with h1 | h1
  · omega
  · omega
theorem Sp.Tow.many {L : List Sp.Arc} {t n : Nat} {y : Nat → Int} (h : Sp.Tow L t n y) {v : Nat} (hv : v < n) : ∃ g : Nat, y (v * 2 + 1) = (g : Int) ∧ g ≤ n := by
  rcases h.bd v hv with h1 | h1
  · exact ⟨0, h1.2, Nat.zero_le _⟩
  · exact ⟨(y (v * 2 + 1)).toNat, by omega, by omega⟩
theorem Sp.WayIs.snoc {L : List Sp.Arc} {y : Nat → Int} {t s v i : Nat} {W : List Nat} (h : ∀ r, Sp.WayIs L y t v r → Sp.WayIs L y t s (W ++ r)) (hv : v ≠ t) (hi : i < L.length) (hb : Sp.tt L y v i = true) (hk : ∀ k, k < i → Sp.tt L y v k = false) : ∀ r, Sp.WayIs L y t (L.getD i Sp.arc0).t r → Sp.WayIs L y t s (W ++ [i] ++ r) := fun r hr => by
  rw [List.append_assoc]
  exact h (i :: r) ⟨hv, hi, hb, hk, hr⟩
/-- Of the same lengths there is one way. -/
theorem Sp.WayIs.uniq {L : List Sp.Arc} {y y' : Nat → Int} {t : Nat} (hy : ∀ v i, Sp.tt L y v i = Sp.tt L y' v i) : ∀ (W W' : List Nat) (v : Nat), Sp.WayIs L y t v W → Sp.WayIs L y' t v W' → W = W'
  | [], [], _, _, _ => rfl
  | [], i :: r, v, h, h' => absurd h h'.1
  | i :: r, [], v, h, h' => absurd h' h.1
  | i :: r, i' :: r', v, h, h' => by
    obtain ⟨-, h2, h3, h4, h5⟩ := h
    obtain ⟨-, k2, k3, k4, k5⟩ := h'
    have e : i = i' := by
      rcases Nat.lt_trichotomy i i' with e | e | e
      · have := k4 i e; rw [← hy, h3] at this; cases this
      · exact e
      · have := h4 i' e; rw [hy, k3] at this; cases this
    subst e
    rw [Sp.WayIs.uniq hy r r' _ h5 k5]
end Go.Proofs.Ytggjpglakocilaa


/- Passes as the program and the reference make them (P601: Any). -/
namespace Go.Proofs.Ytggjpglakocilaa
open Go Go.RowKit

def Sp.still (L : List Sp.Arc) (D : Nat → Int) : Prop := ∀ a ∈ L, D a.f ≠ 1152921504606846976 → ¬ D a.f + a.l < D a.t
theorem Sp.rxs_append (far : Int) : ∀ (L L' : List Sp.Arc) (D : Nat → Int), Sp.rxs far (L ++ L') D = Sp.rxs far L' (Sp.rxs far L D)
  | [], _, _ => rfl
  | a :: L, L', D => Sp.rxs_append far L L' (Sp.rx far D a)
theorem Sp.take_arc {L : List Sp.Arc} {i : Nat} (hi : i < L.length) : L.take (i + 1) = L.take i ++ [L.getD i Sp.arc0] := by
  rw [List.take_succ_eq_append_getElem hi, List.getD_eq_getElem?_getD, List.getElem?_eq_getElem hi]; rfl
theorem Sp.pq_fst (L : List Sp.Arc) (D Y : Nat → Int) : ∀ i, i ≤ L.length → (Sp.pq L D Y i).1 = Sp.rxs 1152921504606846976 (L.take i) D
  | 0, _ => by simp [Sp.pq, Sp.rxs]
  | i + 1, hi => by
    rw [Sp.take_arc (by omega), Sp.rxs_append, ← Sp.pq_fst L D Y i (by omega), Sp.pq]
    show _ = Sp.rx _ _ _
    generalize Sp.pq L D Y i = q
    generalize L.getD i Sp.arc0 = a
    funext v
    unfold Sp.rx
    by_cases h : q.1 a.f ≠ 1152921504606846976 ∧ q.1 a.f + a.l < q.1 a.t
    · rw [if_pos h]
      show Sp.upd q.1 a.t _ v = _
      unfold Sp.upd
      by_cases e : v = a.t
      · rw [if_pos e, if_pos ⟨e, h⟩]
      · rw [if_neg e, if_neg (fun hh => e hh.1)]
    · rw [if_neg h, if_neg (fun hh => h hh.2)]
theorem Sp.pq_quiet (L : List Sp.Arc) (D Y : Nat → Int) : ∀ i, (∀ k, k < i → ¬ (D (L.getD k Sp.arc0).f ≠ 1152921504606846976 ∧ D (L.getD k Sp.arc0).f + (L.getD k Sp.arc0).l < D (L.getD k Sp.arc0).t)) → Sp.pq L D Y i = (D, Y, -1)
  | 0, _ => rfl
  | i + 1, h => by
    rw [Sp.pq, Sp.pq_quiet L D Y i (fun k hk => h k (by omega)), if_neg (h i (by omega))]
theorem Sp.pq_none (L : List Sp.Arc) (D Y : Nat → Int) : ∀ i, (Sp.pq L D Y i).2.2 = -1 → ∀ k, k < i → ¬ (D (L.getD k Sp.arc0).f ≠ 1152921504606846976 ∧ D (L.getD k Sp.arc0).f + (L.getD k Sp.arc0).l < D (L.getD k Sp.arc0).t)
  | 0, _ => fun k hk => by omega
  | i + 1, h => by
    rw [Sp.pq] at h
    by_cases hc : (Sp.pq L D Y i).1 (L.getD i Sp.arc0).f ≠ 1152921504606846976 ∧ (Sp.pq L D Y i).1 (L.getD i Sp.arc0).f + (L.getD i Sp.arc0).l < (Sp.pq L D Y i).1 (L.getD i Sp.arc0).t
    · rw [if_pos hc] at h
      have : (((L.getD i Sp.arc0).t : Nat) : Int) = -1 := h
      omega
    · rw [if_neg hc] at h
      have ih := Sp.pq_none L D Y i h
      rw [Sp.pq_quiet L D Y i ih] at hc
      intro k hk
      by_cases e : k = i
      · subst e; exact hc
      · exact ih k (by omega)
theorem Sp.pq_stop (L : List Sp.Arc) (D Y : Nat → Int) : (Sp.pq L D Y L.length).2.2 = -1 ↔ Sp.still L D := by
  constructor
  · intro h a ha hne hlt
    obtain ⟨i, hi, e⟩ := List.mem_iff_getElem.1 ha
    have := Sp.pq_none L D Y _ h i hi
    rw [List.getD_eq_getElem?_getD, List.getElem?_eq_getElem hi] at this
    exact this ⟨by rw [show (some L[i]).getD Sp.arc0 = a from e]; exact hne, by rw [show (some L[i]).getD Sp.arc0 = a from e]; exact hlt⟩
  · intro h
    rw [Sp.pq_quiet L D Y _ (fun k hk hc => h _ (Sp.arc_mem hk) hc.1 hc.2)]
theorem Sp.pq_same {L : List Sp.Arc} {D : Nat → Int} (Y : Nat → Int) (h : Sp.still L D) : Sp.pq L D Y L.length = (D, Y, -1) :=
  Sp.pq_quiet L D Y _ (fun _ hk hc => h _ (Sp.arc_mem hk) hc.1 hc.2)
/-- The row behind k passes. -/
def Sp.pk (L : List Sp.Arc) (s k : Nat) : Nat → Int := Sp.ps 1152921504606846976 L (Sp.d0 1152921504606846976 s) k
theorem Sp.pk_succ (L : List Sp.Arc) (s k : Nat) (Y : Nat → Int) : (Sp.pq L (Sp.pk L s k) Y L.length).1 = Sp.pk L s (k + 1) := by
  rw [Sp.pq_fst L _ _ _ (Nat.le_refl _), List.take_of_length_le (Nat.le_refl _)]; rfl
theorem Sp.pk_bnd {n s : Nat} {L : List Sp.Arc} (hS : Sp.Snd n L) : ∀ k, Sp.Bnd n (((k * L.length : Nat) : Int) * 1099511627776) (Sp.pk L s k)
  | 0 => fun v _ => by
    show Sp.d0 _ s v = _ ∨ (_ ≤ Sp.d0 _ s v ∧ Sp.d0 _ s v ≤ _)
    unfold Sp.d0
    by_cases h : v = s
    · rw [if_pos h]; exact .inr ⟨by simp, by simp⟩
    · rw [if_neg h]; exact .inl rfl
  | k + 1 => by
    have h := Sp.Bnd.pq (fun _ => 0) hS (by omega) (Sp.pk_bnd (s := s) hS k) L.length (Nat.le_refl _)
    rw [Sp.pk_succ] at h
    have e : (((k * L.length : Nat) : Int) * 1099511627776) + (L.length : Int) * 1099511627776 = ((((k + 1) * L.length : Nat) : Int) * 1099511627776) := by
      rw [Nat.succ_mul]; push_cast; omega
    rw [← e]; exact h
theorem Sp.pk_small {k m : Nat} (hk : k ≤ 200) (hm : m ≤ 1000) : (((k * m : Nat) : Int) * 1099511627776) + (m : Int) * 1099511627776 < 1152921504606846976 := by
  have h1 : k * m ≤ 200 * m := Nat.mul_le_mul_right _ hk
  generalize k * m = x at *
  omega
/-- Where a pass changes nothing the row is one of shortest ways. -/
theorem Sp.pk_short {n s k : Nat} {L : List Sp.Arc} (hS : Sp.Snd n L) (hs : s < n) (hk : k ≤ 200) (h : Sp.still L (Sp.pk L s k)) : Sp.Short 1152921504606846976 L s n (Sp.pk L s k) := by
  refine Sp.short_still hs (Sp.Att.ps (by decide) (fun a ha => (hS.at_ a ha).1) (Sp.att0 (by decide)) k) h (fun a ha hne => ?_)
  have h1 := Sp.pk_small hk hS.few
  obtain ⟨h2, -, h3, h4⟩ := hS.at_ a ha
  by_cases h0 : L.length = 0
  · rw [List.length_eq_zero_iff.1 h0] at ha; cases ha
  · rcases Sp.pk_bnd (s := s) hS k a.f h2 with e | e
    · exact absurd e hne
    · have h5 := e.2
      show Sp.pk L s k a.f + a.l < _
      have h6 : 1 ≤ (L.length : Int) := by omega
      generalize ((k * L.length : Nat) : Int) = x at *
      omega
/-- Where there is one the last pass changes nothing. -/
theorem Sp.pk_still {n s k : Nat} {L : List Sp.Arc} {D : Nat → Int} (hS : Sp.Snd n L) (hs : s < n) (hD : Sp.Short 1152921504606846976 L s n D) (hlt : ∀ v, D v ≠ 1152921504606846976 → D v < 1152921504606846976) (hk : n ≤ k + 1) : Sp.still L (Sp.pk L s k) := fun a ha hne hlt2 => by
  obtain ⟨h1, h2, -⟩ := hS.at_ a ha
  have e1 := Sp.ps_short hD (by decide) (fun a ha => ⟨(hS.at_ a ha).1, (hS.at_ a ha).2.1⟩) hlt hs hk h1
  have e2 := Sp.ps_short hD (by decide) (fun a ha => ⟨(hS.at_ a ha).1, (hS.at_ a ha).2.1⟩) hlt hs hk h2
  unfold Sp.pk at hne hlt2
  rw [e1] at hne hlt2
  rw [e2] at hlt2
  have := (hD.arc a ha hne).2
  omega
/-- Beyond the places nothing is asked. -/
theorem Sp.Short.ex {n s : Nat} {L : List Sp.Arc} {D : Nat → Int} (hL : ∀ a ∈ L, a.f < n ∧ a.t < n) (hs : s < n) (hD : Sp.Short 1152921504606846976 L s n D) (hb : ∀ v, v < n → D v ≠ 1152921504606846976 → D v < 1152921504606846976) : ∃ D, Sp.Short 1152921504606846976 L s n D ∧ ∀ v, D v ≠ 1152921504606846976 → D v < 1152921504606846976 := by
  refine ⟨fun v => if v < n then D v else 1152921504606846976, ⟨?_, fun a ha hne => ?_, fun v hv hne => ?_⟩, fun v hne => ?_⟩
  · show (if s < n then D s else _) = 0
    rw [if_pos hs]; exact hD.src
  · have h1 := hL a ha
    rw [if_pos h1.1] at hne
    show (if a.t < n then D a.t else _) ≠ _ ∧ (if a.t < n then D a.t else _) ≤ (if a.f < n then D a.f else _) + a.l
    rw [if_pos h1.1, if_pos h1.2]
    exact hD.arc a ha hne
  · rw [if_pos hv] at hne
    obtain ⟨m, hm⟩ := hD.att v hv hne
    refine ⟨m, ?_⟩
    show Sp.Wk L s m v (if v < n then D v else _)
    rw [if_pos hv]; exact hm
  · have hne1 : (if v < n then D v else (1152921504606846976 : Int)) ≠ 1152921504606846976 := hne
    show (if v < n then D v else (1152921504606846976 : Int)) < 1152921504606846976
    by_cases hv : v < n
    · rw [if_pos hv] at hne1 ⊢; exact hb v hv hne1
    · rw [if_neg hv] at hne1; exact absurd rfl hne1
end Go.Proofs.Ytggjpglakocilaa


/- Ways one behind the other (P601: PathParts, PathWays). -/
namespace Go.Proofs.Ytggjpglakocilaa
open Go Go.RowKit

/-- What leads to t, from behind. -/
theorem Sp.Tow.back {L : List Sp.Arc} {t n : Nat} {y : Nat → Int} (h : Sp.Tow L t n y) (hn : n ≤ 200) (hL : ∀ a ∈ L, a.f < n ∧ a.t < n) (ht : t < n) : ∀ a ∈ L, y (a.t * 2) ≠ 1152921504606846976 → y (a.f * 2) ≠ 1152921504606846976 ∧ y (a.f * 2) ≤ y (a.t * 2) + a.l := fun a ha hne => by
  have hs := Sp.short_long h.sh h.bd (by omega) (fun b hb => by obtain ⟨a, ha, rfl⟩ := List.mem_map.1 hb; exact ⟨(hL a ha).2, (hL a ha).1⟩) ht
  exact hs.arc (Sp.sw a) (List.mem_map.2 ⟨a, ha, rfl⟩) hne
theorem Sp.Tow.walk {L : List Sp.Arc} {t n s : Nat} {y : Nat → Int} (h : Sp.Tow L t n y) (hn : n ≤ 200) (hL : ∀ a ∈ L, a.f < n ∧ a.t < n) (ht : t < n) : ∀ m v u, Sp.Wk L s m v u → y (v * 2) ≠ 1152921504606846976 → y (s * 2) ≠ 1152921504606846976 ∧ y (s * 2) ≤ y (v * 2) + u
  | 0, v, u, hw, hv => by
    obtain ⟨rfl, rfl⟩ := hw
    exact ⟨hv, by omega⟩
  | m + 1, v, u, hw, hv => by
    obtain ⟨a, ha, rfl, hw⟩ := hw
    obtain ⟨h1, h2⟩ := h.back hn hL ht a ha hv
    obtain ⟨h3, h4⟩ := Sp.Tow.walk h hn hL ht m a.f _ hw h1
    exact ⟨h3, by omega⟩
/-- Where a way stands: so much behind it, the rest ahead. -/
structure Sp.OnWay (L : List Sp.Arc) (y D : Nat → Int) (s n v : Nat) (z : Int) : Prop where
  lt : v < n
  got : D v ≠ 1152921504606846976
  le : D v ≤ z
  sum : z + y (v * 2) = y (s * 2)
  fin : y (v * 2) ≠ 1152921504606846976
theorem Sp.OnWay.eq {L : List Sp.Arc} {t n s v : Nat} {y D : Nat → Int} {z : Int} (h : Sp.OnWay L y D s n v z) (hT : Sp.Tow L t n y) (hD : Sp.Short 1152921504606846976 L s n D) (hn : n ≤ 200) (hL : ∀ a ∈ L, a.f < n ∧ a.t < n) (ht : t < n) : D v = z := by
  obtain ⟨m, hm⟩ := hD.att v h.lt h.got
  have h1 := (hT.walk hn hL ht m v _ hm h.fin).2
  have h2 := h.le
  have h3 := h.sum
  omega
theorem Sp.OnWay.start {L : List Sp.Arc} {n s : Nat} {y D : Nat → Int} (hD : Sp.Short 1152921504606846976 L s n D) (hs : s < n) (hf : y (s * 2) ≠ 1152921504606846976) : Sp.OnWay L y D s n s 0 :=
  ⟨hs, by rw [hD.src]; decide, by rw [hD.src]; exact Int.le_refl _, by omega, hf⟩
theorem Sp.OnWay.step {L : List Sp.Arc} {t n s v i : Nat} {y D : Nat → Int} {z : Int} (h : Sp.OnWay L y D s n v z) (hT : Sp.Tow L t n y) (hD : Sp.Short 1152921504606846976 L s n D) (hL : ∀ a ∈ L, a.f < n ∧ a.t < n ∧ 0 ≤ a.l ∧ a.l ≤ 1099511627776) (hn : n ≤ 200) (hi : i < L.length) (ht : Sp.tt L y v i = true) : Sp.OnWay L y D s n (L.getD i Sp.arc0).t (z + (L.getD i Sp.arc0).l) := by
  obtain ⟨t1, t2, -⟩ := Sp.tt_iff.1 ht
  have hm := Sp.arc_mem hi
  obtain ⟨-, h2, h3, h4⟩ := hL _ hm
  have h5 := hD.arc _ hm (by rw [t1]; exact h.got)
  rw [t1] at h5
  have h6 := h.le
  have h7 := h.sum
  refine ⟨h2, h5.1, by omega, by omega, fun e => ?_⟩
  rcases hT.bd v h.lt with b | b
  · exact h.fin b.1
  · rw [e] at t2
    have := b.2.1
    omega
end Go.Proofs.Ytggjpglakocilaa


/- The reference's Way (d, few) against the program's costs (P601: PathWays). -/
namespace Go.Proofs.Ytggjpglakocilaa
open Go Go.RowKit

theorem Sp.sw_range {L : List Sp.Arc} {n : Nat} (hL : ∀ a ∈ L, a.f < n ∧ a.t < n) : ∀ b ∈ L.map Sp.sw, b.f < n ∧ b.t < n := fun b hb => by
  obtain ⟨a, ha, rfl⟩ := List.mem_map.1 hb
  exact ⟨(hL a ha).2, (hL a ha).1⟩
theorem Sp.Tow.long {L : List Sp.Arc} {t n : Nat} {y D : Nat → Int} (h : Sp.Tow L t n y) (hn : n ≤ 200) (hL : ∀ a ∈ L, a.f < n ∧ a.t < n) (ht : t < n) (hD : Sp.Short 1152921504606846976 (L.map Sp.sw) t n D) {v : Nat} (hv : v < n) : D v = y (v * 2) :=
  hD.uniq (Sp.short_long h.sh h.bd (by omega) (Sp.sw_range hL) ht) (by decide) hv
/-- The fewest arcs, of the program's row. -/
def Sp.fewR (y : Nat → Int) : Nat → Int := fun v => if y (v * 2) = 1152921504606846976 then 1152921504606846976 else y (v * 2 + 1)
theorem Sp.wk_unpair {L : List Sp.Arc} {s : Nat} : ∀ m v x, Sp.Wk (Sp.pairL 300 L) s m v x → ∃ x', Sp.Wk L s m v x' ∧ x = 300 * x' + (m : Int)
  | 0, v, x, hw => by obtain ⟨rfl, rfl⟩ := hw; exact ⟨0, ⟨rfl, rfl⟩, by omega⟩
  | m + 1, v, x, hw => by
    obtain ⟨b, hb, rfl, hw⟩ := hw
    obtain ⟨a, ha, rfl⟩ := Sp.mem_pairL.1 hb
    obtain ⟨x', h1, h2⟩ := Sp.wk_unpair m _ _ hw
    refine ⟨x' + a.l, ⟨a, ha, rfl, by rw [Int.add_sub_cancel]; exact h1⟩, ?_⟩
    have h2' : x - (300 * a.l + 1) = 300 * x' + (m : Int) := h2
    rw [Int.mul_add]
    push_cast
    omega
theorem Sp.Tow.few {L : List Sp.Arc} {t n : Nat} {y : Nat → Int} (h : Sp.Tow L t n y) (hn : n ≤ 200) (hL : ∀ a ∈ L, a.f < n ∧ a.t < n) (ht : t < n) : Sp.Short 1152921504606846976 (Sp.tightL 1152921504606846976 (L.map Sp.sw) (fun v => y (v * 2))) t n (Sp.fewR y) := by
  have hS := Sp.short_long h.sh h.bd (by omega) (Sp.sw_range hL) ht
  obtain ⟨r0, r1⟩ := h.root ht
  have hb : ∀ v, v < n → y (v * 2) ≠ 1152921504606846976 → 0 ≤ y (v * 2 + 1) ∧ y (v * 2 + 1) ≤ 200 := fun v hv hne => by
    rcases h.bd v hv with q | q
    · exact absurd q.1 hne
    · omega
  refine ⟨?_, fun b hb1 hne => ?_, fun v hv hne => ?_⟩
  · show (if y (t * 2) = _ then _ else _) = 0
    rw [r0, if_neg (by decide), r1]
  · obtain ⟨a, ha, h1, h2, rfl⟩ := Sp.mem_tightL.1 hb1
    obtain ⟨g1, g2⟩ := Sp.sw_range hL a ha
    have h3 := hS.arc a ha h1
    have h4 := h.sh.arc (Sp.pr a) (Sp.mem_pairL.2 ⟨a, ha, rfl⟩) (fun e => h1 ((h.bd.far (by omega) g1).1 e))
    have h5 : Sp.rk y a.t ≤ Sp.rk y a.f + (300 * a.l + 1) := h4.2
    have h6 := hb _ g1 h1
    have h7 := hb _ g2 h3.1
    show (if y (a.t * 2) = _ then _ else y (a.t * 2 + 1)) ≠ _ ∧ (if y (a.t * 2) = _ then _ else y (a.t * 2 + 1)) ≤ (if y (a.f * 2) = _ then _ else y (a.f * 2 + 1)) + 1
    rw [if_neg h3.1, if_neg h1]
    have h2' : y (a.t * 2) = y (a.f * 2) + a.l := h2
    unfold Sp.rk at h5
    exact ⟨by omega, by omega⟩
  · have hf : y (v * 2) ≠ 1152921504606846976 := fun e => hne (by show (if y (v * 2) = _ then _ else _) = _; rw [if_pos e])
    obtain ⟨m, hm⟩ := h.sh.att v hv (fun e => hf ((h.bd.far (by omega) hv).1 e))
    obtain ⟨x', h1, h2⟩ := Sp.wk_unpair m v _ hm
    have h3 := (hS.low (by decide) m v x' h1).2
    have h4 := hb v hv hf
    unfold Sp.rk at h2
    have h3' : y (v * 2) ≤ x' := h3
    have e : y (v * 2) = x' := by omega
    have e2 : y (v * 2 + 1) = (m : Int) := by omega
    refine ⟨m, ?_⟩
    show Sp.Wk _ t m v (if y (v * 2) = _ then _ else y (v * 2 + 1))
    rw [if_neg hf, e2]
    exact Sp.wk_tight hS (by decide) m v (by show Sp.Wk _ t m v (y (v * 2)); rw [e]; exact h1)
/-- What the reference asks of an arc is what the program asks. -/
theorem Sp.Tow.ask {L : List Sp.Arc} {t n : Nat} {y D E : Nat → Int} (h : Sp.Tow L t n y) (hL : ∀ a ∈ L, a.f < n ∧ a.t < n ∧ 0 ≤ a.l ∧ a.l ≤ 1099511627776) (hn : n ≤ 200) (hD : ∀ v, v < n → D v = y (v * 2)) (hE : ∀ v, v < n → E v = Sp.fewR y v) {v i : Nat} (hv : v < n) (hi : i < L.length) (hf : y (v * 2) ≠ 1152921504606846976) :
    Sp.tt L y v i = true ↔ ((L.getD i Sp.arc0).f = v ∧ D (L.getD i Sp.arc0).t ≠ 1152921504606846976 ∧ D v = D (L.getD i Sp.arc0).t + (L.getD i Sp.arc0).l ∧ E v = E (L.getD i Sp.arc0).t + 1) := by
  obtain ⟨-, g2, g3, g4⟩ := hL _ (Sp.arc_mem hi)
  rw [Sp.tt_iff, hD v hv, hD _ g2, hE v hv, hE _ g2]
  unfold Sp.fewR
  rw [if_neg hf]
  have hbv := (h.bd v hv).resolve_left (fun q => hf q.1)
  constructor
  · rintro ⟨h1, h2, h3⟩
    have hne : y ((L.getD i Sp.arc0).t * 2) ≠ 1152921504606846976 := fun e => by rw [e] at h2; omega
    rw [if_neg hne]
    exact ⟨h1, hne, h2.symm, h3.symm⟩
  · rintro ⟨h1, h2, h3, h4⟩
    rw [if_neg h2] at h4
    exact ⟨h1, h3.symm, h4.symm⟩
end Go.Proofs.Ytggjpglakocilaa


/- The laws of heaps: within, known. -/
namespace Go.Proofs.Ytggjpglakocilaa
open Go Go.RowKit

theorem But.on {B b : Nat} {w u v : World} (k : But b u v) (h : Below B w u) (hB : B ≤ b) (hw : B ≤ u.heap.size) : Below B w v := h.trans (k.below hB hw)
theorem tmod_casesH (a n : Int) (hn : 0 < n) : (a.tmod n < 0 ∧ a.tmod n + n = a % n) ∨ (0 ≤ a.tmod n ∧ a.tmod n = a % n) := by
  have h0 : 0 ≤ a % n := Int.emod_nonneg a (by omega)
  have h1 : a % n < n := Int.emod_lt_of_pos a hn
  have e := Int.tmod_eq_emod (a := a) (b := n)
  split at e
  · right; omega
  · left
    have : ((n.natAbs : Nat) : Int) = n := by omega
    omega
theorem ret_intH {k : IntKind} {a b : Int} (h : a = b) : Ending.returned (.int k a) = .returned (.int k b) := by rw [h]
theorem hnew2_any (w : World) :
    Calls Try.prog 42 #[] w fun e w' => e = .returned (.pointer (some ⟨w.heap.size, 0, none⟩)) ∧ Below w.heap.size w w' ∧ HpIs w' w.heap.size (fun _ => none) ∧ w'.heap.size = w.heap.size + 1 := by
  refine (hnew_any w).mono ?_
  rintro e w' ⟨rfl, rfl⟩
  exact ⟨rfl, (Below.refl _ w).alloc (Nat.le_refl _) _, hnew_is w, by show (w.heap.push _).size = _; exact Array.size_push _⟩
end Go.Proofs.Ytggjpglakocilaa


