/- What the proof needs, part 3. -/
import Derived.Below
import Derived.Deep.RegionHeld3
import Derived.Deep.DeepCutAuto
import Derived.BigRegion
import Derived.WalkMore
import Derived.Deep.LoopGhost
import Derived.Test.YtoegjnolccabjaaL2
/- A heap's block: 901 numbers; what a store into it leaves. -/
namespace Go.Proofs.Ytoegjnolccabjaa
open Go Go.RowKit

/-- One number of a row turned. -/
def Sp.upd (z : Nat → Int) (j : Nat) (v : Int) : Nat → Int := fun k => if k = j then v else z k
theorem Sp.upd_same (z : Nat → Int) (j : Nat) (v : Int) : Sp.upd z j v j = v := by simp [Sp.upd]
theorem Sp.upd_other (z : Nat → Int) {j k : Nat} (v : Int) (h : k ≠ j) : Sp.upd z j v k = z k := by simp [Sp.upd, h]

/-- Block b holds a heap's numbers. -/
def HpAt (w : World) (b : Nat) (z : Nat → Int) : Prop := ∃ c, w.heap[b]? = some (.cells c 117) ∧ c.size = 901 ∧ ∀ j, j < 901 → c[j]? = some (.int .i64 (z j))
theorem HpAt.lt {w : World} {b : Nat} {z : Nat → Int} (h : HpAt w b z) : b < w.heap.size := by
  obtain ⟨c, hc, -⟩ := h
  exact (Array.getElem?_eq_some_iff.1 hc).1
theorem HpAt.cell {w : World} {b : Nat} {z : Nat → Int} (h : HpAt w b z) {j : Nat} (hj : j < 901) : w.cell? ⟨b, j, none⟩ = some (.int .i64 (z j)) := by
  obtain ⟨c, hc, -, hz⟩ := h
  simp only [World.cell?, hc]
  exact hz j hj
theorem HpAt.frozen {w : World} {b : Nat} {z : Nat → Int} (h : HpAt w b z) (j : Nat) (s : Option Nat) : w.frozen? ⟨b, j, s⟩ = false := by
  obtain ⟨c, hc, -⟩ := h
  simp only [World.frozen?, hc]
  simp
theorem HpAt.of_block {w w' : World} {b : Nat} {z : Nat → Int} (h : HpAt w b z) (e : w'.heap[b]? = w.heap[b]?) : HpAt w' b z := by
  obtain ⟨c, hc, h1⟩ := h
  exact ⟨c, by rw [e]; exact hc, h1⟩
theorem HpAt.set {w : World} {b : Nat} {z : Nat → Int} (h : HpAt w b z) (j : Nat) (v : Int) : HpAt (w.setCell ⟨b, j, none⟩ (.int .i64 v)) b (Sp.upd z j v) := by
  obtain ⟨c, hc, hs, hz⟩ := h
  refine ⟨c.setIfInBounds j (.int .i64 v), ?_, by simpa using hs, fun k hk => ?_⟩
  · simp only [World.setCell, Array.getElem?_modify, if_pos, hc]
    rfl
  · rw [Array.getElem?_setIfInBounds]
    by_cases hjk : j = k
    · rw [if_pos hjk, if_pos (by omega), ← hjk, Sp.upd_same]
    · rw [if_neg hjk, hz k hk, Sp.upd_other _ _ (by omega)]
/-- All but block b is as it was. -/
structure But (b : Nat) (w w' : World) : Prop where
  os : w'.os = w.os
  tape : w'.tape = w.tape
  output : w'.output = w.output
  size : w.heap.size ≤ w'.heap.size
  block : ∀ k, k < w.heap.size → k ≠ b → w'.heap[k]? = w.heap[k]?
theorem But.refl (b : Nat) (w : World) : But b w w := ⟨rfl, rfl, rfl, Nat.le_refl _, fun _ _ _ => rfl⟩
theorem But.trans {b : Nat} {u v w : World} (h : But b u v) (k : But b v w) : But b u w :=
  ⟨k.os.trans h.os, k.tape.trans h.tape, k.output.trans h.output, Nat.le_trans h.size k.size, fun i hi hb => (k.block i (Nat.lt_of_lt_of_le hi h.size) hb).trans (h.block i hi hb)⟩
theorem But.of {b : Nat} {w w' : World} (h : Below w.heap.size w w') : But b w w' := ⟨h.os, h.tape, h.output, h.size, fun k hk _ => h.block k hk⟩
theorem But.below {b B : Nat} {w w' : World} (h : But b w w') (hB : B ≤ b) (hw : B ≤ w.heap.size) : Below B w w' := ⟨h.os, h.tape, h.output, h.size, fun k hk => h.block k (by omega) (by omega)⟩
theorem But.drew {b : Nat} {u w : World} (h : But b u w) : But b u w.drew := h.trans ⟨rfl, rfl, rfl, Nat.le_refl _, fun _ _ _ => rfl⟩
theorem But.alloc {b : Nat} {u w : World} (h : But b u w) (o : Obj) : But b u (w.alloc o) := h.trans (But.of ((Below.refl _ w).alloc (Nat.le_refl _) o))
theorem But.set {b : Nat} {u w : World} (h : But b u w) (j : Nat) (s : Option Nat) (v : Value) : But b u (w.setCell ⟨b, j, s⟩ v) :=
  h.trans ⟨rfl, rfl, rfl, by simp [World.setCell], fun k _ hb => Below.heap_setCell _ _ _ _ hb⟩
theorem But.cell {b : Nat} {w w' : World} (h : But b w w') {p : Addr} (hp : p.block < w.heap.size) (hb : p.block ≠ b) : w'.cell? p = w.cell? p := World.cell?_of_block (w := w) (h.block p.block hp hb)
theorem HpAt.below {w w' : World} {b : Nat} {z : Nat → Int} (h : HpAt w b z) (hb : Below w.heap.size w w') : HpAt w' b z := h.of_block (hb.block b h.lt)
theorem HpAt.alloc {w : World} {b : Nat} {z : Nat → Int} (h : HpAt w b z) (o : Obj) : HpAt (w.alloc o) b z := h.below ((Below.refl _ w).alloc (Nat.le_refl _) o)
theorem HpAt.drew {w : World} {b : Nat} {z : Nat → Int} (h : HpAt w b z) : HpAt w.drew b z := h.of_block rfl
/-- An item in a block of its own. -/
theorem item_new (w : World) (k r : Value) : (w.alloc (.cells #[k, r] 103)).cell? ⟨w.heap.size, 0, none⟩ = some k ∧ (w.alloc (.cells #[k, r] 103)).cell? ⟨w.heap.size, 1, none⟩ = some r := by
  have e : (w.alloc (.cells #[k, r] 103)).heap[w.heap.size]? = some (.cells #[k, r] 103) := by
    show (w.heap.push _)[w.heap.size]? = _
    simp
  constructor <;> simp only [World.cell?, e] <;> rfl

set_option maxRecDepth 100000 in
set_option maxHeartbeats 1000000 in
theorem isKey_any (k : Int) (w : World) : Calls Try.prog 87 #[.int .i64 k] w fun e w' => e = .returned (.bool (decide (0 ≤ k ∧ k < 300))) ∧ w' = w := by
  by_cases h0 : 0 ≤ k
  · by_cases h1 : k < 300
    · have HR := hide (decide_eq_true (And.intro h0 h1))
      generalize decide (0 ≤ k ∧ k < 300) = R at *
      go_enter Try.func87, Try.ntmps87
      go_wp2
      go_ret
      exact ⟨by rw [unhide HR]; rfl, rfl⟩
    · have HR := hide (show decide (0 ≤ k ∧ k < 300) = false from decide_eq_false (by omega))
      generalize decide (0 ≤ k ∧ k < 300) = R at *
      go_enter Try.func87, Try.ntmps87
      go_wp2
      go_ret
      exact ⟨by rw [unhide HR]; rfl, rfl⟩
  · have HR := hide (show decide (0 ≤ k ∧ k < 300) = false from decide_eq_false (by omega))
    generalize decide (0 ≤ k ∧ k < 300) = R at *
    go_enter Try.func87, Try.ntmps87
    go_wp2
    go_ret
    exact ⟨by rw [unhide HR]; rfl, rfl⟩

/-- Whether one item is to be taken before another one: keys, ranks. -/
def Sp.aheadB (k r k' r' : Int) : Bool := decide (r < r') || (decide (r = r') && decide (k < k'))
set_option maxRecDepth 100000 in
set_option maxHeartbeats 1000000 in
theorem ahead_any (k r k' r' : Int) (w : World) : Calls Try.prog 100 #[.agg #[.int .i64 k, .int .i64 r], .agg #[.int .i64 k', .int .i64 r']] w fun e w' => e = .returned (.bool (Sp.aheadB k r k' r')) ∧ Below w.heap.size w w' := by
  have HB : Hid (∀ o o', Below w.heap.size w ((w.alloc o).alloc o')) := hide fun o o' => ((Below.refl _ w).alloc (Nat.le_refl _) o).alloc (by simp) o'
  by_cases h0 : r < r'
  · have HR : Hid (Sp.aheadB k r k' r' = true) := hide (by simp [Sp.aheadB, h0])
    generalize Sp.aheadB k r k' r' = R at *
    go_enter Try.func100, Try.ntmps100
    go_wp2
    go_ret
    exact ⟨by rw [unhide HR]; rfl, unhide HB _ _⟩
  · by_cases h1 : r = r'
    · subst h1
      by_cases h2 : k < k'
      · have HR : Hid (Sp.aheadB k r k' r = true) := hide (by simp [Sp.aheadB, h2])
        generalize Sp.aheadB k r k' r = R at *
        go_enter Try.func100, Try.ntmps100
        go_wp2
        go_ret
        exact ⟨by rw [unhide HR]; rfl, unhide HB _ _⟩
      · have HR : Hid (Sp.aheadB k r k' r = false) := hide (by simp [Sp.aheadB, h2])
        generalize Sp.aheadB k r k' r = R at *
        go_enter Try.func100, Try.ntmps100
        go_wp2
        go_ret
        exact ⟨by rw [unhide HR]; rfl, unhide HB _ _⟩
    · have HR : Hid (Sp.aheadB k r k' r' = false) := hide (by simp [Sp.aheadB, h0, h1])
      generalize Sp.aheadB k r k' r' = R at *
      go_enter Try.func100, Try.ntmps100
      go_wp2
      go_ret
      exact ⟨by rw [unhide HR]; rfl, unhide HB _ _⟩
end Go.Proofs.Ytoegjnolccabjaa


/- Package heap: find, stand. -/
namespace Go.Proofs.Ytoegjnolccabjaa
open Go Go.RowKit

theorem cell_set_ne {w : World} {b j b' j' : Nat} {v : Value} (h : b ≠ b' ∨ j ≠ j') : (w.setCell ⟨b, j, none⟩ v).cell? ⟨b', j', none⟩ = w.cell? ⟨b', j', none⟩ := by
  apply World.cell?_setCell_other
  intro e
  injection e with e1 e2
  omega
/-- An item laid at a place. -/
def Sp.stand (z : Nat → Int) (p k : Nat) (r : Int) : Nat → Int := Sp.upd (Sp.upd (Sp.upd z (p * 2) (k : Int)) (p * 2 + 1) r) (601 + k) ((p : Int) + 1)

set_option maxRecDepth 100000 in
set_option maxHeartbeats 1000000 in
theorem stand_any (z : Nat → Int) (b p k : Nat) (r : Int) (w : World) (h : HpAt w b z) (hp : p < 300) (hk : k < 300) :
    Calls Try.prog 99 #[.pointer (some ⟨b, 0, none⟩), .int .i64 (p : Int), .agg #[.int .i64 (k : Int), .int .i64 r]] w fun e w' => e = .returned (.tuple #[]) ∧ But b w w' ∧ HpAt w' b (Sp.stand z p k r) := by
  have hpI : (p : Int) < 300 := by omega
  have hkI : (k : Int) < 300 := by omega
  have hb := h.lt
  obtain ⟨x0, x1⟩ := item_new w (.int .i64 (k : Int)) (.int .i64 r)
  have h1 := h.alloc (.cells #[.int .i64 (k : Int), .int .i64 r] 103)
  have c0 := h1.cell (j := p * 2) (by omega)
  have c1 := h1.cell (j := p * 2 + 1) (by omega)
  have f := fun j => h1.frozen j none
  have c1' := fun v : Value => show ((w.alloc (.cells #[.int .i64 (k : Int), .int .i64 r] 103)).setCell ⟨b, p * 2, none⟩ v).cell? ⟨b, p * 2 + 1, none⟩ = some (.int .i64 (z (p * 2 + 1))) by rw [cell_set_ne (by omega)]; exact c1
  have H := hide h1
  clear h h1
  go_enter Try.func99, Try.ntmps99
  go_wp2_with fail
  generalize hW : w.alloc (.cells #[.int .i64 (k : Int), .int .i64 r] 103) = W1 at *
  have HW := hide hW
  clear hW
  go_region
  go_wp2_with fail
  obtain ⟨W2, hW2⟩ : ∃ W2, W2 = ((W1.setCell ⟨b, p * 2, none⟩ (.int .i64 (k : Int))).setCell ⟨b, p * 2 + 1, none⟩ (.int .i64 r)).drew := ⟨_, rfl⟩
  have h2 : HpAt W2 b (Sp.upd (Sp.upd z (p * 2) (k : Int)) (p * 2 + 1) r) := by rw [hW2]; exact (((unhide H).set _ _).set _ _).drew
  have HB2 : Hid (But b w W2) := hide (by rw [hW2, ← unhide HW]; exact ((((But.refl b w).alloc _).set _ _ _).set _ _ _).drew)
  have y0 : W2.cell? ⟨w.heap.size, 0, none⟩ = some (.int .i64 (k : Int)) := by
    rw [hW2]; show World.cell? (World.setCell _ _ _) _ = _; rw [cell_set_ne (by omega), cell_set_ne (by omega)]; exact x0
  rw [← hW2]
  clear x0 x1 c0 c1 f c1' H HW hW2
  have c2 := h2.cell (j := 601 + k) (by omega)
  have f2 := fun j => h2.frozen j none
  have H2 := hide h2
  clear h2
  go_region
  go_wp2
  go_end0
  exact ⟨rfl, ((unhide HB2).set _ _ _).drew, ((unhide H2).set _ _).drew⟩
end Go.Proofs.Ytoegjnolccabjaa


/- A row of numbers in a block of its own, as a function; all but some blocks as they were. -/
namespace Go.Proofs.Ytoegjnolccabjaa
open Go Go.RowKit

/-- All but the blocks of p is as it was. -/
structure Bt (p : Nat → Prop) (w w' : World) : Prop where
  os : w'.os = w.os
  tape : w'.tape = w.tape
  output : w'.output = w.output
  size : w.heap.size ≤ w'.heap.size
  block : ∀ k, k < w.heap.size → ¬ p k → w'.heap[k]? = w.heap[k]?
theorem Bt.refl (p : Nat → Prop) (w : World) : Bt p w w := ⟨rfl, rfl, rfl, Nat.le_refl _, fun _ _ _ => rfl⟩
theorem Bt.trans {p : Nat → Prop} {u v w : World} (h : Bt p u v) (k : Bt p v w) : Bt p u w :=
  ⟨k.os.trans h.os, k.tape.trans h.tape, k.output.trans h.output, Nat.le_trans h.size k.size, fun i hi hb => (k.block i (Nat.lt_of_lt_of_le hi h.size) hb).trans (h.block i hi hb)⟩
theorem Bt.mono {p q : Nat → Prop} {w w' : World} (h : Bt p w w') (hq : ∀ k, k < w.heap.size → p k → q k) : Bt q w w' := ⟨h.os, h.tape, h.output, h.size, fun k hk hn => h.block k hk (fun hp => hn (hq k hk hp))⟩
theorem Bt.of {p : Nat → Prop} {w w' : World} (h : Below w.heap.size w w') : Bt p w w' := ⟨h.os, h.tape, h.output, h.size, fun k hk _ => h.block k hk⟩
theorem Bt.below {p : Nat → Prop} {B : Nat} {w w' : World} (h : Bt p w w') (hp : ∀ k, p k → B ≤ k) (hw : B ≤ w.heap.size) : Below B w w' := ⟨h.os, h.tape, h.output, h.size, fun k hk => h.block k (by omega) (fun e => by have := hp k e; omega)⟩
theorem Bt.drew {p : Nat → Prop} {u w : World} (h : Bt p u w) : Bt p u w.drew := h.trans ⟨rfl, rfl, rfl, Nat.le_refl _, fun _ _ _ => rfl⟩
theorem Bt.dn {p : Nat → Prop} {u w : World} (h : Bt p u w) (n : Nat) : Bt p u (w.drewN n) := ⟨h.os, h.tape, h.output, h.size, h.block⟩
theorem Bt.alloc {p : Nat → Prop} {u w : World} (h : Bt p u w) (o : Obj) : Bt p u (w.alloc o) := h.trans (Bt.of ((Below.refl _ w).alloc (Nat.le_refl _) o))
theorem Bt.set {p : Nat → Prop} {u w : World} (h : Bt p u w) {b : Nat} (hb : p b ∨ u.heap.size ≤ b) (j : Nat) (s : Option Nat) (v : Value) : Bt p u (w.setCell ⟨b, j, s⟩ v) := by
  refine ⟨h.os, h.tape, h.output, ?_, fun k hk hn => ?_⟩
  · have := h.size
    have e : (w.setCell ⟨b, j, s⟩ v).heap.size = w.heap.size := by simp [World.setCell]
    omega
  · rw [Below.heap_setCell _ _ _ _ (by
      show k ≠ b
      intro e
      subst e
      rcases hb with hb | hb
      · exact hn hb
      · omega)]
    exact h.block k hk hn
theorem Bt.cell {p : Nat → Prop} {w w' : World} (h : Bt p w w') {a : Addr} (ha : a.block < w.heap.size) (hb : ¬ p a.block) : w'.cell? a = w.cell? a := World.cell?_of_block (w := w) (h.block a.block ha hb)
/-- Block b is a row of the n numbers z. -/
def RowAt (w : World) (b n : Nat) (z : Nat → Int) : Prop := ∃ c, w.heap[b]? = some (.cells c 3) ∧ c.size = n ∧ ∀ j, j < n → c[j]? = some (.int .i64 (z j))
theorem RowAt.lt {w : World} {b n : Nat} {z : Nat → Int} (h : RowAt w b n z) : b < w.heap.size := by
  obtain ⟨c, hc, -⟩ := h
  exact (Array.getElem?_eq_some_iff.1 hc).1
theorem RowAt.cell {w : World} {b n : Nat} {z : Nat → Int} (h : RowAt w b n z) {j : Nat} (hj : j < n) : w.cell? ⟨b, j, none⟩ = some (.int .i64 (z j)) := by
  obtain ⟨c, hc, -, hz⟩ := h
  simp only [World.cell?, hc]
  exact hz j hj
theorem RowAt.frozen {w : World} {b n : Nat} {z : Nat → Int} (h : RowAt w b n z) (j : Nat) (s : Option Nat) : w.frozen? ⟨b, j, s⟩ = false := by
  obtain ⟨c, hc, -⟩ := h
  simp only [World.frozen?, hc]
  simp
theorem RowAt.of_block {w w' : World} {b n : Nat} {z : Nat → Int} (h : RowAt w b n z) (e : w'.heap[b]? = w.heap[b]?) : RowAt w' b n z := by
  obtain ⟨c, hc, h1⟩ := h
  exact ⟨c, by rw [e]; exact hc, h1⟩
theorem RowAt.set {w : World} {b n : Nat} {z : Nat → Int} (h : RowAt w b n z) (j : Nat) (v : Int) : RowAt (w.setCell ⟨b, j, none⟩ (.int .i64 v)) b n (Sp.upd z j v) := by
  obtain ⟨c, hc, hs, hz⟩ := h
  refine ⟨c.setIfInBounds j (.int .i64 v), ?_, by simpa using hs, fun k hk => ?_⟩
  · simp only [World.setCell, Array.getElem?_modify, if_pos, hc]
    rfl
  · rw [Array.getElem?_setIfInBounds]
    by_cases hjk : j = k
    · rw [if_pos hjk, if_pos (by omega), ← hjk, Sp.upd_same]
    · rw [if_neg hjk, hz k hk, Sp.upd_other _ _ (by omega)]
theorem RowAt.set_ne {w : World} {b n : Nat} {z : Nat → Int} (h : RowAt w b n z) {b' : Nat} (hb : b ≠ b') (j : Nat) (s : Option Nat) (v : Value) : RowAt (w.setCell ⟨b', j, s⟩ v) b n z :=
  h.of_block (Below.heap_setCell _ _ _ _ hb)
theorem RowAt.below {w w' : World} {b n : Nat} {z : Nat → Int} (h : RowAt w b n z) (hb : Below w.heap.size w w') : RowAt w' b n z := h.of_block (hb.block b h.lt)
theorem RowAt.bt {p : Nat → Prop} {w w' : World} {b n : Nat} {z : Nat → Int} (h : RowAt w b n z) (hb : Bt p w w') (hp : ¬ p b) : RowAt w' b n z := h.of_block (hb.block b h.lt hp)
theorem RowAt.alloc {w : World} {b n : Nat} {z : Nat → Int} (h : RowAt w b n z) (o : Obj) : RowAt (w.alloc o) b n z := h.below ((Below.refl _ w).alloc (Nat.le_refl _) o)
theorem RowAt.drew {w : World} {b n : Nat} {z : Nat → Int} (h : RowAt w b n z) : RowAt w.drew b n z := h.of_block rfl
theorem RowAt.dn {w : World} {b n : Nat} {z : Nat → Int} (h : RowAt w b n z) (k : Nat) : RowAt (w.drewN k) b n z := h.of_block rfl
theorem RowAt.congr {w : World} {b n : Nat} {z z' : Nat → Int} (h : RowAt w b n z) (e : ∀ j, j < n → z j = z' j) : RowAt w b n z' := by
  obtain ⟨c, hc, hs, hz⟩ := h
  exact ⟨c, hc, hs, fun j hj => by rw [← e j hj]; exact hz j hj⟩
theorem RowAt.own {w : World} {b n B : Nat} {z : Nat → Int} (h : RowAt w b n z) (hB : B ≤ b) (hn : n ≤ 1000000) : OwnI w B (.slice (some ⟨b, 0, none⟩) n n) ((List.range n).map z) := by
  obtain ⟨c, hc, hs, hz⟩ := h
  refine ⟨by simp, .inr ⟨b, n, c, by simp, hB, hc, by simp, by unfold maxLen; omega, by simp [hs], ?_⟩⟩
  apply List.ext_getElem?
  intro j
  simp only [List.length_map, List.length_range, List.getElem?_map, List.getElem?_take, Nat.mul_one]
  by_cases hj : j < n
  · rw [if_pos hj, Array.getElem?_toList, hz j hj, List.getElem?_range hj]; rfl
  · rw [if_neg hj, List.getElem?_eq_none (by simpa using hj)]; rfl
theorem RowAt.ints {w : World} {b n : Nat} {z : Nat → Int} (h : RowAt w b n z) (hn : n ≤ 1000000) : Ints w (.slice (some ⟨b, 0, none⟩) n n) ((List.range n).map z) := (h.own (Nat.zero_le _) hn).ints
theorem RowAt.of_own {w : World} {B b n : Nat} {l : List Int} (h : OwnI w B (.slice (some ⟨b, 0, none⟩) n n) l) (hl : l.length = n) : RowAt w b n (fun j => l.getD j 0) ∧ B ≤ b := by
  obtain ⟨h1, ⟨h2, -⟩ | ⟨g', cap, cur, e, hg, hh, hnc, hcm, hsz, htk⟩⟩ := h
  · cases h2
  · injection e with e1 e2 e3
    injection e1 with e1
    injection e1 with e1 _
    subst e1 e3
    refine ⟨⟨cur, hh, by omega, fun j hj => ?_⟩, hg⟩
    have e4 : cur.toList = l.map (Value.int .i64) := by
      rw [← htk, List.take_of_length_le]
      simp; omega
    show _ = some (Value.int .i64 (l.getD j 0))
    rw [← Array.getElem?_toList, e4, List.getElem?_map, List.getD_eq_getElem?_getD, List.getElem?_eq_getElem (by omega)]; rfl
theorem RowAt.of_rep {w : World} {B b n : Nat} {x : Int} (h : OwnI w B (.slice (some ⟨b, 0, none⟩) n n) (List.replicate n x)) : RowAt w b n (fun _ => x) ∧ B ≤ b := by
  obtain ⟨h1, h2⟩ := RowAt.of_own h (by simp)
  exact ⟨h1.congr fun j hj => by rw [List.getD_eq_getElem?_getD, List.getElem?_replicate, if_pos hj]; rfl, h2⟩
end Go.Proofs.Ytoegjnolccabjaa


/- rim: the arcs of a land. -/
namespace Go.Proofs.Ytoegjnolccabjaa
open Go Go.RowKit

theorem OwnA.at_ {w : World} {B n c : Nat} {a : Option Addr} {L : List Sp.Arc} (h : OwnA w B (.slice a n c) L) (hp : 0 < L.length) : ∃ g, a = some ⟨g, 0, none⟩ ∧ B ≤ g ∧ g < w.heap.size := by
  have h' := h
  obtain ⟨_, ⟨_, h2⟩ | ⟨g, cap, cur, e, hg, _⟩⟩ := h
  · omega
  · injection e with e1
    subst e1
    exact ⟨g, rfl, hg, (h'.lt g rfl).2⟩
theorem OwnA.cells {w : World} {B g c : Nat} {L : List Sp.Arc} (h : OwnA w B (.slice (some ⟨g, 0, none⟩) L.length c) L) {i : Nat} (hi : i < L.length) : w.cell? ⟨g, i * 3, none⟩ = some (.int .i64 ((L.getD i Sp.arc0).f : Int)) ∧ w.cell? ⟨g, i * 3 + 1, none⟩ = some (.int .i64 ((L.getD i Sp.arc0).t : Int)) ∧ w.cell? ⟨g, i * 3 + 2, none⟩ = some (.int .i64 (L.getD i Sp.arc0).l) := by
  have h' := h
  unfold OwnA at h'
  obtain ⟨g0, g1, g2⟩ := Sp.cells3_get L i hi
  have hc : ∀ j, j < L.length * 3 → w.cell? ⟨g, j, none⟩ = (Sp.cells3 L)[j]? := fun j hj => World.ownsRow.cellAt h' j hj
  exact ⟨(hc _ (by omega)).trans g0, (hc _ (by omega)).trans g1, (hc _ (by omega)).trans g2⟩
set_option maxRecDepth 100000 in
set_option maxHeartbeats 8000000 in
theorem rmarcs_any (F C : List Int) (fv cv : Value) (b0 : Int) (m : Nat) (w : World) (hF : Ints w fv F) (hC : Ints w cv C) (hFl : F.length = m) (hCl : C.length = m) (hev : m % 2 = 0) (hm : m ≤ 999) (hFn : ∀ d, d < m → 0 ≤ F.getD d 0) :
    Calls Try.prog 40 #[.agg #[fv, .slice none 0 0, .int .i64 b0], cv] w fun e w' => ∃ v, e = .returned v ∧ OwnA w' w.heap.size v (Sp.rimL F C m) ∧ Below w.heap.size w w' := by
  obtain ⟨fa, fc, hfe, -, -, HFa⟩ := hF.allA
  obtain ⟨ca, cc, hce, -, -, HCa⟩ := hC.allA
  rw [hFl] at hfe HFa
  rw [hCl] at hce HCa
  subst hfe hce
  have HFn := hide hFn
  have HB1 : Hid (∀ w', Below (w.heap.size + 1) (w.alloc (.cells #[.slice fa m fc, .slice none 0 0, .int .i64 b0] 54)) w' → Below w.heap.size w w' ∧ w'.cell? ⟨w.heap.size, 0, none⟩ = some (.slice fa m fc)) := hide fun w' hb => by
    have hs : (w.alloc (.cells #[.slice fa m fc, .slice none 0 0, .int .i64 b0] 54)).heap.size = w.heap.size + 1 := by simp
    exact ⟨((Below.refl _ w).alloc (Nat.le_refl _) _).trans (hb.mono (by omega)), (hb.cell (p := ⟨w.heap.size, 0, none⟩) (by show w.heap.size < _; omega)).trans (by rw [cell_of_row _ _ _ _ _ _ (heap_alloc_new w _)]; rfl)⟩
  have HS1 : Hid ((w.alloc (.cells #[.slice fa m fc, .slice none 0 0, .int .i64 b0] 54)).heap.size = w.heap.size + 1) := hide (by simp)
  obtain ⟨P, hP⟩ : ∃ P : Ending → World → Prop, P = fun e w' => ∃ v, e = .returned v ∧ OwnA w' w.heap.size v (Sp.rimL F C m) ∧ Below w.heap.size w w' := ⟨_, rfl⟩
  rw [← hP]
  have HP := hide hP
  clear hP hF hC hFl hCl hFn
  have HQ : Hid (Below (w.heap.size + 1) (w.alloc (.cells #[.slice fa m fc, .slice none 0 0, .int .i64 b0] 54)) (w.alloc (.cells #[.slice fa m fc, .slice none 0 0, .int .i64 b0] 54)) ∧ OwnA (w.alloc (.cells #[.slice fa m fc, .slice none 0 0, .int .i64 b0] 54)) (w.heap.size + 1) (.slice none 0 0) (Sp.rimL F C 0)) := hide ⟨Below.refl _ _, OwnA.nil _ _⟩
  go_enter Try.func40, Try.ntmps40
  go_wp2
  go_step3
  go_wp2
  go_step3
  go_wp2
  generalize w.alloc (.cells #[.slice fa m fc, .slice none 0 0, .int .i64 b0] 54) = W1 at *
  go_loopg [5, 14] m (fun g s5 s14 wr => ∃ d : Nat, d + g = m ∧ s14 = .int .i64 (d : Int) ∧ Hid (Below (w.heap.size + 1) W1 wr ∧ OwnA wr (w.heap.size + 1) s5 (Sp.rimL F C d)))
  case atStart => exact ⟨0, by omega, rfl, HQ⟩
  case round =>
    clear HQ
    obtain ⟨d, hdg, rfl, HI⟩ := hrel
    have HSr : Hid (w.heap.size + 1 ≤ wr.heap.size) := hide (by have := (unhide HI).1.size; have := unhide HS1; omega)
    obtain ⟨L, hLe⟩ : ∃ L, Sp.rimL F C d = L := ⟨_, rfl⟩
    have hLd : L.length ≤ d := by rw [← hLe]; exact Sp.rimL_len F C d
    have HLs0 : Hid (Sp.rimL F C (d + 1) = Sp.putA L (Sp.rimA F C d)) := hide (by rw [← hLe]; rfl)
    have hLe' := hide hLe
    rw [hLe] at HI
    clear hLe
    obtain ⟨va, vc, hve, -, -⟩ := (unhide HI).2.arcs.form
    subst hve
    cases gk with
    | succ g' =>
      have hd : d < m := by omega
      have hdI : (d : Int) < (m : Int) := by omega
      have ho := oth_lt hd hev
      have hoI : ((Sp.oth d : Nat) : Int) < (m : Int) := by omega
      have HOt := hide (fun w' => rmother_any d w' (by omega))
      obtain ⟨x, hx⟩ : ∃ x : Nat, F.getD d 0 = (x : Int) := ⟨_, (Int.toNat_of_nonneg (unhide HFn d hd)).symm⟩
      obtain ⟨y, hy⟩ : ∃ y : Nat, F.getD (Sp.oth d) 0 = (y : Int) := ⟨_, (Int.toNat_of_nonneg (unhide HFn _ ho)).symm⟩
      obtain ⟨z, hz⟩ : ∃ z, C.getD d 0 = z := ⟨_, rfl⟩
      have HLs : Hid (Sp.rimL F C (d + 1) = Sp.putA L ⟨x, y, z⟩) := hide (by rw [unhide HLs0]; unfold Sp.rimA; rw [hx, hy, hz]; rfl)
      obtain ⟨b1, o1, rfl, -, hc1⟩ := unhide HFa d hd
      obtain ⟨b2, o2, e2, -, hc2⟩ := unhide HFa _ ho
      obtain ⟨b3, o3, rfl, -, hc3⟩ := unhide HCa d hd
      injection e2 with e2
      injection e2 with q1 q2
      subst q1 q2
      rw [hx] at hc1
      rw [hy] at hc2
      rw [hz] at hc3
      have HRD : Hid (∀ w', Below wr.heap.size wr w' → w'.cell? ⟨w.heap.size, 0, none⟩ = some (.slice (some ⟨b1, o1, none⟩) m fc) ∧ w'.cell? ⟨b1, o1 + d, none⟩ = some (.int .i64 (x : Int)) ∧ w'.cell? ⟨b1, o1 + Sp.oth d, none⟩ = some (.int .i64 (y : Int)) ∧ w'.cell? ⟨b3, o3 + d, none⟩ = some (.int .i64 z)) := hide fun w' hb => by
        have h := unhide HB1 _ ((unhide HI).1.trans (hb.mono (unhide HSr)))
        exact ⟨h.2, hc1 _ h.1, hc2 _ h.1, hc3 _ h.1⟩
      obtain ⟨c0, c1, c2, c3⟩ := unhide HRD wr (Below.refl _ _)
      clear hx hy hz hc1 hc2 hc3 HLs0
      go_upto_region 5 with fail
      go_cut [8] (fun s8 wc6 => ∃ (B8 : Nat) (w6 : World), wc6 = w6 ∧ s8 = .pointer (some ⟨B8, 0, none⟩) ∧ wr.heap.size ≤ B8 ∧ Hid (Below wr.heap.size wr w6 ∧ w6.heap[B8]? = some (.cells #[.int .i64 (x : Int), .int .i64 (y : Int), .int .i64 z] 71)))
      case first =>
        have hbq := (Below.refl wr.heap.size wr).drew
        refine wp_region_G (fun w' => w'.cell? ⟨w.heap.size, 0, none⟩ = some (.slice (some ⟨b1, o1, none⟩) m fc) ∧ w'.cell? ⟨b1, o1 + d, none⟩ = some (.int .i64 (x : Int)) ∧ w'.cell? ⟨b1, o1 + Sp.oth d, none⟩ = some (.int .i64 (y : Int)) ∧ w'.cell? ⟨b3, o3 + d, none⟩ = some (.int .i64 z)) (fun _ => false) (by kernel_rfl) (unhide HRD _ hbq) (fun hHeld => ?_)
        generalize wr.drew = wq at *
        refine wpAnyG_take (v := ?_) 0 (by rfl) (by kernel_rfl) (by kernel_rfl) (by kernel_rfl) (by kernel_rfl) (fun _ _ _ h => h) (Or.inl ⟨by rfl, ?_⟩) (by assumption) ?_
        rotate_left
        · (intro w' hSw; (try dsimp only at hSw); (try simp only [List.getElem_toArray, List.getElem_cons_zero]); go_simp; try (with_reducible rfl))
        simp only [Act.put, List.getElem_toArray, List.getElem_cons_zero, List.setIfInBounds_toArray, List.set_cons_zero, List.set_cons_succ]
        refine wpAnyG_take (v := ?_) 1 (by rfl) (by kernel_rfl) (by kernel_rfl) (by kernel_rfl) (by kernel_rfl) (fun _ _ _ h => h) (Or.inl ⟨by rfl, ?_⟩) (by assumption) ?_
        rotate_left
        · (intro w' hSw; (try dsimp only at hSw); (try simp only [List.getElem_toArray, List.getElem_cons_succ, List.getElem_cons_zero]); go_simp; try (with_reducible rfl))
        simp only [Act.put, List.getElem_toArray, List.getElem_cons_succ, List.getElem_cons_zero, List.setIfInBounds_toArray, List.set_cons_zero, List.set_cons_succ]
        refine wpAnyG_take (v := ?_) 2 (by rfl) (by kernel_rfl) (by kernel_rfl) (by kernel_rfl) (by kernel_rfl) (fun _ _ _ h => h) (Or.inl ⟨by rfl, ?_⟩) (by assumption) ?_
        rotate_left
        · (intro w' hSw; (try dsimp only at hSw); (try simp only [List.getElem_toArray, List.getElem_cons_succ, List.getElem_cons_zero]); go_simp; try (with_reducible rfl))
        simp only [Act.put, List.getElem_toArray, List.getElem_cons_succ, List.getElem_cons_zero, List.setIfInBounds_toArray, List.set_cons_zero, List.set_cons_succ]
        refine wpAnyG_take (v := ?_) 3 (by rfl) (by kernel_rfl) (by kernel_rfl) (by kernel_rfl) (by kernel_rfl) (fun _ _ _ h => h) (Or.inl ⟨by rfl, ?_⟩) (by assumption) ?_
        rotate_left
        · (intro w' hSw; (try dsimp only at hSw); (try simp only [List.getElem_toArray, List.getElem_cons_succ, List.getElem_cons_zero]); go_simp; try (with_reducible rfl))
        simp only [Act.put, List.getElem_toArray, List.getElem_cons_succ, List.getElem_cons_zero, List.setIfInBounds_toArray, List.set_cons_zero, List.set_cons_succ]
        refine wpAnyG_take (v := ?_) 7 (by rfl) (by kernel_rfl) (by kernel_rfl) (by kernel_rfl) (by kernel_rfl) (fun _ _ _ h => h) (Or.inl ⟨by rfl, ?_⟩) (by assumption) ?_
        rotate_left
        · (intro w' hSw; (try dsimp only at hSw); (try simp only [List.getElem_toArray, List.getElem_cons_succ, List.getElem_cons_zero]); go_simp; try (with_reducible rfl))
        simp only [Act.put, List.getElem_toArray, List.getElem_cons_succ, List.getElem_cons_zero, List.setIfInBounds_toArray, List.set_cons_zero, List.set_cons_succ]
        refine wpAnyG_take (v := ?_) 8 (by rfl) (by kernel_rfl) (by kernel_rfl) (by kernel_rfl) (by kernel_rfl) (fun _ _ _ h => h) (Or.inl ⟨by rfl, ?_⟩) (by assumption) ?_
        rotate_left
        · (intro w' hSw; (try dsimp only at hSw); (try simp only [List.getElem_toArray, List.getElem_cons_succ, List.getElem_cons_zero]); go_simp; try (with_reducible rfl))
        simp only [Act.put, List.getElem_toArray, List.getElem_cons_succ, List.getElem_cons_zero, List.setIfInBounds_toArray, List.set_cons_zero, List.set_cons_succ]
        refine wpAnyG_take (v := ?_) 9 (by rfl) (by kernel_rfl) (by kernel_rfl) (by kernel_rfl) (by kernel_rfl) (fun _ _ _ h => h) (Or.inl ⟨by rfl, ?_⟩) (by assumption) ?_
        rotate_left
        · (intro w' hSw; (try dsimp only at hSw); (try simp only [List.getElem_toArray, List.getElem_cons_succ, List.getElem_cons_zero]); go_simp; try (with_reducible rfl))
        simp only [Act.put, List.getElem_toArray, List.getElem_cons_succ, List.getElem_cons_zero, List.setIfInBounds_toArray, List.set_cons_zero, List.set_cons_succ]
        refine wpAnyG_take (v := ?_) 10 (by rfl) (by kernel_rfl) (by kernel_rfl) (by kernel_rfl) (by kernel_rfl) (fun _ _ _ h => h) (Or.inl ⟨by rfl, ?_⟩) (by assumption) ?_
        rotate_left
        · (intro w' hSw; (try dsimp only at hSw); (try simp only [List.getElem_toArray, List.getElem_cons_succ, List.getElem_cons_zero]); go_simp; try (with_reducible rfl))
        simp only [Act.put, List.getElem_toArray, List.getElem_cons_succ, List.getElem_cons_zero, List.setIfInBounds_toArray, List.set_cons_zero, List.set_cons_succ]
        refine wpAnyG_ready [4, 12] (by kernel_rfl) (by simp) ?_
        refine AllReadyG.cons 4 (by rfl) (fun K hK => ?_) ?_
        · simp only [List.getElem_toArray, List.getElem_cons_succ, List.getElem_cons_zero]
          go_simp
          go_at_call 43
          refine (unhide HOt _).mono ?_
          rintro e wc1 ⟨rfl, hlc1⟩
          have hlc1' := hlc1.symm
          clear hlc1
          subst hlc1'
          refine hK.out _ _ (unhide HRD _ hbq) (fun _ => ?_)
          clear hK K
          try simp only [Act.put, List.setIfInBounds_toArray, List.set_cons_zero, List.set_cons_succ]
          refine wpAnyG_take (v := ?_) 5 (by rfl) (by kernel_rfl) (by kernel_rfl) (by kernel_rfl) (by kernel_rfl) (fun _ _ _ h => h) (Or.inl ⟨by rfl, ?_⟩) (by assumption) ?_
          rotate_left
          · (intro w' hSw; (try dsimp only at hSw); (try simp only [List.getElem_toArray, List.getElem_cons_succ, List.getElem_cons_zero]); go_simp; try (with_reducible rfl))
          simp only [Act.put, List.getElem_toArray, List.getElem_cons_succ, List.getElem_cons_zero, List.setIfInBounds_toArray, List.set_cons_zero, List.set_cons_succ]
          refine wpAnyG_take (v := ?_) 6 (by rfl) (by kernel_rfl) (by kernel_rfl) (by kernel_rfl) (by kernel_rfl) (fun _ _ _ h => h) (Or.inl ⟨by rfl, ?_⟩) (by assumption) ?_
          rotate_left
          · (intro w' hSw; (try dsimp only at hSw); (try simp only [List.getElem_toArray, List.getElem_cons_succ, List.getElem_cons_zero]); go_simp; try (with_reducible rfl))
          simp only [Act.put, List.getElem_toArray, List.getElem_cons_succ, List.getElem_cons_zero, List.setIfInBounds_toArray, List.set_cons_zero, List.set_cons_succ]
          refine wpAnyG_take (v := ?_) 11 (by rfl) (by kernel_rfl) (by kernel_rfl) (by kernel_rfl) (by kernel_rfl) (fun _ _ _ h => h) (Or.inl ⟨by rfl, ?_⟩) (by assumption) ?_
          rotate_left
          · (intro w' hSw; (try dsimp only at hSw); (try simp only [List.getElem_toArray, List.getElem_cons_succ, List.getElem_cons_zero]); go_simp; try (with_reducible rfl))
          simp only [Act.put, List.getElem_toArray, List.getElem_cons_succ, List.getElem_cons_zero, List.setIfInBounds_toArray, List.set_cons_zero, List.set_cons_succ]
          refine wpAnyG_ready [12] (by kernel_rfl) (by simp) ?_
          refine AllReadyG.cons 12 (by rfl) (fun K hK => ?_) ?_
          · simp only [List.getElem_toArray, List.getElem_cons_succ, List.getElem_cons_zero]
            go_simp
            have hba := Below.alloc hbq hbq.size (.cells #[.int .i64 0, .int .i64 0, .int .i64 0] 71)
            refine hK.out _ _ (unhide HRD _ hba) (fun _ => ?_)
            clear hK K
            try simp only [Act.put, List.setIfInBounds_toArray, List.set_cons_zero, List.set_cons_succ]
            refine wpAnyG_ready [13] (by kernel_rfl) (by simp) ?_
            refine AllReadyG.cons 13 (by rfl) (fun K hK => ?_) ?_
            · simp only [List.getElem_toArray, List.getElem_cons_succ, List.getElem_cons_zero]
              go_simp
              have hbs := Below.alloc hbq hbq.size (.cells #[.int .i64 (x : Int), .int .i64 (y : Int), .int .i64 z] 71)
              refine hK.out _ _ (unhide HRD _ hbs) (fun _ => ?_)
              clear hK K
              try simp only [Act.put, List.setIfInBounds_toArray, List.set_cons_zero, List.set_cons_succ]
              refine wpAnyG_done (by kernel_rfl) ?_ _
              refine NoPanic.normal ?_
              clear hHeld
              go_wp2
              go_meet
              exact ⟨_, _, rfl, rfl, hbq.size, hide ⟨hbs, heap_alloc_new _ _⟩⟩
            exact AllReadyG.nil
          exact AllReadyG.nil
        refine AllReadyG.cons 12 (by rfl) (fun K hK => ?_) ?_
        · simp only [List.getElem_toArray, List.getElem_cons_succ, List.getElem_cons_zero]
          go_simp
          have hba := Below.alloc hbq hbq.size (.cells #[.int .i64 0, .int .i64 0, .int .i64 0] 71)
          refine hK.out _ _ (unhide HRD _ hba) (fun _ => ?_)
          clear hK K
          try simp only [Act.put, List.setIfInBounds_toArray, List.set_cons_zero, List.set_cons_succ]
          refine wpAnyG_ready [4] (by kernel_rfl) (by simp) ?_
          refine AllReadyG.cons 4 (by rfl) (fun K hK => ?_) ?_
          · simp only [List.getElem_toArray, List.getElem_cons_succ, List.getElem_cons_zero]
            go_simp
            go_at_call 43
            refine (unhide HOt _).mono ?_
            rintro e wc1 ⟨rfl, hlc1⟩
            have hlc1' := hlc1.symm
            clear hlc1
            subst hlc1'
            refine hK.out _ _ (unhide HRD _ hba) (fun _ => ?_)
            clear hK K
            try simp only [Act.put, List.setIfInBounds_toArray, List.set_cons_zero, List.set_cons_succ]
            refine wpAnyG_take (v := ?_) 5 (by rfl) (by kernel_rfl) (by kernel_rfl) (by kernel_rfl) (by kernel_rfl) (fun _ _ _ h => h) (Or.inl ⟨by rfl, ?_⟩) (by assumption) ?_
            rotate_left
            · (intro w' hSw; (try dsimp only at hSw); (try simp only [List.getElem_toArray, List.getElem_cons_succ, List.getElem_cons_zero]); go_simp; try (with_reducible rfl))
            simp only [Act.put, List.getElem_toArray, List.getElem_cons_succ, List.getElem_cons_zero, List.setIfInBounds_toArray, List.set_cons_zero, List.set_cons_succ]
            refine wpAnyG_take (v := ?_) 6 (by rfl) (by kernel_rfl) (by kernel_rfl) (by kernel_rfl) (by kernel_rfl) (fun _ _ _ h => h) (Or.inl ⟨by rfl, ?_⟩) (by assumption) ?_
            rotate_left
            · (intro w' hSw; (try dsimp only at hSw); (try simp only [List.getElem_toArray, List.getElem_cons_succ, List.getElem_cons_zero]); go_simp; try (with_reducible rfl))
            simp only [Act.put, List.getElem_toArray, List.getElem_cons_succ, List.getElem_cons_zero, List.setIfInBounds_toArray, List.set_cons_zero, List.set_cons_succ]
            refine wpAnyG_take (v := ?_) 11 (by rfl) (by kernel_rfl) (by kernel_rfl) (by kernel_rfl) (by kernel_rfl) (fun _ _ _ h => h) (Or.inl ⟨by rfl, ?_⟩) (by assumption) ?_
            rotate_left
            · (intro w' hSw; (try dsimp only at hSw); (try simp only [List.getElem_toArray, List.getElem_cons_succ, List.getElem_cons_zero]); go_simp; try (with_reducible rfl))
            simp only [Act.put, List.getElem_toArray, List.getElem_cons_succ, List.getElem_cons_zero, List.setIfInBounds_toArray, List.set_cons_zero, List.set_cons_succ]
            refine wpAnyG_ready [13] (by kernel_rfl) (by simp) ?_
            refine AllReadyG.cons 13 (by rfl) (fun K hK => ?_) ?_
            · simp only [List.getElem_toArray, List.getElem_cons_succ, List.getElem_cons_zero]
              go_simp
              have hbs := Below.alloc hbq hbq.size (.cells #[.int .i64 (x : Int), .int .i64 (y : Int), .int .i64 z] 71)
              refine hK.out _ _ (unhide HRD _ hbs) (fun _ => ?_)
              clear hK K
              try simp only [Act.put, List.setIfInBounds_toArray, List.set_cons_zero, List.set_cons_succ]
              refine wpAnyG_done (by kernel_rfl) ?_ _
              refine NoPanic.normal ?_
              clear hHeld
              go_wp2
              go_meet
              exact ⟨_, _, rfl, rfl, hbq.size, hide ⟨hbs, heap_alloc_new _ _⟩⟩
            exact AllReadyG.nil
          exact AllReadyG.nil
        exact AllReadyG.nil
      case rest =>
        obtain ⟨B8, w6, hw6, h8, hB8, HA⟩ := hcut
        have hw6' := hw6.symm
        subst hw6'
        subst h8
        clear hw6
        clear c0 c1 c2 c3 HRD HOt
        have HA6 := HA
        have HO6 := hide ((unhide HI).2.below (unhide HA).1)
        have HK8 : Hid (∀ w', Below w6.heap.size w6 w' → B8 < w'.heap.size ∧ w'.cell? ⟨B8, 0, none⟩ = some (.int .i64 (x : Int)) ∧ w'.cell? ⟨B8, 1, none⟩ = some (.int .i64 (y : Int)) ∧ w'.cell? ⟨B8, 2, none⟩ = some (.int .i64 z)) := hide fun w' hb => by
          have hlt : B8 < w6.heap.size := (Array.getElem?_eq_some_iff.1 (unhide HA).2).1
          have e := hb.block B8 hlt
          rw [(unhide HA).2] at e
          refine ⟨by have := hb.size; omega, ?_, ?_, ?_⟩ <;> rw [cell_of_row _ _ _ _ _ _ e] <;> rfl
        have HN0 : Hid (∀ j, j < 0 → ¬ ((L.getD j Sp.arc0).f = x ∧ (L.getD j Sp.arc0).t = y)) := hide fun j hj => by omega
        have HBr := hide (Below.refl w6.heap.size w6)
        clear HA
        go_wp2
        go_loopg [33] L.length (fun g2 s33 wr => ∃ i : Nat, i + g2 = L.length ∧ s33 = .int .i64 (i : Int) ∧ Hid (Below w6.heap.size w6 wr) ∧ Hid (∀ j, j < i → ¬ ((L.getD j Sp.arc0).f = x ∧ (L.getD j Sp.arc0).t = y)))
        case atStart => exact ⟨0, by omega, rfl, HBr, HN0⟩
        case round =>
          clear HBr HN0
          obtain ⟨i, hig, rfl, HB, HN⟩ := hrel
          cases gk with
          | succ g2' =>
            have hi : i < L.length := by omega
            have hiI : (i : Int) < (L.length : Int) := by omega
            obtain ⟨gL, rfl, hgL, hgL2⟩ := (unhide HO6).at_ (by omega)
            obtain ⟨c0, c1, c2⟩ := ((unhide HO6).below (unhide HB)).cells hi
            obtain ⟨⟨p, q, l⟩, ha⟩ : ∃ a, L.getD i Sp.arc0 = a := ⟨_, rfl⟩
            rw [ha] at c0 c1 c2
            have HLi := hide ha
            clear ha
            go_upto_region 9 with fail
            obtain ⟨wt, hwt⟩ : ∃ wt, wr.alloc (.cells #[.int .i64 (p : Int), .int .i64 (q : Int), .int .i64 l] 71) = wt := ⟨_, rfl⟩
            rw [hwt]
            obtain ⟨k0, k1, k2⟩ := arc_new wr (.int .i64 (p : Int)) (.int .i64 (q : Int)) (.int .i64 l)
            rw [hwt] at k0 k1 k2
            have HBt := hide ((unhide HB).alloc (unhide HB).size (.cells #[.int .i64 (p : Int), .int .i64 (q : Int), .int .i64 l] 71))
            rw [hwt] at HBt
            obtain ⟨-, a0, a1, a2⟩ := unhide HK8 wt (unhide HBt)
            clear hwt c0 c1 c2
            by_cases hpx : p = x
            · have hpb : ((p : Int) == (x : Int)) = true := beq_iff_eq.2 (by rw [hpx])
              by_cases hqy : q = y
              · have hqb : ((q : Int) == (y : Int)) = true := beq_iff_eq.2 (by rw [hqy])
                have fz := fun k => ((unhide HO6).below (unhide HBt)).frozen k
                have d2 := (((unhide HO6).below (unhide HBt)).cells hi).2.2
                rw [unhide HLi] at d2
                by_cases hlz : l ≤ z
                · have hmin : min l z = l := Int.min_eq_left hlz
                  have HF : Hid (Below (w.heap.size + 1) W1 (wt.setCell ⟨gL, i * 3 + 2, none⟩ (.int .i64 (min l z))) ∧ OwnA (wt.setCell ⟨gL, i * 3 + 2, none⟩ (.int .i64 (min l z))) (w.heap.size + 1) (.slice (some ⟨gL, 0, none⟩) L.length vc) (Sp.rimL F C (d + 1))) := hide ⟨((unhide HI).1.trans ((unhide HA6).1.trans ((unhide HBt).mono (unhide HA6).1.size) |>.mono (unhide HSr))).setCell (p := ⟨gL, i * 3 + 2, none⟩) (by exact hgL) _, by
                    rw [unhide HLs, Sp.putA_at L ⟨x, y, z⟩ i hi (unhide HN) (by rw [unhide HLi]; exact ⟨hpx, hqy⟩), unhide HLi]
                    have h := ((unhide HO6).below (unhide HBt)).set rfl i (min l z)
                    rw [unhide HLi] at h
                    exact h⟩
                  rw [hmin] at HF
                  go_wp2
                  go_roundg g'
                  case rel => exact ⟨d + 1, by omega, by go_num, HF⟩
                  case measure => omega
                · have hmin : min l z = z := Int.min_eq_right (by omega)
                  have HF : Hid (Below (w.heap.size + 1) W1 (wt.setCell ⟨gL, i * 3 + 2, none⟩ (.int .i64 (min l z))) ∧ OwnA (wt.setCell ⟨gL, i * 3 + 2, none⟩ (.int .i64 (min l z))) (w.heap.size + 1) (.slice (some ⟨gL, 0, none⟩) L.length vc) (Sp.rimL F C (d + 1))) := hide ⟨((unhide HI).1.trans ((unhide HA6).1.trans ((unhide HBt).mono (unhide HA6).1.size) |>.mono (unhide HSr))).setCell (p := ⟨gL, i * 3 + 2, none⟩) (by exact hgL) _, by
                    rw [unhide HLs, Sp.putA_at L ⟨x, y, z⟩ i hi (unhide HN) (by rw [unhide HLi]; exact ⟨hpx, hqy⟩), unhide HLi]
                    have h := ((unhide HO6).below (unhide HBt)).set rfl i (min l z)
                    rw [unhide HLi] at h
                    exact h⟩
                  rw [hmin] at HF
                  go_wp2
                  go_roundg g'
                  case rel => exact ⟨d + 1, by omega, by go_num, HF⟩
                  case measure => omega
              · have hqb : ((q : Int) == (y : Int)) = false := beq_eq_false_iff_ne.2 (by omega)
                have HN2 : Hid (∀ j, j < i + 1 → ¬ ((L.getD j Sp.arc0).f = x ∧ (L.getD j Sp.arc0).t = y)) := hide fun j hj => by
                  by_cases e : j = i
                  · subst e; rw [unhide HLi]; exact fun hh => hqy hh.2
                  · exact unhide HN j (by omega)
                go_wp2
                go_roundg g2'
                case rel => exact ⟨i + 1, by omega, by go_num, HBt, HN2⟩
                case measure => omega
            · have hpb : ((p : Int) == (x : Int)) = false := beq_eq_false_iff_ne.2 (by omega)
              have HN2 : Hid (∀ j, j < i + 1 → ¬ ((L.getD j Sp.arc0).f = x ∧ (L.getD j Sp.arc0).t = y)) := hide fun j hj => by
                by_cases e : j = i
                · subst e; rw [unhide HLi]; exact fun hh => hpx hh.1
                · exact unhide HN j (by omega)
              go_wp2
              go_roundg g2'
              case rel => exact ⟨i + 1, by omega, by go_num, HBt, HN2⟩
              case measure => omega
          | zero =>
            obtain rfl : i = L.length := by omega
            have hnn : ¬ ((L.length : Nat) : Int) < (L.length : Int) := by omega
            obtain ⟨-, a0, a1, a2⟩ := unhide HK8 wr (unhide HB)
            have HO7 := hide ((unhide HO6).below (unhide HB))
            have HB7 := hide ((unhide HI).1.trans (((unhide HA6).1.trans ((unhide HB).mono (unhide HA6).1.size)).mono (unhide HSr)))
            go_wp2_with (at_builtin; refine wpList_appA (w := wr.alloc (.cells #[.int .i64 (x : Int), .int .i64 (y : Int), .int .i64 z] 71)) rfl _ _ rfl (w.heap.size + 1) _ _ L [⟨x, y, z⟩] rfl rfl ((unhide HO7).alloc _) (OwnA.arcs (own_litA _ 0 _ 1 [⟨x, y, z⟩] _ rfl rfl rfl (Nat.zero_le _) (by simp))) (L.length + 1) rfl (by omega) (by have h1 := (unhide HB7).size; have h2 := unhide HS1; simp; omega) ?_)
            intro a9 c9 w9 hown9 hg9 ho9
            have HF : Hid (Below (w.heap.size + 1) W1 w9 ∧ OwnA w9 (w.heap.size + 1) (.slice a9 (L.length + 1) c9) (Sp.rimL F C (d + 1))) := hide ⟨((unhide HB7).alloc (by have h1 := (unhide HB7).size; have h2 := unhide HS1; omega) _).grown hg9 (by have h1 := (unhide HB7).size; have h2 := unhide HS1; simp; omega) (fun g hg => ((unhide HO7).lt g hg).1), by rw [unhide HLs, Sp.putA_end L ⟨x, y, z⟩ (unhide HN)]; exact hown9⟩
            clear hown9 hg9 ho9 a0 a1 a2
            go_wp2
            go_roundg g'
            case rel => exact ⟨d + 1, by omega, by go_num, HF⟩
            case measure => omega
    | zero =>
      obtain rfl : d = m := by omega
      have hnn : ¬ (d : Int) < (d : Int) := by omega
      go_wp2
      try rw [Exit.noGoto_ret]
      rw [unhide HP]
      exact ⟨_, rfl, by rw [unhide hLe']; exact (unhide HI).2.base (by omega), (unhide HB1 _ (unhide HI).1).1⟩
end Go.Proofs.Ytoegjnolccabjaa


/- The walks of the second law's within and lay, of the second reference's Head. -/
namespace Go.Proofs.Ytoegjnolccabjaa
open Go Go.RowKit

set_option maxHeartbeats 400000 in
theorem within2_any (a n : Int) (w : World) (hn : 0 < n) (hn1 : n ≤ 4611686018427387904) :
    Calls Try.prog 23 #[.int .i64 a, .int .i64 n] w fun e w' => e = .returned (.int .i64 (a % n)) ∧ w' = w := by
  have h0 : 0 ≤ a % n := Int.emod_nonneg a (by omega)
  have h1 : a % n < n := Int.emod_lt_of_pos a hn
  rcases tmod_cases a n hn with ⟨ha, hb⟩ | ⟨ha, hb⟩
  · have hc : -n ≤ a.tmod n := by omega
    have Hb := hide hb; clear hb h0 h1
    go_enter Try.func23, Try.ntmps23
    go_wp2
    go_ret
    exact ⟨ret_int (unhide Hb), rfl⟩
  · have Hb := hide hb; clear hb h0 h1
    go_enter Try.func23, Try.ntmps23
    go_wp2
    go_ret
    exact ⟨ret_int (unhide Hb), rfl⟩
/-- A row of the caller's own, another one laid behind a dart. -/
def Sp.layIn (l : List Int) (bh d : Nat) : List Int := (l.set d (l.getD bh 0)).set bh (d : Int)
set_option maxRecDepth 100000 in
set_option maxHeartbeats 400000 in
theorem lay_any (l : List Int) (B g n c bh d : Nat) (w : World) (hO : OwnI w B (.slice (some ⟨g, 0, none⟩) n c) l) (hl : l.length = n) (_hn : n ≤ 1000) (hbh : bh < n) (hd : d < n) (hne : bh ≠ d) :
    Calls Try.prog 26 #[.slice (some ⟨g, 0, none⟩) n c, .int .i64 (bh : Int), .int .i64 (d : Int)] w fun e w' => (∃ v, e = .returned v) ∧ OwnI w' B (.slice (some ⟨g, 0, none⟩) n c) (Sp.layIn l bh d) ∧ ButRow g w w' := by
  have r1 := own_cell hO bh (by omega)
  have r2 := own_cell hO d (by omega)
  have y1 := own_frozen hO bh
  have y2 := own_frozen hO d
  have HL : Hid (Sp.layIn l bh d = (l.set d (l.getD bh 0)).set bh (d : Int)) := hide rfl
  have HG : Hid (l.getD bh 0 = l[bh]'(by omega)) := hide (Sp.getD_eq _ _ (by omega))
  generalize Sp.layIn l bh d = R at *
  have HO := hide hO
  clear hO
  generalize l[bh]'_ = z at *
  generalize l[d]'_ = z2 at *
  have hbI : (bh : Int) < n := by omega
  have hdI : (d : Int) < n := by omega
  clear hl
  go_enter Try.func26, Try.ntmps26
  go_wp2
  exact ⟨rfl, .tuple #[], by simp [results, Try.results26, go_sem], ⟨_, rfl⟩, by rw [unhide HL, unhide HG]; exact own_setCell (own_setCell (unhide HO) d z) bh d, ((ButRow.refl g w).setCell d _).setCell bh _⟩
end Go.Proofs.Ytoegjnolccabjaa


/- The walk of the reference's About at a net. -/
namespace Go.Proofs.Ytoegjnolccabjaa
open Go Go.RowKit

def sliceLen : Value → Nat
  | .slice _ n _ => n
  | _ => 0
end Go.Proofs.Ytoegjnolccabjaa


/- The walks of the second reference's About and Face, where the way comes round. -/
namespace Go.Proofs.Ytoegjnolccabjaa
open Go Go.RowKit

/-- What comes behind each dart about its face. -/
def Sp.behindL (nx : List Int) : List Int := (List.range nx.length).map fun d => nx.getD (Sp.oth d) 0
theorem Sp.behindL_len (nx : List Int) : (Sp.behindL nx).length = nx.length := by simp [Sp.behindL]
theorem Sp.behindL_get (nx : List Int) (j : Nat) (h : j < nx.length) : (Sp.behindL nx).getD j 0 = nx.getD (Sp.oth j) 0 := by
  rw [Sp.getD_eq _ _ (by rw [Sp.behindL_len]; exact h)]
  simp [Sp.behindL]
theorem Sp.behindL_bd (nx : List Int) (hev : nx.length % 2 = 0) (hx : ∀ x ∈ nx, 0 ≤ x ∧ x < nx.length) : ∀ x ∈ Sp.behindL nx, 0 ≤ x ∧ x < nx.length := by
  intro x hm
  obtain ⟨d, hd, rfl⟩ := List.mem_map.1 hm
  exact hx _ (Sp.getD_mem (oth_lt (List.mem_range.1 hd) hev))
set_option maxRecDepth 100000 in
set_option maxHeartbeats 1000000 in
theorem face2_any (q : Sp.Net) (v tv nv cv : Value) (d m : Nat) (w : World) (hv : NetI w v q tv nv cv) (hL : q.next.length ≤ 240) (hev : q.next.length % 2 = 0) (hx : ∀ x ∈ q.next, 0 ≤ x ∧ x < q.next.length) (hd : d < q.next.length) (hm1 : 1 ≤ m) (hmL : m ≤ 1000)
    (hback : Sp.nth (Sp.behindL q.next) d m = d) (hnot : ∀ i, 0 < i → i < m → Sp.nth (Sp.behindL q.next) d i ≠ d) :
    Calls Try.prog 34 #[v, .int .i64 (d : Int)] w fun e w' => ∃ lv, e = .returned lv ∧ OwnI w' w.heap.size lv (Sp.rounds (Sp.behindL q.next) d m) ∧ Below w.heap.size w w' := by
  obtain ⟨rfl, h1, h2, h3⟩ := hv
  obtain ⟨ta, tc, rfl, -, -⟩ := h1.form
  obtain ⟨na, nc, rfl, hnc, hnm, HN⟩ := h2.all
  obtain ⟨ca, cc, rfl, -, -⟩ := h3.form
  clear h1 h2 h3
  have hnth : ∀ i, 0 ≤ Sp.nth (Sp.behindL q.next) d i ∧ Sp.nth (Sp.behindL q.next) d i < q.next.length := fun i => Sp.nth_bd (Sp.behindL_len q.next) (Sp.behindL_bd q.next hev hx) (by omega) (by omega) i
  have hstep : ∀ j i : Nat, Sp.nth (Sp.behindL q.next) d i = j → (hj : j < q.next.length) → Sp.nth (Sp.behindL q.next) d (i + 1) = q.next[(Sp.oth j)]'(oth_lt hj hev) := fun j i hj hjl => by
    show (Sp.behindL q.next).getD (Sp.nth (Sp.behindL q.next) d i).toNat 0 = _
    rw [hj, Int.toNat_natCast]
    rw [Sp.behindL_get q.next j hjl, Sp.getD_eq _ _ (oth_lt hjl hev)]
  have Hbd := hide hnth
  have Hst := hide hstep
  have Hback := hide hback
  have Hnot := hide hnot
  clear hnth hstep hback hnot hx
  have HR1 : Hid (Sp.rounds (Sp.behindL q.next) d 1 = [(d : Int)]) := hide rfl
  have HBX := hide (box_new w q.n (.slice ta q.tail.length tc) (.slice na q.next.length nc) (.slice ca q.cap.length cc))
  obtain ⟨W1, hW1⟩ : ∃ W1, W1 = w.alloc (.cells #[.int .i64 q.n, .slice ta q.tail.length tc, .slice na q.next.length nc, .slice ca q.cap.length cc] 25) := ⟨_, rfl⟩
  rw [← hW1] at HBX
  have hb1 : Below w.heap.size w W1 := by rw [hW1]; exact (Below.refl _ w).alloc (Nat.le_refl _) _
  have hs1 : W1.heap.size = w.heap.size + 1 := by rw [hW1]; simp
  have HW : Hid (∀ w', Below (w.heap.size + 1) W1 w' → Below w.heap.size w w') := hide fun w' hb => hb1.trans (hb.mono (by omega))
  have hb2 : Below (w.heap.size + 1) W1 (W1.alloc (.cells #[.int .i64 (d : Int)] 3)) := (Below.refl _ _).alloc (by omega) _
  have HO2 : Hid (OwnI (W1.alloc (.cells #[.int .i64 (d : Int)] 3)) (w.heap.size + 1) (.slice (some ⟨w.heap.size + 1, 0, none⟩) 1 1) [(d : Int)]) := hide (own_lit W1 _ _ 1 [(d : Int)] hs1 rfl (by omega) (by simp))
  obtain ⟨x0, x1, x2, x3, hsz⟩ := unhide HBX _ hb2
  obtain ⟨b, o, hna, -, hcx⟩ := unhide HN (Sp.oth d) (oth_lt hd hev)
  subst hna
  have g := hcx _ (unhide HW _ hb2)
  rw [← unhide Hst d 0 rfl hd] at g
  have hdI : (d : Int) < q.next.length := by omega
  have hod := oth_lt hd hev
  have hodI : (((Sp.oth d) : Nat) : Int) < q.next.length := by omega
  have hX := xor_oth ⟨d, by omega⟩
  simp only at hX
  clear hcx
  generalize Sp.oth d = od at *
  have HB2 := hide hb2
  clear hb1 hs1 hb2  x0 x1 x3
  subst hW1
  go_enter Try.func34, Try.ntmps34
  go_wp2
  clear g x2 hod hodI hX
  generalize (w.alloc (.cells #[.int .i64 q.n, .slice ta q.tail.length tc, .slice (some ⟨b, o, none⟩) q.next.length nc, .slice ca q.cap.length cc] 25)) = W1 at *
  go_loopw [5, 6] (fun ov ev wr => ∃ (i : Nat) (oq : Value), oq = ov ∧ 1 ≤ i ∧ i ≤ m ∧ ev = .int .i64 (Sp.nth (Sp.behindL q.next) d i) ∧ OwnI wr (w.heap.size + 1) oq (Sp.rounds (Sp.behindL q.next) d i) ∧ Below (w.heap.size + 1) W1 wr) (fun ov _ _ => 1001 - sliceLen ov)
  case atStart => exact ⟨1, _, rfl, by omega, hm1, rfl, by rw [unhide HR1]; exact unhide HO2, unhide HB2⟩
  case round =>
    clear HO2 HB2
    obtain ⟨i, oq, rfl, hi1, him, rfl, hown, hb⟩ := hrel
    obtain ⟨c0, c1, c2, c3, hszr⟩ := unhide HBX _ hb
    obtain ⟨oa, oc, rfl, -, -⟩ := hown.ints.form
    have hrl := Sp.rounds_len (Sp.behindL q.next) d i
    have HO := hide hown
    rw [hrl] at HO ⊢
    clear hown hrl
    by_cases him' : i < m
    · have hne := unhide Hnot i (by omega) him'
      obtain ⟨y0, y1⟩ := unhide Hbd i
      obtain ⟨j, hj⟩ : ∃ j : Nat, Sp.nth (Sp.behindL q.next) d i = j := ⟨(Sp.nth (Sp.behindL q.next) d i).toNat, by omega⟩
      have HS : Hid (Sp.rounds (Sp.behindL q.next) d (i + 1) = Sp.rounds (Sp.behindL q.next) d i ++ [(j : Int)]) := hide (by rw [Sp.rounds_succ, hj])
      have hjl : j < q.next.length := by omega
      have HNX := hide (unhide Hst j i hj hjl)
      obtain ⟨b3, o3, e3, -, hc3⟩ := unhide HN (Sp.oth j) (oth_lt hjl hev)
      injection e3 with e3
      injection e3 with e31 e32
      subst e31 e32
      rw [hj] at hne ⊢
      have hne' : ((j : Int) == (d : Int)) = false := beq_eq_false_iff_ne.2 hne
      have hne2 : ((j : Int) != (d : Int)) = true := by simp [bne, hne']
      have hne3 : ¬ (j : Int) = (d : Int) := hne
      have hjL : (j : Int) < q.next.length := by omega
      have hoj := oth_lt hjl hev
      have hojI : (((Sp.oth j) : Nat) : Int) < q.next.length := by omega
      clear hj hne y0 y1
      have hX := xor_oth ⟨j, by omega⟩
      simp only at hX
      generalize q.next[(Sp.oth j)]'_ = z at *
      generalize Sp.oth j = oj at *
      go_wp2_with (at_builtin; refine wpList_app (w := wr.alloc (.cells #[.int .i64 (j : Int)] 3)) rfl _ _ rfl (w.heap.size + 1) _ _ (Sp.rounds (Sp.behindL q.next) d i) [(j : Int)] rfl rfl (World.ownsRow.alloc (unhide HO) _) (OwnI.ints (own_lit wr 0 _ 1 [(j : Int)] rfl rfl (by omega) (by simp))) (i + 1) (by rw [Sp.rounds_len]; rfl) (by omega) (by simp; omega) ?_)
      intro a6 c6 w6 hown6 hb6 hgr6
      have hb6' : Below (w.heap.size + 1) W1 w6 := (hb.alloc hszr _).trans hb6
      have HO6 := hide hown6
      clear hgr6 hb6 c0 c1 c2 c3 hown6 HO
      obtain ⟨c0, c1, c2, c3, hszr6⟩ := unhide HBX _ hb6'
      have g3 := hc3 _ (unhide HW _ hb6')
      clear hc3
      go_wp2
      go_roundw
      case rel => exact ⟨i + 1, _, rfl, by omega, by omega, by rw [unhide HNX], by rw [unhide HS]; exact unhide HO6, hb6'⟩
      case measure => simp [sliceLen]; omega
    · obtain rfl : i = m := by omega
      rw [unhide Hback]
      have hkk : ((d : Int) == (d : Int)) = true := beq_self_eq_true _
      go_wp2
      go_ret
      exact ⟨_, rfl, own_base (unhide HO) (by omega), unhide HW _ hb⟩
end Go.Proofs.Ytoegjnolccabjaa


/- The walk of package rot: rounds. -/
namespace Go.Proofs.Ytoegjnolccabjaa
open Go Go.RowKit

/-- One round, from d on: what was met, and the round's darts behind it, where it comes back to its least. -/
def Sp.walkR (st : List Int) (least : Int) : Nat → Int → List Int → Option (List Int)
  | 0, _, _ => none
  | f + 1, d, row => if d ∈ row then (if d = least then some row else none) else Sp.walkR st least f (st.getD d.toNat 0) (row ++ [d])
/-- All rounds, as the row of their darts and the ends of each. -/
def Sp.rgo (st : List Int) : Nat → Nat → List Int → List (Nat × Nat) → Option (List Int × List (Nat × Nat))
  | 0, _, row, ps => some (row, ps)
  | f + 1, k, row, ps => if (k : Int) ∈ row then Sp.rgo st f (k + 1) row ps else
      match Sp.walkR st k (st.length + 1 - row.length) k row with
      | some row' => Sp.rgo st f (k + 1) row' (ps ++ [(row.length, row'.length)])
      | none => none
def Sp.rnds (st : List Int) : Option (List Int × List (Nat × Nat)) := Sp.rgo st st.length 0 [] []
def Sp.metL (n : Nat) (row : List Int) : List Bool := (List.range n).map fun (d : Nat) => decide ((d : Int) ∈ row)
theorem Sp.metL_len (n : Nat) (row : List Int) : (Sp.metL n row).length = n := by simp [Sp.metL]
theorem Sp.metL_get (n : Nat) (row : List Int) (d : Nat) (h : d < (Sp.metL n row).length) : (Sp.metL n row)[d] = decide ((d : Int) ∈ row) := by simp [Sp.metL]
theorem Sp.metL_set (n : Nat) (row : List Int) (d : Nat) : (Sp.metL n row).set d true = Sp.metL n (row ++ [(d : Int)]) := by
  apply List.ext_getElem
  · simp [Sp.metL]
  · intro i h1 h2
    rw [List.getElem_set, Sp.metL_get n (row ++ [(d : Int)]) i h2]
    split
    · rename_i h; subst h; simp
    · rename_i h
      rw [Sp.metL_get]
      have : ¬ ((i : Int) = (d : Int)) := by omega
      simp [this]
theorem Sp.metL_nil (n : Nat) : Sp.metL n [] = List.replicate n false := by
  apply List.ext_getElem
  · simp [Sp.metL]
  · intro i h1 h2; simp [Sp.metL]
/-- A row of numbers below n, each once, is no longer than n. -/
theorem nodup_le : ∀ (n : Nat) (l : List Int), l.Nodup → (∀ x ∈ l, 0 ≤ x ∧ x < (n : Int)) → l.length ≤ n
  | 0, l, _, h => by
    cases l with
    | nil => simp
    | cons x r => have := h x (by simp); omega
  | n + 1, l, hd, h => by
    have h1 : (l.erase (n : Int)).length ≤ n := nodup_le n _ (hd.erase _) fun x hx => by
      have h2 := (List.Nodup.mem_erase_iff hd).1 hx
      have h3 := h x h2.2
      have h4 := h2.1
      omega
    have h2 := List.length_erase (a := (n : Int)) (l := l)
    split at h2 <;> omega

theorem infoL : (Try.prog.info? 22).map (fun i => (i.zero, i.size, i.bytes)) = some (some (.slice none 0 0), 1, 24) := by kernel_rfl
theorem infoB : (Try.prog.info? 4).map (fun i => (i.zero, i.size, i.bytes)) = some (some (.bool false), 1, 1) := by kernel_rfl
abbrev OwnB (w : World) (base : Nat) (v : Value) (l : List Bool) : Prop := w.ownsRow base 4 1 v l.length (l.map Value.bool)
def pieceV (g : Nat) (p : Nat × Nat) : Value := .slice (some ⟨g, p.1, none⟩) (p.2 - p.1) (p.2 - p.1)
theorem owns_base {w : World} {base base' : Nat} {e : TypeId} {size : Nat} {v : Value} {n : Nat} {xs : List Value} (h : w.ownsRow base e size v n xs) (hb : base' ≤ base) : w.ownsRow base' e size v n xs := by
  obtain ⟨h1, h2 | ⟨g, cap, cur, e, hg, r⟩⟩ := h
  · exact ⟨h1, .inl h2⟩
  · exact ⟨h1, .inr ⟨g, cap, cur, e, Nat.le_trans hb hg, r⟩⟩
/-- What rounds leaves. -/
def RoundsPost (st : List Int) (w : World) (e : Ending) (w' : World) : Prop :=
  Below w.heap.size w w' ∧ (∀ row ps, Sp.rnds st = some (row, ps) → ∃ lv, e = .returned (.tuple #[lv, .bool true]) ∧ OwnI w' w.heap.size (.slice (some ⟨w.heap.size, 0, none⟩) row.length st.length) row ∧ w'.ownsRow w.heap.size 22 1 lv ps.length (ps.map (pieceV w.heap.size)))
    ∧ (Sp.rnds st = none → e = .returned (.tuple #[.slice none 0 0, .bool false]))
/-- The three rows that rounds keeps. -/
structure RKeep (B M n : Nat) (W wr : World) (row : List Int) (ps : List (Nat × Nat)) (lq : Value) : Prop where
  rw1 : OwnI wr B (.slice (some ⟨B, 0, none⟩) row.length n) row
  met : OwnB wr B (.slice (some ⟨M, 0, none⟩) n n) (Sp.metL n row)
  ls : wr.ownsRow (M + 1) 22 1 lq ps.length (ps.map (pieceV B))
  bel : Below B W wr
  big : M < wr.heap.size
  lt : B < M
structure RFit (n : Nat) (row : List Int) : Prop where
  nd : row.Nodup
  bd : ∀ x ∈ row, 0 ≤ x ∧ x < (n : Int)
theorem RFit.le {n : Nat} {row : List Int} (h : RFit n row) : row.length ≤ n := nodup_le n row h.nd h.bd
theorem RFit.snoc {n : Nat} {row : List Int} (h : RFit n row) (d : Nat) (hd : d < n) (hn : ¬ (d : Int) ∈ row) : RFit n (row ++ [(d : Int)]) := by
  refine ⟨?_, ?_⟩
  · rw [List.nodup_append]
    refine ⟨h.nd, by simp, ?_⟩
    intro a ha b hb
    rw [List.mem_singleton] at hb
    subst hb
    intro e; subst e; exact hn ha
  · intro x hx
    rcases List.mem_append.1 hx with hx | hx
    · exact h.bd x hx
    · rw [List.mem_singleton] at hx; subst hx; omega
theorem RKeep.metCell {B M n : Nat} {W wr : World} {row : List Int} {ps : List (Nat × Nat)} {lq : Value} (h : RKeep B M n W wr row ps lq) (d : Nat) (hd : d < n) : wr.cell? ⟨M, d, none⟩ = some (.bool (decide ((d : Int) ∈ row))) := by
  have h1 := h.met
  unfold OwnB at h1
  rw [Sp.metL_len] at h1
  rw [World.ownsRow.cellAt h1 d (by omega)]
  rw [List.getElem?_eq_getElem (by simp [Sp.metL_len]; exact hd)]
  simp [Sp.metL]
theorem RKeep.metOpen {B M n : Nat} {W wr : World} {row : List Int} {ps : List (Nat × Nat)} {lq : Value} (h : RKeep B M n W wr row ps lq) (d : Nat) : wr.frozen? ⟨M, d, none⟩ = false := by
  have h1 := h.met
  unfold OwnB at h1
  rw [Sp.metL_len] at h1
  exact World.ownsRow.frozenAt h1 d
theorem made_bools' (n : Nat) : (madeCells #[Value.bool false] n).toList = (List.replicate n false).map Value.bool := by
  rw [toList_madeCells_one]
  simp
/-- A dart met: its mark is set, then it is laid behind the row. -/
theorem RKeep.push {B M n : Nat} {W wr : World} {row : List Int} {ps : List (Nat × Nat)} {lq : Value} (h : RKeep B M n W wr row ps lq) (d : Nat) (ob : Obj) (w6 : World) (hgr : ((wr.setCell ⟨M, d, none⟩ (.bool true)).alloc ob).grownBy w6 (some B))
    (hrow : w6.ownsRow B 3 1 (.slice (some ⟨B, 0, none⟩) (row.length + 1) n) (row.length + 1) (row.map (Value.int .i64) ++ [.int .i64 (d : Int)])) : RKeep B M n W w6 (row ++ [(d : Int)]) ps lq := by
  have hlt := h.lt
  have hbig := h.big
  have hm := h.met
  unfold OwnB at hm
  rw [Sp.metL_len] at hm
  obtain ⟨hm2, hg2⟩ := World.ownsRow.stored hm d (.bool true)
  have hls : (wr.setCell ⟨M, d, none⟩ (.bool true)).ownsRow (M + 1) 22 1 lq ps.length (ps.map (pieceV B)) := h.ls.kept hg2 (by
    cases hq : lq.ownBlock with
    | none => exact .inl rfl
    | some q => exact .inr (by have := (h.ls.lt q hq).1; simp; omega))
  have hsz : (wr.setCell ⟨M, d, none⟩ (.bool true)).heap.size = wr.heap.size := by simp
  refine ⟨?_, ?_, ?_, ?_, ?_, hlt⟩
  · show w6.ownsRow B 3 1 (.slice (some ⟨B, 0, none⟩) (row ++ [(d : Int)]).length n) (row ++ [(d : Int)]).length ((row ++ [(d : Int)]).map (Value.int .i64))
    simpa using hrow
  · have h3 := (hm2.alloc ob).kept hgr (.inr (by simp [Value.ownBlock]; omega))
    show w6.ownsRow B 4 1 _ (Sp.metL n (row ++ [(d : Int)])).length ((Sp.metL n (row ++ [(d : Int)])).map Value.bool)
    rw [Sp.metL_len, ← Sp.metL_set, List.map_set]
    exact h3
  · refine (hls.alloc ob).kept hgr ?_
    cases hq : lq.ownBlock with
    | none => exact .inl rfl
    | some q => exact .inr (by have := (h.ls.lt q hq).1; simp; omega)
  · exact ((h.bel.grown hg2 (by omega) (by simp; omega)).alloc (by rw [hsz]; omega) ob).grown hgr (by simp; omega) (by simp)
  · have := hgr.size
    simp at this
    omega
/-- A round laid behind the others. -/
theorem RKeep.round {B M n : Nat} {W wr : World} {row : List Int} {ps : List (Nat × Nat)} {lq lv : Value} (h : RKeep B M n W wr row ps lq) (b : Nat) (ob : Obj) (w6 : World) (hgr : (wr.alloc ob).grownBy w6 lq.ownBlock)
    (hls : w6.ownsRow (M + 1) 22 1 lv (ps.length + 1) (ps.map (pieceV B) ++ [pieceV B (b, row.length)])) : RKeep B M n W w6 row (ps ++ [(b, row.length)]) lv := by
  have hlt := h.lt
  have hbig := h.big
  have hfar : ∀ x, x ≤ M → some x ≠ lq.ownBlock := fun x hx e => by
    have := (h.ls.lt x e.symm).1
    omega
  refine ⟨?_, ?_, ?_, ?_, ?_, hlt⟩
  · exact (World.ownsRow.alloc h.rw1 ob).kept hgr (.inr (hfar B (by omega)))
  · exact (World.ownsRow.alloc h.met ob).kept hgr (.inr (hfar M (by omega)))
  · simpa using hls
  · exact (h.bel.alloc (by omega) ob).grown hgr (by simp; omega) fun k hk => by have := (h.ls.lt k hk).1; omega
  · have := hgr.size
    simp at this
    omega
end Go.Proofs.Ytoegjnolccabjaa


