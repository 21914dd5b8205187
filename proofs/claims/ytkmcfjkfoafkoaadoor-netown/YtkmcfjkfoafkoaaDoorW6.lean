/- The walks of net.countOf and of the draft's head. -/
import Derived.Test.YtkmcfjkfoafkoaaDoorW5
import Derived.Deep.AppendLies
namespace Go.Proofs.YtkmcfjkfoafkoaaDoor
open Go.RowKit

set_option maxRecDepth 100000 in
set_option maxHeartbeats 1000000 in
theorem countOf_any (L : List Int) (v : Value) (x : Int) (w : World) (hv : Ints w v L) (hn : L.length ≤ 1000000) :
    Calls Tryd.prog 48 #[v, .int .i64 x] w fun e w' => e = .returned (.int .i64 (Sp.countOf L x)) ∧ w' = w := by
  obtain ⟨a, c, rfl, hc, hm, hcell⟩ := hv
  have Hc := hide hcell; clear hcell
  go_enter Tryd.func48, Tryd.ntmps48
  go_wp2
  go_loop [5, 10] (fun n i => ∃ k : Nat, k ≤ L.length ∧ i = .int .i64 k ∧ n = .int .i64 (Sp.countOf (L.take k) x)) (fun _ i => L.length - (intOf i).toNat)
  case atStart => exact ⟨0, Nat.zero_le _, rfl, rfl⟩
  case round =>
    obtain ⟨k, hk, rfl, rfl⟩ := hrel
    have hbd := Sp.countOf_bd (L.take k) x
    rw [List.length_take] at hbd
    by_cases hlt : k < L.length
    · obtain ⟨b, o, rfl, _, hcx⟩ := unhide Hc k hlt
      have Ht := hide (Sp.countOf_snoc L k hlt x)
      have hbd' : Sp.countOf (L.take k) x ≤ 1000000 := by omega
      have hbd0 := hbd.1
      clear hbd
      generalize L[k] = y at *
      generalize Sp.countOf (L.take k) x = m at *
      by_cases hy : y = x
      · have hy' : (y == x) = true := beq_iff_eq.2 hy
        have Hy := hide hy; clear hy
        go_wp2
        go_round
        case rel => exact ⟨k + 1, by omega, by go_num, by rw [unhide Ht, if_pos (unhide Hy)]⟩
        case measure => simp [intOf]; omega
      · have hy' : (y == x) = false := beq_eq_false_iff_ne.2 hy
        have Hy := hide hy; clear hy
        go_wp2
        go_round
        case rel => exact ⟨k + 1, by omega, by go_num, by rw [unhide Ht, if_neg (unhide Hy), Int.add_zero]⟩
        case measure => simp [intOf]; omega
    · rw [List.take_of_length_le (by omega)] at *
      go_wp2
      go_ret
      exact ⟨rfl, rfl⟩

/-- A draft in a block of its own (p): its net, the lists in slices of the call's own (from base on), apart from one another. -/
structure DraftAt (w : World) (p base : Nat) (q : Sp.Net) (tv nv cv : Value) : Prop where
  lt : p < base
  le : base ≤ w.heap.size
  obj : w.heap[p]? = some (.cells #[.int .i64 q.n, tv, nv, cv] 64 (0, 0))
  tail : OwnI w base tv q.tail
  next : OwnI w base nv q.next
  cap : OwnI w base cv q.cap
  tn : tv.ownBlock = none ∨ tv.ownBlock ≠ nv.ownBlock
  tc : tv.ownBlock = none ∨ tv.ownBlock ≠ cv.ownBlock
  nc : nv.ownBlock = none ∨ nv.ownBlock ≠ cv.ownBlock
theorem DraftAt.below {w w' : World} {p base : Nat} {q : Sp.Net} {tv nv cv : Value} (h : DraftAt w p base q tv nv cv) (hb : Below w.heap.size w w') : DraftAt w' p base q tv nv cv :=
  ⟨h.lt, Nat.le_trans h.le hb.size, (hb.block p (heap_lt h.obj)).trans h.obj, own_below h.tail hb, own_below h.next hb, own_below h.cap hb, h.tn, h.tc, h.nc⟩
theorem DraftAt.cells {w : World} {p base : Nat} {q : Sp.Net} {tv nv cv : Value} (h : DraftAt w p base q tv nv cv) :
    w.cell? ⟨p, 0, none⟩ = some (.int .i64 q.n) ∧ w.cell? ⟨p, 1, none⟩ = some tv ∧ w.cell? ⟨p, 2, none⟩ = some nv ∧ w.cell? ⟨p, 3, none⟩ = some cv ∧
      w.frozen? ⟨p, 0, none⟩ = false ∧ w.frozen? ⟨p, 1, none⟩ = false ∧ w.frozen? ⟨p, 2, none⟩ = false ∧ w.frozen? ⟨p, 3, none⟩ = false := by
  have := h.obj
  simp [World.cell?, World.frozen?, this]
/-- Below base all but block p is as it was. -/
structure Keep (p base : Nat) (w w' : World) : Prop where
  os : w'.os = w.os
  tape : w'.tape = w.tape
  output : w'.output = w.output
  size : w.heap.size ≤ w'.heap.size
  block : ∀ k, k < base → k ≠ p → w'.heap[k]? = w.heap[k]?
theorem Keep.refl (p base : Nat) (w : World) : Keep p base w w := ⟨rfl, rfl, rfl, Nat.le_refl _, fun _ _ _ => rfl⟩
theorem Keep.trans {p base : Nat} {a b c : World} (h : Keep p base a b) (k : Keep p base b c) : Keep p base a c :=
  ⟨k.os.trans h.os, k.tape.trans h.tape, k.output.trans h.output, Nat.le_trans h.size k.size, fun j hj hp => (k.block j hj hp).trans (h.block j hj hp)⟩
theorem Keep.of {p base : Nat} {a b : World} (h : Below base a b) : Keep p base a b := ⟨h.os, h.tape, h.output, h.size, fun k hk _ => h.block k hk⟩
theorem Keep.below {p base : Nat} {a b : World} (h : Keep p base a b) (hp : p ≤ base) : Below p a b := ⟨h.os, h.tape, h.output, h.size, fun k hk => h.block k (by omega) (by omega)⟩
theorem Keep.alloc {p base : Nat} {a w : World} (h : Keep p base a w) (hB : base ≤ w.heap.size) (o : Obj) : Keep p base a (w.alloc o) :=
  h.trans (.of ((Below.refl base w).alloc hB o))
theorem Keep.drew {p base : Nat} {a w : World} (h : Keep p base a w) : Keep p base a w.drew := h.trans (.of (Below.refl base w).drew)
theorem Keep.setCell {p base : Nat} {a w : World} (h : Keep p base a w) {q : Addr} (hq : q.block = p ∨ base ≤ q.block) (u : Value) : Keep p base a (w.setCell q u) :=
  h.trans ⟨rfl, rfl, rfl, by simp, fun k hk hp => Below.heap_setCell w q u k (by rcases hq with hq | hq <;> omega)⟩
theorem Keep.grown {p base : Nat} {a w w' : World} {row : Option Nat} (h : Keep p base a w) (hg : w.grownBy w' row) (hB : base ≤ w.heap.size) (hr : ∀ k, row = some k → base ≤ k) : Keep p base a w' :=
  h.trans (.of ((Below.refl base w).grown hg hB hr))

theorem own_store {w : World} {p base : Nat} {v : Value} {l : List Int} (h : OwnI w base v l) (hp : p < base) (i : Nat) (u : Value) : OwnI (w.setCell ⟨p, i, none⟩ u) base v l := ownsRow_setCell_below h (a := ⟨p, i, none⟩) hp u
theorem DraftAt.setN {w : World} {p base : Nat} {q : Sp.Net} {tv nv cv : Value} (h : DraftAt w p base q tv nv cv) (y : Int) : DraftAt (w.setCell ⟨p, 0, none⟩ (.int .i64 y)) p base { q with n := y } tv nv cv :=
  ⟨h.lt, by simpa using h.le, by rw [heap_setCell_same w p 0 _ _ _ h.obj]; rfl, own_store h.tail h.lt _ _, own_store h.next h.lt _ _, own_store h.cap h.lt _ _, h.tn, h.tc, h.nc⟩
theorem DraftAt.alloc {w : World} {p base : Nat} {q : Sp.Net} {tv nv cv : Value} (h : DraftAt w p base q tv nv cv) (o : Obj) : DraftAt (w.alloc o) p base q tv nv cv := h.below ((Below.refl _ w).alloc (Nat.le_refl _) o)
theorem DraftAt.drew {w : World} {p base : Nat} {q : Sp.Net} {tv nv cv : Value} (h : DraftAt w p base q tv nv cv) : DraftAt w.drew p base q tv nv cv := ⟨h.lt, h.le, h.obj, h.tail, h.next, h.cap, h.tn, h.tc, h.nc⟩

set_option maxRecDepth 100000 in
set_option maxHeartbeats 1000000 in
theorem head_any (q : Sp.Net) (p base : Nat) (tv nv cv x : Value) (s : ByteArray) (N : List Int) (w : World) (hd : DraftAt w p base q tv nv cv) (hN : Ints w x N) (_hn : N.length ≤ 1000001) :
    Calls Tryd.prog 33 #[.pointer (some ⟨p, 0, none⟩), .agg #[.string s, x]] w fun e w' => e = .returned (.int .i64 (Sp.headE (s.data.toList, N))) ∧ Keep p base w w' ∧ (Sp.headE (s.data.toList, N) = 0 → DraftAt w' p base (Sp.head q (s.data.toList, N)) tv nv cv) := by
  obtain ⟨a, c, rfl, hc, hm, hcell⟩ := hN
  have Hd := hide hd
  have hle := hd.le
  have hlt := hd.lt
  obtain ⟨c0, c1, c2, c3, f0, f1, f2, f3⟩ := hd.cells
  clear hd
  by_cases h1 : s.data.toList ≠ Sp.wNet ∨ N.length ≠ 1
  · have HE : Hid (Sp.headE (s.data.toList, N) = 1) := hide (by unfold Sp.headE; rw [if_pos h1])
    generalize Sp.headE (s.data.toList, N) = E at *
    clear hcell
    have h1' : (s.toList == [110, 101, 116]) = false ∨ ((s.toList == [110, 101, 116]) = true ∧ ((N.length : Int) == 1) = false) := by
      rw [Lib.toList_data]
      by_cases h2 : s.data.toList = [110, 101, 116]
      · refine .inr ⟨beq_iff_eq.2 h2, beq_eq_false_iff_ne.2 ?_⟩
        rcases h1 with h | h
        · exact absurd h2 h
        · omega
      · exact .inl (beq_eq_false_iff_ne.2 h2)
    clear h1
    rcases h1' with h1 | ⟨h1, h2⟩
    all_goals
      go_enter Tryd.func33, Tryd.ntmps33
      go_wp2
      go_ret
      refine ⟨by rw [unhide HE]; rfl, (Keep.refl _ _ _).alloc hle _, fun h => ?_⟩
      rw [unhide HE] at h; cases h
  · obtain ⟨h2, h3⟩ : s.data.toList = Sp.wNet ∧ N.length = 1 := by
      constructor
      · exact Classical.byContradiction fun h => h1 (.inl h)
      · exact Classical.byContradiction fun h => h1 (.inr h)
    obtain ⟨b, o, rfl, hbl, hcx⟩ := hcell 0 (by omega)
    obtain ⟨y, rfl⟩ : ∃ y, N = [y] := List.length_eq_one_iff.1 h3
    have h2' : (s.toList == [110, 101, 116]) = true := by rw [Lib.toList_data]; exact beq_iff_eq.2 h2
    have HE : Hid (Sp.headE (s.data.toList, [y]) = if 60 < y then 2 else 0) := hide (by unfold Sp.headE; rw [if_neg h1]; rfl)
    have HH : Hid (Sp.head q (s.data.toList, [y]) = { q with n := y }) := hide rfl
    generalize Sp.headE (s.data.toList, [y]) = E at *
    generalize Sp.head q (s.data.toList, [y]) = q' at *
    have hcx' : (w.alloc (.cells #[.string s, .slice (some ⟨b, o, none⟩) 1 c] 69)).cell? ⟨b, o, none⟩ = some (.int .i64 y) := (((Below.refl _ w).alloc (Nat.le_refl _) _).cell (by exact hbl)).trans (by simpa using hcx)
    clear h1 h2 h3 hcell hcx
    by_cases hy : 60 < y
    · rw [if_pos hy] at HE
      go_enter Tryd.func33, Tryd.ntmps33
      go_wp2
      go_ret
      refine ⟨by rw [unhide HE]; rfl, (Keep.refl _ _ _).alloc hle _, fun h => ?_⟩
      rw [unhide HE] at h; cases h
    · rw [if_neg hy] at HE
      have hps : p < w.heap.size := by omega
      have cA : ∀ o, (w.alloc o).cell? ⟨p, 0, none⟩ = some (.int .i64 q.n) := fun o => (((Below.refl _ w).alloc (Nat.le_refl _) o).cell (by exact hps)).trans c0
      have fA : ∀ o, (w.alloc o).frozen? ⟨p, 0, none⟩ = false := fun o => (((Below.refl _ w).alloc (Nat.le_refl _) o).frozen (by exact hps)).trans f0
      go_enter Tryd.func33, Tryd.ntmps33
      go_wp2
      go_ret
      refine ⟨by rw [unhide HE]; rfl, ((Keep.refl _ _ _).setCell (q := ⟨p, 0, none⟩) (.inl rfl) _).alloc (by simpa using hle) _, fun _ => ?_⟩
      rw [unhide HH]
      exact ((unhide Hd).setN y).alloc _
end Go.Proofs.YtkmcfjkfoafkoaaDoor
