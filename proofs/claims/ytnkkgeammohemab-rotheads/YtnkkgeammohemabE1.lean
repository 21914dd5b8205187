/- append of a row of ints, whatever it is (nil, empty, anywhere), onto a row of the call's own. -/
import Derived.Maps.AppendAt
import Derived.Laws.OwnMore
import Derived.Deep.RegionHeld3
import Derived.Deep.DeepCutAuto
import Derived.Test.YtnkkgeammohemabT8
namespace Go.Proofs.Ytnkkgeammohemab
open Go Go.RowKit

set_option maxRecDepth 100000 in
theorem run_app {w : World} {B : Nat} {v x : Value} {l1 l2 : List Int} (ty : TypeId) (hown : OwnI w B v l1) (hx : Ints w x l2) (n : Nat) (hn : l1.length + l2.length = n) (hlen : n ≤ 1000000) (hB : B ≤ w.heap.size) :
    ∃ a' c' w', (Builtin.append_ #[23, 23] ty #[v, x]).run Try.prog w = .ok (.slice a' n c') w' ∧ OwnI w' B (.slice a' n c') (l1 ++ l2) ∧ Below B w w' ∧ w.grownBy w' v.ownBlock := by
  subst hn
  obtain ⟨i0, hi, hz0, hz1, hz2⟩ := info_parts info3
  have fin : ∀ v' w', OwnI w' B v' (l1 ++ l2) → ∃ a' c', v' = .slice a' (l1.length + l2.length) c' := fun v' w' h => by
    obtain ⟨a, c, e, _⟩ := h.ints
    exact ⟨a, c, by rw [e]; simp⟩
  obtain ⟨a, c, rfl, hc, hm, hcell⟩ := hx
  cases a with
  | none =>
    have hl2 : l2 = [] := by
      cases l2 with
      | nil => rfl
      | cons y r => obtain ⟨b, o, h, _⟩ := hcell 0 (by simp); cases h
    subst hl2
    have hr : (Builtin.append_ #[23, 23] ty #[v, .slice none 0 c]).run Try.prog w = .ok v w := by
      rcases hown.2 with ⟨rfl, h⟩ | ⟨g, cap, cur, rfl, _, _, hnc, _⟩
      · simp [Builtin.append_, run_underlying Try.underlying23, sizeOf, typeInfo, hi, Builtin.lenOf, Builtin.firstCells]
      · simp [Builtin.append_, run_underlying Try.underlying23, sizeOf, typeInfo, hi, Builtin.lenOf, Builtin.firstCells, hnc, storeCells]
    have h2 : OwnI w B v (l1 ++ []) := by simpa using hown
    obtain ⟨a', c', rfl⟩ := fin v w h2
    exact ⟨a', c', w, hr, h2, Below.refl _ _, ⟨rfl, rfl, rfl, Nat.le_refl _, fun _ _ _ => rfl⟩⟩
  | some ad =>
    obtain ⟨v', w', h1, h2, h3, h4, h5⟩ := run_append_own_at (P := Try.prog) w B 23 ty 3 i0 (.int .i64 0) 1 8 Try.underlying23 hi hz0 hz1 hz2 rfl (by decide) v l1.length (l1.map (Value.int .i64)) hown ad l2.length c (l2.map (Value.int .i64)) (by simp)
      (fun j u hj => by
        rw [List.getElem?_map, Option.map_eq_some_iff] at hj
        obtain ⟨y, hy, rfl⟩ := hj
        obtain ⟨hjl, rfl⟩ := List.getElem?_eq_some_iff.1 hy
        obtain ⟨b, o, e, _, hcl⟩ := hcell j hjl
        injection e with e
        subst e
        have e2 : (⟨b, o, none⟩ : Addr).add j = ⟨b, o + j, none⟩ := by unfold Addr.add; split <;> simp_all
        rw [e2]; exact hcl)
      (fun u hu => by obtain ⟨y, _, rfl⟩ := List.mem_map.1 hu; rfl) (by unfold maxLen; omega) (by omega) hB
    have h2' : OwnI w' B v' (l1 ++ l2) := by unfold OwnI; simpa using h2
    obtain ⟨a', c', rfl⟩ := fin v' w' h2'
    exact ⟨a', c', w', h1, h2', (Below.refl B w).grown h3 hB fun k hk => (hown.lt k hk).1, h3⟩

theorem wp_app {w : World} {o : Oper} {a : Act} {K : Act → World → Prop} {Q : Exit → Act → World → Prop} (s x : Operand)
    (ho : o.op = .call { callee := .builtin .append, args := #[s, x], argTypes := #[23, 23] })
    (B : Nat) (v xv : Value) (l1 l2 : List Int) (hs : a.eval s = v) (hx' : a.eval x = xv) (hown : OwnI w B v l1) (hx : Ints w xv l2) (n : Nat) (hn : l1.length + l2.length = n) (hlen : n ≤ 1000000) (hB : B ≤ w.heap.size)
    (h : ∀ a' c' w', OwnI w' B (.slice a' n c') (l1 ++ l2) → Below B w w' → w.grownBy w' v.ownBlock → K (a.put o.dst (.slice a' n c')) w') : o.wp Try.prog a w K Q := by
  obtain ⟨a', c', w', hr, h2, h3, h4⟩ := run_app o.type hown hx n hn hlen hB
  unfold Oper.wp execOp
  simp only [ho, resolve, invoke, builtin, Sem.run_bind, Sem.run_pure, Result.andThen_ok, List.map_toArray, List.map_cons, List.map_nil, hs, hx', hr]
  exact h a' c' w' h2 h3 h4
theorem wpList_app {w : World} {ops : Array Oper} {rest : List Oper} {o : Oper} {a : Act} {Q : Exit → Act → World → Prop} (hgd : o.guard = none) (s x : Operand)
    (ho : o.op = .call { callee := .builtin .append, args := #[s, x], argTypes := #[23, 23] })
    (B : Nat) (v xv : Value) (l1 l2 : List Int) (hs : a.eval s = v) (hx' : a.eval x = xv) (hown : OwnI w B v l1) (hx : Ints w xv l2) (n : Nat) (hn : l1.length + l2.length = n) (hlen : n ≤ 1000000) (hB : B ≤ w.heap.size)
    (h : ∀ a' c' w', OwnI w' B (.slice a' n c') (l1 ++ l2) → Below B w w' → w.grownBy w' v.ownBlock → wpList Try.prog ops Q rest (a.put o.dst (.slice a' n c')) w') : wpList Try.prog ops Q (o :: rest) a w :=
  wpList_plain hgd fun _ hK => wp_app s x ho B v xv l1 l2 hs hx' hown hx n hn hlen hB fun a' c' w' h2 h3 h4 => hK _ _ (h a' c' w' h2 h3 h4)
/-- A row that was just laid. -/
theorem own_lit (X : World) (B g n : Nat) (l : List Int) (hg : X.heap.size = g) (hn : l.length = n) (hB : B ≤ X.heap.size) (hl : l.length ≤ 1000000) : OwnI (X.alloc (.cells (l.map (Value.int .i64)).toArray 3)) B (.slice (some ⟨g, 0, none⟩) n n) l := by
  subst hg hn
  exact ⟨by simp, .inr ⟨X.heap.size, l.length, _, rfl, hB, heap_alloc_new X _, Nat.le_refl _, by unfold maxLen; omega, by simp, by rw [List.take_of_length_le (by simp)]⟩⟩
theorem lit_kept {Wb w5 : World} {B g gA n m : Nat} {l : List Int} (h : OwnI Wb B (.slice (some ⟨g, 0, none⟩) n m) l) (hg : Wb.grownBy w5 (some gA)) (hne : g ≠ gA) : OwnI w5 B (.slice (some ⟨g, 0, none⟩) n m) l :=
  h.kept hg (.inr (by simpa [Value.ownBlock] using hne))
theorem own_base {w : World} {B B' : Nat} {v : Value} {l : List Int} (h : OwnI w B v l) (hb : B' ≤ B) : OwnI w B' v l := by
  obtain ⟨h1, h2 | ⟨g, cap, cur, e, hg, r⟩⟩ := h
  · exact ⟨h1, .inl h2⟩
  · exact ⟨h1, .inr ⟨g, cap, cur, e, Nat.le_trans hb hg, r⟩⟩
theorem sep_bases {w : World} {B : Nat} {v1 v2 : Value} {l2 : List Int} (h1 : ∀ k, v1.ownBlock = some k → k < B) (h2 : OwnI w B v2 l2) : v1.ownBlock = none ∨ v1.ownBlock ≠ v2.ownBlock := by
  cases h : v1.ownBlock with
  | none => exact .inl rfl
  | some k =>
    refine .inr fun e => ?_
    have := (h2.lt k e.symm).1
    have := h1 k h
    omega
theorem own_drew {w : World} {B : Nat} {v : Value} {l : List Int} (h : OwnI w B v l) : OwnI w.drew B v l := own_dn h ⟨1, rfl⟩
end Go.Proofs.Ytnkkgeammohemab


