/- What the proof needs, part 3. -/
import Derived.Maps.AppendAt
import Derived.Laws.OwnMore
import Derived.Deep.RegionHeld3
import Derived.Test.YtfcknfodejnhnabL2
/- The reference's heap: a row of items in a block of its own. -/
namespace Go.Proofs.Ytfcknfodejnhnab
open Go Go.RowKit

/-- The cells of items. -/
def Sp.cells2 : List (Int × Int) → List Value
  | [] => []
  | p :: l => .int .i64 p.1 :: .int .i64 p.2 :: Sp.cells2 l
theorem Sp.cells2_len : ∀ l, (Sp.cells2 l).length = l.length * 2
  | [] => rfl
  | p :: l => by simp only [Sp.cells2, List.length_cons, Sp.cells2_len l]; omega
theorem Sp.cells2_get : ∀ (l : List (Int × Int)) (j : Nat), j < l.length → (Sp.cells2 l)[j * 2]? = some (.int .i64 (l.getD j (0, 0)).1) ∧ (Sp.cells2 l)[j * 2 + 1]? = some (.int .i64 (l.getD j (0, 0)).2)
  | [], j, h => by simp at h
  | p :: l, 0, _ => by simp [Sp.cells2]
  | p :: l, j + 1, h => by
    have := Sp.cells2_get l j (by simpa using h)
    have e1 : (j + 1) * 2 = j * 2 + 1 + 1 := by omega
    have e2 : (j + 1) * 2 + 1 = j * 2 + 1 + 1 + 1 := by omega
    rw [e1]
    simp only [Sp.cells2, List.getElem?_cons_succ, List.getD_cons_succ]
    exact this
theorem Sp.cells2_append : ∀ l m, Sp.cells2 (l ++ m) = Sp.cells2 l ++ Sp.cells2 m
  | [], m => rfl
  | p :: l, m => by simp only [List.cons_append, Sp.cells2, Sp.cells2_append l m]
theorem Sp.cells2_take : ∀ (l : List (Int × Int)) (i : Nat), Sp.cells2 (l.take i) = (Sp.cells2 l).take (i * 2)
  | [], i => by simp [Sp.cells2]
  | p :: l, 0 => by simp [Sp.cells2]
  | p :: l, i + 1 => by
    have e1 : (i + 1) * 2 = i * 2 + 1 + 1 := by omega
    rw [e1]
    simp only [List.take_succ_cons, Sp.cells2, Sp.cells2_take l i]
theorem Sp.cells2_drop : ∀ (l : List (Int × Int)) (i : Nat), Sp.cells2 (l.drop i) = (Sp.cells2 l).drop (i * 2)
  | [], i => by simp [Sp.cells2]
  | p :: l, 0 => by simp [Sp.cells2]
  | p :: l, i + 1 => by
    have e1 : (i + 1) * 2 = i * 2 + 1 + 1 := by omega
    rw [e1]
    simp only [List.drop_succ_cons, Sp.cells2, Sp.cells2_drop l i]
theorem Sp.cells2_set : ∀ (l : List (Int × Int)) (j : Nat) (r : Int), j < l.length → (Sp.cells2 l).set (j * 2 + 1) (.int .i64 r) = Sp.cells2 (l.set j ((l.getD j (0, 0)).1, r))
  | [], j, r, h => by simp at h
  | p :: l, 0, r, _ => by simp [Sp.cells2]
  | p :: l, j + 1, r, h => by
    have := Sp.cells2_set l j r (by simpa using h)
    have e1 : (j + 1) * 2 + 1 = j * 2 + 1 + 1 + 1 := by omega
    rw [e1]
    simp only [Sp.cells2, List.set_cons_succ, List.getD_cons_succ, this]
theorem Sp.cells2_one : ∀ (l : List (Int × Int)), ∀ u ∈ Sp.cells2 l, u.oneCell' = true
  | [], u, h => by cases h
  | p :: l, u, h => by
    simp only [Sp.cells2, List.mem_cons] at h
    rcases h with rfl | rfl | h
    · rfl
    · rfl
    · exact Sp.cells2_one l u h
/-- Block x points to a row of items; R: the row's block. -/
structure Rf (w : World) (x : Nat) (R : Option Nat) (v : Value) (l : List (Int × Int)) : Prop where
  blk : w.heap[x]? = some (.cells #[v] 49)
  own : v.ownBlock = R
  row : w.ownsRow (x + 1) 30 2 v l.length (Sp.cells2 l)
theorem Rf.lt {w : World} {x : Nat} {R : Option Nat} {v : Value} {l : List (Int × Int)} (h : Rf w x R v l) : x < w.heap.size := (Array.getElem?_eq_some_iff.1 h.blk).1
theorem Rf.rlt {w : World} {x : Nat} {R : Option Nat} {v : Value} {l : List (Int × Int)} (h : Rf w x R v l) : ∀ k, R = some k → x < k ∧ k < w.heap.size := fun k hk => by
  have := h.row.lt k (by rw [h.own]; exact hk); omega
theorem Rf.keep {w w' : World} {x : Nat} {R : Option Nat} {v : Value} {l : List (Int × Int)} (h : Rf w x R v l) (h1 : w'.heap[x]? = w.heap[x]?) (h2 : ∀ g, R = some g → w'.heap[g]? = w.heap[g]?) : Rf w' x R v l := by
  obtain ⟨a, b, c1, c2⟩ := h
  refine ⟨h1.trans a, b, c1, ?_⟩
  rcases c2 with c2 | ⟨g, cap, cur, e, hg, hc, r⟩
  · exact .inl c2
  · exact .inr ⟨g, cap, cur, e, hg, (h2 g (by rw [← b, e]; rfl)).trans hc, r⟩
theorem Rf.below {w w' : World} {x : Nat} {R : Option Nat} {v : Value} {l : List (Int × Int)} (h : Rf w x R v l) (hb : Below w.heap.size w w') : Rf w' x R v l :=
  h.keep (hb.block _ h.lt) fun g hg => hb.block _ (h.rlt g hg).2
theorem Rf.cell {w : World} {x : Nat} {R : Option Nat} {v : Value} {l : List (Int × Int)} (h : Rf w x R v l) : w.cell? ⟨x, 0, none⟩ = some v ∧ ∀ j, w.frozen? ⟨x, j, none⟩ = false := by
  constructor
  · simp only [World.cell?, h.blk]; rfl
  · intro j; simp [World.frozen?, h.blk]
theorem Rf.form {w : World} {x : Nat} {R : Option Nat} {v : Value} {l : List (Int × Int)} (h : Rf w x R v l) : ∃ (a : Option Addr) (c : Nat), v = .slice a l.length c ∧ l.length ≤ c ∧ c ≤ maxLen ∧
    Hid (∀ j, j < l.length → ∃ g, a = some ⟨g, 0, none⟩ ∧ R = some g ∧ w.cell? ⟨g, j * 2, none⟩ = some (.int .i64 (l.getD j (0, 0)).1) ∧ w.cell? ⟨g, j * 2 + 1, none⟩ = some (.int .i64 (l.getD j (0, 0)).2) ∧ ∀ i, w.frozen? ⟨g, i, none⟩ = false) := by
  obtain ⟨a, b, c⟩ := h
  have c' := c
  obtain ⟨c1, c2⟩ := c
  rcases c2 with ⟨rfl, c2⟩ | ⟨g, cap, cur, rfl, hg, hc, r1, r2, r3, r4⟩
  · exact ⟨none, 0, by rw [c2], by omega, by simp [maxLen], hide fun j hj => by omega⟩
  · refine ⟨some ⟨g, 0, none⟩, cap, rfl, r1, r2, hide fun j hj => ⟨g, rfl, b.symm, ?_, ?_, fun i => c'.frozenAt i⟩⟩
    · rw [c'.cellAt _ (by omega)]; exact (Sp.cells2_get l j hj).1
    · rw [c'.cellAt _ (by omega)]; exact (Sp.cells2_get l j hj).2
/-- All but block x and the row is as it was. -/
structure ButR (x : Nat) (R : Option Nat) (w w' : World) : Prop where
  os : w'.os = w.os
  tape : w'.tape = w.tape
  output : w'.output = w.output
  size : w.heap.size ≤ w'.heap.size
  block : ∀ k, k < w.heap.size → k ≠ x → R ≠ some k → w'.heap[k]? = w.heap[k]?
theorem ButR.refl (x : Nat) (R : Option Nat) (w : World) : ButR x R w w := ⟨rfl, rfl, rfl, Nat.le_refl _, fun _ _ _ _ => rfl⟩
theorem ButR.trans {x : Nat} {R R' : Option Nat} {u v w : World} (h : ButR x R u v) (k : ButR x R' v w) (hR : R' = R ∨ ∀ g, R' = some g → u.heap.size ≤ g) : ButR x R u w :=
  ⟨k.os.trans h.os, k.tape.trans h.tape, k.output.trans h.output, Nat.le_trans h.size k.size, fun i hi hx hr => (k.block i (Nat.lt_of_lt_of_le hi h.size) hx (fun e => by
    rcases hR with hR | hR
    · exact hr (by rw [← hR]; exact e)
    · have := hR i e; omega)).trans (h.block i hi hx hr)⟩
theorem ButR.of {x : Nat} {R : Option Nat} {w w' : World} (h : Below w.heap.size w w') : ButR x R w w' := ⟨h.os, h.tape, h.output, h.size, fun k hk _ _ => h.block k hk⟩
theorem ButR.below {x B : Nat} {R : Option Nat} {w w' : World} (h : ButR x R w w') (hB : B ≤ x) (hw : B ≤ w.heap.size) (hR : ∀ g, R = some g → B ≤ g) : Below B w w' :=
  ⟨h.os, h.tape, h.output, h.size, fun k hk => h.block k (by omega) (by omega) (fun e => by have := hR k e; omega)⟩
/-- A row that holds M. -/
structure Sp.RL (l : List (Int × Int)) (M : Nat → Option Int) : Prop where
  nd : (l.map Prod.fst).Nodup
  mem : ∀ p ∈ l, Sp.look M p.1 = some p.2
  all : ∀ j r, M j = some r → ((j : Int), r) ∈ l
  out : ∀ j, 300 ≤ j → M j = none
  len : l.length = Sp.cnt M
def RfIs (w : World) (x : Nat) (R : Option Nat) (M : Nat → Option Int) : Prop := ∃ v l, Rf w x R v l ∧ Sp.RL l M
theorem RfIs.lt {w : World} {x : Nat} {R : Option Nat} {M : Nat → Option Int} (h : RfIs w x R M) : x < w.heap.size := by obtain ⟨v, l, h, -⟩ := h; exact h.lt
theorem RfIs.rlt {w : World} {x : Nat} {R : Option Nat} {M : Nat → Option Int} (h : RfIs w x R M) : ∀ k, R = some k → x < k ∧ k < w.heap.size := by obtain ⟨v, l, h, -⟩ := h; exact h.rlt
theorem RfIs.keep {w w' : World} {x : Nat} {R : Option Nat} {M : Nat → Option Int} (h : RfIs w x R M) (h1 : w'.heap[x]? = w.heap[x]?) (h2 : ∀ g, R = some g → w'.heap[g]? = w.heap[g]?) : RfIs w' x R M := by
  obtain ⟨v, l, h, r⟩ := h; exact ⟨v, l, h.keep h1 h2, r⟩
theorem RfIs.below {w w' : World} {x : Nat} {R : Option Nat} {M : Nat → Option Int} (h : RfIs w x R M) (hb : Below w.heap.size w w') : RfIs w' x R M := by
  obtain ⟨v, l, h, r⟩ := h; exact ⟨v, l, h.below hb, r⟩

theorem Sp.look_nat (M : Nat → Option Int) (j : Nat) : Sp.look M (j : Int) = M j := by rw [Sp.look, if_pos (by omega), Int.toNat_natCast]
theorem Sp.RL.nil : Sp.RL [] (fun _ => none) := ⟨List.nodup_nil, fun p h => (by cases h), fun j r h => (by cases h), fun _ _ => rfl, (Sp.cntN_none 300).symm⟩
theorem Sp.getD_mem2 {l : List (Int × Int)} {i : Nat} (h : i < l.length) : l.getD i (0, 0) ∈ l := by
  rw [List.getD_eq_getElem?_getD, List.getElem?_eq_getElem h]; exact List.getElem_mem h
theorem Sp.RL.rng {l : List (Int × Int)} {M : Nat → Option Int} (h : Sp.RL l M) {p : Int × Int} (hp : p ∈ l) : 0 ≤ p.1 ∧ p.1 < 300 := by
  have h1 := h.mem p hp
  unfold Sp.look at h1
  split at h1
  · rename_i h0
    refine ⟨h0, ?_⟩
    rcases (show p.1 < 300 ∨ 300 ≤ p.1 by omega) with h2 | h2
    · exact h2
    · rw [h.out _ (by omega)] at h1; cases h1
  · cases h1
theorem Sp.RL.new {l : List (Int × Int)} {M : Nat → Option Int} (h : Sp.RL l M) {k r : Int} (hk : 0 ≤ k ∧ k < 300) (hl : Sp.look M k = none) : Sp.RL (l ++ [(k, r)]) (Sp.putK M k r) := by
  obtain ⟨j, rfl⟩ : ∃ j : Nat, k = (j : Int) := ⟨k.toNat, by omega⟩
  have hne : ∀ p ∈ l, p.1 ≠ (j : Int) := fun p hp e => by have := h.mem p hp; rw [e, hl] at this; cases this
  have hP : Sp.putK M (j : Int) r = Sp.put M j (some r) := by rw [Sp.putK, if_pos hk, Int.toNat_natCast]
  rw [hP]
  refine ⟨?_, fun p hp => ?_, fun i s hs => ?_, fun i hi => ?_, ?_⟩
  · rw [List.map_append, List.nodup_append]
    refine ⟨h.nd, by simp, fun a ha b hb => ?_⟩
    obtain ⟨p, hp, rfl⟩ := List.mem_map.1 ha
    simp at hb
    subst hb
    exact hne p hp
  · rcases List.mem_append.1 hp with hp | hp
    · have h1 := h.mem p hp
      have h2 := h.rng hp
      have h3 := hne p hp
      obtain ⟨i, hi⟩ : ∃ i : Nat, p.1 = (i : Int) := ⟨p.1.toNat, by omega⟩
      rw [hi, Sp.look_nat] at h1 ⊢
      rw [Sp.put_other _ _ (by omega)]; exact h1
    · simp at hp
      subst hp
      rw [Sp.look_nat, Sp.put_same]
  · by_cases hij : i = j
    · subst hij
      rw [Sp.put_same] at hs
      cases hs
      exact List.mem_append.2 (.inr (by simp))
    · rw [Sp.put_other _ _ hij] at hs
      exact List.mem_append.2 (.inl (h.all i s hs))
  · rw [Sp.put_other _ _ (by omega)]; exact h.out i hi
  · rw [Sp.look_nat] at hl
    rw [Sp.cnt_add M j r (by omega) hl, List.length_append, h.len]; rfl
theorem Sp.nodup_get {l : List (Int × Int)} (h : (l.map Prod.fst).Nodup) {i j : Nat} (hi : i < l.length) (hj : j < l.length) (e : (l[i]).1 = (l[j]).1) : i = j := by
  have hp := List.pairwise_iff_getElem.1 h
  rcases Nat.lt_trichotomy i j with h1 | h1 | h1
  · exact absurd (by rw [List.getElem_map, List.getElem_map]; exact e) (hp i j (by simpa using hi) (by simpa using hj) h1)
  · exact h1
  · exact absurd (by rw [List.getElem_map, List.getElem_map]; exact e.symm) (hp j i (by simpa using hj) (by simpa using hi) h1)
theorem Sp.RL.anew {l : List (Int × Int)} {M : Nat → Option Int} (h : Sp.RL l M) {k r : Int} {i : Nat} (hi : i < l.length) (hk : (l.getD i (0, 0)).1 = k) : Sp.RL (l.set i (k, r)) (Sp.putK M k r) := by
  have hkr := h.rng (Sp.getD_mem2 hi)
  rw [hk] at hkr
  have hg : l.getD i (0, 0) = l[i] := by rw [List.getD_eq_getElem?_getD, List.getElem?_eq_getElem hi]; rfl
  rw [hg] at hk
  obtain ⟨j, rfl⟩ : ∃ j : Nat, k = (j : Int) := ⟨k.toNat, by omega⟩
  have hP : Sp.putK M (j : Int) r = Sp.put M j (some r) := by rw [Sp.putK, if_pos hkr, Int.toNat_natCast]
  have h0 := h.mem _ (List.getElem_mem hi)
  rw [hk, Sp.look_nat] at h0
  rw [hP]
  have hmap : (l.set i ((j : Int), r)).map Prod.fst = l.map Prod.fst := by
    apply List.ext_getElem
    · simp
    · intro n h1 h2
      simp only [List.getElem_map, List.getElem_set]
      split
      · rename_i e
        subst e
        exact hk.symm
      · rfl
  refine ⟨by rw [hmap]; exact h.nd, fun p hp => ?_, fun n s hs => ?_, fun n hn => ?_, ?_⟩
  · obtain ⟨n, hn, rfl⟩ := List.mem_iff_getElem.1 hp
    rw [List.getElem_set]
    split
    · rw [Sp.look_nat, Sp.put_same]
    · rename_i hin
      have hn' : n < l.length := by simpa using hn
      have h1 := h.mem _ (List.getElem_mem hn')
      have h2 := h.rng (List.getElem_mem hn')
      obtain ⟨m, hm⟩ : ∃ m : Nat, (l[n]).1 = (m : Int) := ⟨(l[n]).1.toNat, by omega⟩
      have hmj : m ≠ j := fun e => hin (Sp.nodup_get h.nd hi hn' (by rw [hk, hm, e]))
      rw [hm, Sp.look_nat] at h1 ⊢
      rw [Sp.put_other _ _ hmj]; exact h1
  · by_cases hnj : n = j
    · subst hnj
      rw [Sp.put_same] at hs
      cases hs
      exact List.mem_iff_getElem.2 ⟨i, by simpa using hi, by rw [List.getElem_set, if_pos rfl]⟩
    · rw [Sp.put_other _ _ hnj] at hs
      obtain ⟨m, hm, e⟩ := List.mem_iff_getElem.1 (h.all n s hs)
      refine List.mem_iff_getElem.2 ⟨m, by simpa using hm, ?_⟩
      rw [List.getElem_set, if_neg]
      · exact e
      · intro him
        subst him
        rw [e] at hk
        simp at hk
        omega
  · rw [Sp.put_other _ _ (by omega)]; exact h.out n hn
  · rw [Sp.cnt_anew M j r _ (by omega) h0, List.length_set]; exact h.len
theorem Sp.RL.drop {l : List (Int × Int)} {M : Nat → Option Int} (h : Sp.RL l M) {k : Int} {i : Nat} (hi : i < l.length) (hk : (l.getD i (0, 0)).1 = k) : Sp.RL (l.take i ++ l.drop (i + 1)) (Sp.dropK M k) := by
  have hkr := h.rng (Sp.getD_mem2 hi)
  rw [hk] at hkr
  have hg : l.getD i (0, 0) = l[i] := by rw [List.getD_eq_getElem?_getD, List.getElem?_eq_getElem hi]; rfl
  rw [hg] at hk
  obtain ⟨j, rfl⟩ : ∃ j : Nat, k = (j : Int) := ⟨k.toNat, by omega⟩
  have hP : Sp.dropK M (j : Int) = Sp.put M j none := by rw [Sp.dropK, if_pos hkr.1, Int.toNat_natCast]
  have h0 := h.mem _ (List.getElem_mem hi)
  rw [hk, Sp.look_nat] at h0
  rw [hP, ← List.eraseIdx_eq_take_drop_succ]
  refine ⟨?_, fun p hp => ?_, fun n s hs => ?_, fun n hn => ?_, ?_⟩
  · exact h.nd.sublist ((List.eraseIdx_sublist _ _).map _)
  · obtain ⟨n, hn, hni, e⟩ : ∃ n, ∃ hn : n < l.length, n ≠ i ∧ l[n] = p := by
      obtain ⟨n, hn, rfl⟩ := List.mem_iff_getElem.1 hp
      rw [List.getElem_eraseIdx]
      split
      · exact ⟨n, by omega, by omega, rfl⟩
      · refine ⟨n + 1, ?_, by omega, rfl⟩
        rw [List.length_eraseIdx_of_lt hi] at hn
        omega
    subst e
    have h1 := h.mem _ (List.getElem_mem hn)
    have h2 := h.rng (List.getElem_mem hn)
    obtain ⟨m, hm⟩ : ∃ m : Nat, (l[n]).1 = (m : Int) := ⟨(l[n]).1.toNat, by omega⟩
    have hmj : m ≠ j := fun e => hni (Sp.nodup_get h.nd hn hi (by rw [hk, hm, e]))
    rw [hm, Sp.look_nat] at h1 ⊢
    rw [Sp.put_other _ _ hmj]; exact h1
  · obtain ⟨hnj, hs'⟩ := Sp.put_less hs
    obtain ⟨m, hm, e⟩ := List.mem_iff_getElem.1 (h.all n s hs')
    have hmi : m ≠ i := fun e' => by
      subst e'
      rw [e] at hk
      simp at hk
      omega
    rw [List.eraseIdx_eq_take_drop_succ]
    rcases Nat.lt_or_gt_of_ne hmi with h1 | h1
    · exact List.mem_append.2 (.inl (List.mem_iff_getElem.2 ⟨m, by rw [List.length_take]; omega, by rw [List.getElem_take]; exact e⟩))
    · refine List.mem_append.2 (.inr (List.mem_iff_getElem.2 ⟨m - (i + 1), by rw [List.length_drop]; omega, ?_⟩))
      rw [List.getElem_drop]
      have : i + 1 + (m - (i + 1)) = m := by omega
      simp only [this]
      exact e
  · by_cases hnj : n = j
    · rw [hnj, Sp.put_same]
    · rw [Sp.put_other _ _ hnj]; exact h.out n hn
  · have := Sp.cnt_drop M j _ (by omega) h0
    have h2 := h.len
    rw [List.length_eraseIdx_of_lt hi]
    omega
end Go.Proofs.Ytfcknfodejnhnab


/- The reference's heap: New, Len, find, Rank. -/
namespace Go.Proofs.Ytfcknfodejnhnab
open Go Go.RowKit

set_option maxRecDepth 100000 in
set_option maxHeartbeats 1000000 in
theorem rnew_any (w : World) :
    Calls Try.prog 13 #[] w fun e w' => e = .returned (.pointer (some ⟨w.heap.size, 0, none⟩)) ∧ Below w.heap.size w w' ∧ RfIs w' w.heap.size none (fun _ => none) ∧ w'.heap.size = w.heap.size + 1 := by
  have HF : Hid (Below w.heap.size w (w.alloc (.cells #[.slice none 0 0] 49)) ∧ RfIs (w.alloc (.cells #[.slice none 0 0] 49)) w.heap.size none (fun _ => none) ∧ (w.alloc (.cells #[.slice none 0 0] 49)).heap.size = w.heap.size + 1) := hide ⟨(Below.refl _ w).alloc (Nat.le_refl _) _, ⟨_, [], ⟨by
    show (w.heap.push _)[w.heap.size]? = _
    rw [Array.getElem?_push, if_pos rfl], rfl, World.ownsRow_nil _ _ _ _⟩, Sp.RL.nil⟩, by show (w.heap.push _).size = _; exact Array.size_push _⟩
  go_enter Try.func13, Try.ntmps13
  go_wp2
  go_ret
  exact ⟨rfl, unhide HF⟩
set_option maxRecDepth 100000 in
set_option maxHeartbeats 1000000 in
theorem rfind_any (v : Value) (l : List (Int × Int)) (x : Nat) (R : Option Nat) (k : Int) (w : World) (h : Rf w x R v l) (hl : l.length ≤ 300) :
    Calls Try.prog 20 #[.pointer (some ⟨x, 0, none⟩), .int .i64 k] w fun e w' => ∃ i : Int, e = .returned (.int .i64 i) ∧ w' = w ∧ ((i = -1 ∧ ∀ p ∈ l, p.1 ≠ k) ∨ ∃ j : Nat, i = (j : Int) ∧ j < l.length ∧ (l.getD j (0, 0)).1 = k) := by
  have c0 := h.cell.1
  obtain ⟨a, c, rfl, -, -, HC⟩ := h.form
  clear h
  obtain ⟨P, hP⟩ : ∃ P : Ending → World → Prop, P = fun e w' => ∃ i : Int, e = .returned (.int .i64 i) ∧ w' = w ∧ ((i = -1 ∧ ∀ p ∈ l, p.1 ≠ k) ∨ ∃ j : Nat, i = (j : Int) ∧ j < l.length ∧ (l.getD j (0, 0)).1 = k) := ⟨_, rfl⟩
  rw [← hP]
  have HP := hide hP
  clear hP
  go_enter Try.func20, Try.ntmps20
  go_wp2
  go_loopg [5] l.length (fun g s5 wr => ∃ i : Nat, i + g = l.length ∧ s5 = .int .i64 (i : Int) ∧ wr = w ∧ Hid (∀ j, j < i → (l.getD j (0, 0)).1 ≠ k))
  case atStart => exact ⟨0, by omega, rfl, rfl, hide fun j hj => by omega⟩
  case round =>
    obtain ⟨i, hig, rfl, rfl, HI⟩ := hrel
    by_cases hi : i < l.length
    · have hiI : (i : Int) < (l.length : Int) := by omega
      obtain ⟨g', rfl⟩ : ∃ g', gk = g' + 1 := ⟨gk - 1, by omega⟩
      obtain ⟨g, rfl, -, d0, -, -⟩ := unhide HC i hi
      by_cases he : (l.getD i (0, 0)).1 = k
      · have HE := hide he
        rw [he] at d0
        clear he HC
        go_wp2
        rw [unhide HP]
        exact ⟨_, rfl, rfl, .inr ⟨i, rfl, hi, unhide HE⟩⟩
      · have hne : ((l.getD i (0, 0)).1 == k) = false := beq_eq_false_iff_ne.2 he
        have HF : Hid (∀ j, j < i + 1 → (l.getD j (0, 0)).1 ≠ k) := hide fun j hj => by
          by_cases hji : j = i
          · rw [hji]; exact he
          · exact unhide HI j (by omega)
        generalize (l.getD i (0, 0)).1 = z at *
        clear he HI
        go_wp2
        go_roundg g'
        case rel => exact ⟨i + 1, by omega, rfl, rfl, HF⟩
        case measure => omega
    · have hiI : ¬ (i : Int) < (l.length : Int) := by omega
      have HF : Hid (∀ p ∈ l, p.1 ≠ k) := hide fun p hp => by
        obtain ⟨j, hj, rfl⟩ := List.mem_iff_getElem.1 hp
        have := unhide HI j (by omega)
        rw [List.getD_eq_getElem?_getD, List.getElem?_eq_getElem hj] at this
        exact this
      clear HI HC
      go_wp2
      rw [unhide HP]
      exact ⟨_, rfl, rfl, .inl ⟨rfl, unhide HF⟩⟩
theorem Sp.RL.look_none {l : List (Int × Int)} {M : Nat → Option Int} (h : Sp.RL l M) {k : Int} (hk : ∀ p ∈ l, p.1 ≠ k) : Sp.look M k = none := by
  unfold Sp.look
  split
  · cases hm : M k.toNat with
    | none => rfl
    | some r => exact absurd (show ((k.toNat : Nat) : Int) = k by omega) (hk _ (h.all _ _ hm))
  · rfl
theorem Sp.RL.look_some {l : List (Int × Int)} {M : Nat → Option Int} (h : Sp.RL l M) {j : Nat} (hj : j < l.length) : Sp.look M (l.getD j (0, 0)).1 = some (l.getD j (0, 0)).2 := h.mem _ (Sp.getD_mem2 hj)
end Go.Proofs.Ytfcknfodejnhnab


/- The reference's heap: append of items; Put. -/
namespace Go.Proofs.Ytfcknfodejnhnab
open Go Go.RowKit

theorem info32 : (Try.prog.info? 30).map (fun i => (i.zero, i.size, i.bytes)) = some (some (.agg #[.int .i64 0, .int .i64 0]), 2, 16) := by kernel_rfl
/-- A row of items, wherever it lies. -/
def Its (w : World) (v : Value) (l : List (Int × Int)) : Prop := ∃ a c, v = .slice a l.length c ∧ ∀ j u, (Sp.cells2 l)[j]? = some u → ∃ b o, a = some ⟨b, o, none⟩ ∧ w.cell? ⟨b, o + j, none⟩ = some u
theorem Its.below {w w' : World} {v : Value} {l : List (Int × Int)} (h : Its w v l) (hb : Below w.heap.size w w') : Its w' v l := by
  obtain ⟨a, c, e, h1⟩ := h
  refine ⟨a, c, e, fun j u hj => ?_⟩
  obtain ⟨b, o, e1, e2⟩ := h1 j u hj
  exact ⟨b, o, e1, (hb.cell (cell_lt e2)).trans e2⟩
set_option maxRecDepth 100000 in
theorem run_app2 {w : World} {B : Nat} {v x : Value} {l1 l2 : List (Int × Int)} (ty : TypeId) (hown : w.ownsRow B 30 2 v l1.length (Sp.cells2 l1)) (hx : Its w x l2) (n : Nat) (hn : l1.length + l2.length = n) (hlen : n ≤ 1000000) (hB : B ≤ w.heap.size) :
    ∃ a' c' w', (Builtin.append_ #[47, 47] ty #[v, x]).run Try.prog w = .ok (.slice a' n c') w' ∧ w'.ownsRow B 30 2 (.slice a' n c') n (Sp.cells2 (l1 ++ l2)) ∧ w.grownBy w' v.ownBlock ∧ ((Value.slice a' n c').ownBlock = v.ownBlock ∨ (Value.slice a' n c').ownBlock = some w.heap.size) := by
  subst hn
  obtain ⟨i0, hi, hz0, hz1, hz2⟩ : ∃ i0, Try.prog.info? 30 = some i0 ∧ i0.zero = some (.agg #[.int .i64 0, .int .i64 0]) ∧ i0.size = 2 ∧ i0.bytes = 16 := by
    have h := info32
    cases hq : Try.prog.info? 30 with
    | none => rw [hq] at h; cases h
    | some i0 =>
      rw [hq] at h
      simp only [Option.map_some, Option.some.injEq, Prod.mk.injEq] at h
      exact ⟨i0, rfl, h.1, h.2.1, h.2.2⟩
  have fin : ∀ v' w', World.ownsRow w' B 30 2 v' (l1.length + l2.length) (Sp.cells2 l1 ++ Sp.cells2 l2) → ∃ a' c', v' = .slice a' (l1.length + l2.length) c' := fun v' w' h => by
    rcases h.2 with ⟨rfl, e⟩ | ⟨g, cap, cur, rfl, -⟩
    · exact ⟨none, 0, by rw [e]⟩
    · exact ⟨_, _, rfl⟩
  obtain ⟨a, c, rfl, hcell⟩ := hx
  cases a with
  | none =>
    have hl2 : l2 = [] := by
      cases l2 with
      | nil => rfl
      | cons y r => obtain ⟨b, o, h, _⟩ := hcell 0 _ rfl; cases h
    subst hl2
    have hr : (Builtin.append_ #[47, 47] ty #[v, .slice none 0 c]).run Try.prog w = .ok v w := by
      rcases hown.2 with ⟨rfl, h⟩ | ⟨g, cap, cur, rfl, _, _, hnc, _⟩
      · simp [Builtin.append_, run_underlying Try.underlying47, sizeOf, typeInfo, hi, Builtin.lenOf, Builtin.firstCells]
      · simp [Builtin.append_, run_underlying Try.underlying47, sizeOf, typeInfo, hi, Builtin.lenOf, Builtin.firstCells, hnc, storeCells]
    have h2 : w.ownsRow B 30 2 v (l1.length + 0) (Sp.cells2 l1 ++ Sp.cells2 []) := by simpa [Sp.cells2] using hown
    obtain ⟨a', c', rfl⟩ := fin v w h2
    exact ⟨a', c', w, hr, by rw [Sp.cells2_append]; exact h2, ⟨rfl, rfl, rfl, Nat.le_refl _, fun _ _ _ => rfl⟩, .inl rfl⟩
  | some ad =>
    obtain ⟨v', w', h1, h2, h3, h4, h5⟩ := run_append_own_at (P := Try.prog) w B 47 ty 30 i0 (.agg #[.int .i64 0, .int .i64 0]) 2 16 Try.underlying47 hi hz0 hz1 hz2 rfl (by decide) v l1.length (Sp.cells2 l1) hown ad l2.length c (Sp.cells2 l2) (Sp.cells2_len l2)
      (fun j u hj => by
        obtain ⟨b, o, e, hcl⟩ := hcell j u hj
        injection e with e
        subst e
        have e2 : (⟨b, o, none⟩ : Addr).add j = ⟨b, o + j, none⟩ := by unfold Addr.add; split <;> simp_all
        rw [e2]; exact hcl)
      (Sp.cells2_one l2) (by unfold maxLen; omega) (by omega) hB
    obtain ⟨a', c', rfl⟩ := fin v' w' h2
    exact ⟨a', c', w', h1, by rw [Sp.cells2_append]; exact h2, h3, h5⟩
theorem wp_app32 {w : World} {o : Oper} {a : Act} {K : Act → World → Prop} {Q : Exit → Act → World → Prop} (s x : Operand)
    (ho : o.op = .call { callee := .builtin .append, args := #[s, x], argTypes := #[47, 47] })
    (B : Nat) (v xv : Value) (l1 l2 : List (Int × Int)) (hs : a.eval s = v) (hx' : a.eval x = xv) (hown : w.ownsRow B 30 2 v l1.length (Sp.cells2 l1)) (hx : Its w xv l2) (n : Nat) (hn : l1.length + l2.length = n) (hlen : n ≤ 1000000) (hB : B ≤ w.heap.size)
    (h : ∀ a' c' w', w'.ownsRow B 30 2 (.slice a' n c') n (Sp.cells2 (l1 ++ l2)) → w.grownBy w' v.ownBlock → ((Value.slice a' n c').ownBlock = v.ownBlock ∨ (Value.slice a' n c').ownBlock = some w.heap.size) → K (a.put o.dst (.slice a' n c')) w') : o.wp Try.prog a w K Q := by
  obtain ⟨a', c', w', hr, h2, h3, h4⟩ := run_app2 o.type hown hx n hn hlen hB
  unfold Oper.wp execOp
  simp only [ho, resolve, invoke, builtin, Sem.run_bind, Sem.run_pure, Result.andThen_ok, List.map_toArray, List.map_cons, List.map_nil, hs, hx', hr]
  exact h a' c' w' h2 h3 h4
theorem wpList_app32 {w : World} {ops : Array Oper} {rest : List Oper} {o : Oper} {a : Act} {Q : Exit → Act → World → Prop} (hgd : o.guard = none) (s x : Operand)
    (ho : o.op = .call { callee := .builtin .append, args := #[s, x], argTypes := #[47, 47] })
    (B : Nat) (v xv : Value) (l1 l2 : List (Int × Int)) (hs : a.eval s = v) (hx' : a.eval x = xv) (hown : w.ownsRow B 30 2 v l1.length (Sp.cells2 l1)) (hx : Its w xv l2) (n : Nat) (hn : l1.length + l2.length = n) (hlen : n ≤ 1000000) (hB : B ≤ w.heap.size)
    (h : ∀ a' c' w', w'.ownsRow B 30 2 (.slice a' n c') n (Sp.cells2 (l1 ++ l2)) → w.grownBy w' v.ownBlock → ((Value.slice a' n c').ownBlock = v.ownBlock ∨ (Value.slice a' n c').ownBlock = some w.heap.size) → wpList Try.prog ops Q rest (a.put o.dst (.slice a' n c')) w') : wpList Try.prog ops Q (o :: rest) a w :=
  wpList_plain hgd fun _ hK => wp_app32 s x ho B v xv l1 l2 hs hx' hown hx n hn hlen hB fun a' c' w' h2 h3 h4 => hK _ _ (h a' c' w' h2 h3 h4)
/-- Items that were just laid. -/
theorem its_lit (w : World) (k r : Int) : Its (w.alloc (.cells #[.int .i64 k, .int .i64 r] 30)) (.slice (some ⟨w.heap.size, 0, none⟩) 1 1) [(k, r)] := by
  obtain ⟨x0, x1⟩ := item_new w (.int .i64 k) (.int .i64 r)
  refine ⟨_, _, rfl, fun j u hj => ?_⟩
  rcases j with _ | _ | j
  · simp [Sp.cells2] at hj; subst hj; exact ⟨_, _, rfl, x0⟩
  · simp [Sp.cells2] at hj; subst hj; exact ⟨_, _, rfl, by simp⟩
  · simp [Sp.cells2] at hj
/-- Behind an append onto the row, and the store of its value. -/
theorem Rf.grown {w w1 w2 : World} {x : Nat} {R : Option Nat} {v v' : Value} {l l' : List (Int × Int)} (h : Rf w x R v l) (hb : Below w.heap.size w w1) (hg : w1.grownBy w2 v.ownBlock) (hr : w2.ownsRow (x + 1) 30 2 v' l'.length (Sp.cells2 l')) (ho : v'.ownBlock = R ∨ ∀ g, v'.ownBlock = some g → w.heap.size ≤ g) :
    Rf (w2.setCell ⟨x, 0, none⟩ v') x v'.ownBlock v' l' ∧ ButR x R w (w2.setCell ⟨x, 0, none⟩ v') ∧ (v'.ownBlock = R ∨ ∀ g, v'.ownBlock = some g → w.heap.size ≤ g) := by
  have hx := h.lt
  have hs := hb.size
  have hx2 : w2.heap[x]? = some (.cells #[v] 49) := by
    rw [hg.block x (by omega) (fun e => by have := (h.rlt x (by rw [← h.own]; exact e.symm)).1; omega), hb.block x hx]; exact h.blk
  refine ⟨⟨?_, rfl, ?_⟩, ⟨?_, ?_, ?_, ?_, fun k hk hkx hR => ?_⟩, ?_⟩
  · simp only [World.setCell, Array.getElem?_modify, if_pos, hx2]; rfl
  · obtain ⟨r1, r2⟩ := hr
    refine ⟨r1, ?_⟩
    rcases r2 with r2 | ⟨g, cap, cur, e, hge, hc, r⟩
    · exact .inl r2
    · exact .inr ⟨g, cap, cur, e, hge, by rw [Below.heap_setCell _ _ _ _ (by show g ≠ x; omega)]; exact hc, r⟩
  · exact hg.os.trans hb.os
  · exact hg.tape.trans hb.tape
  · exact hg.output.trans hb.output
  · have := hg.size
    have e : (w2.setCell ⟨x, 0, none⟩ v').heap.size = w2.heap.size := by simp [World.setCell]
    omega
  · rw [Below.heap_setCell _ _ _ _ (by show k ≠ x; omega), hg.block k (by omega) (fun e => hR (by rw [← h.own]; exact e.symm)), hb.block k hk]
  · exact ho
theorem Rf.stored {w : World} {x g c : Nat} {R : Option Nat} {l : List (Int × Int)} (h : Rf w x R (.slice (some ⟨g, 0, none⟩) l.length c) l) {j : Nat} (hj : j < l.length) (r : Int) :
    Rf (w.setCell ⟨g, j * 2 + 1, none⟩ (.int .i64 r)) x R (.slice (some ⟨g, 0, none⟩) l.length c) (l.set j ((l.getD j (0, 0)).1, r)) ∧ ButR x R w (w.setCell ⟨g, j * 2 + 1, none⟩ (.int .i64 r)) := by
  have hR : R = some g := h.own.symm
  have hg := h.rlt g hR
  obtain ⟨s1, s2⟩ := h.row.stored (j * 2 + 1) (.int .i64 r)
  rw [Sp.cells2_set l j r hj] at s1
  refine ⟨⟨?_, h.own, by rw [List.length_set]; exact s1⟩, ⟨s2.os, s2.tape, s2.output, s2.size, fun k hk hkx hRk => s2.block k hk (fun e => hRk (by rw [hR]; exact e.symm))⟩⟩
  rw [Below.heap_setCell _ _ _ _ (by show x ≠ g; omega)]; exact h.blk
set_option maxRecDepth 100000 in
set_option maxHeartbeats 4000000 in
theorem rput_any (M : Nat → Option Int) (x : Nat) (R : Option Nat) (k r : Int) (w : World) (h : RfIs w x R M) :
    Calls Try.prog 14 #[.pointer (some ⟨x, 0, none⟩), .int .i64 k, .int .i64 r] w fun e w' => e = .returned (.bool (decide (0 ≤ k ∧ k < 300))) ∧ ∃ R', RfIs w' x R' (Sp.putK M k r) ∧ ButR x R w w' ∧ (R' = R ∨ ∀ g, R' = some g → w.heap.size ≤ g) := by
  have h0 := h
  obtain ⟨v, l, h1, h2⟩ := h
  have hle : l.length ≤ 300 := by rw [h2.len]; exact Sp.cnt_le M
  have HFd := hide (rfind_any v l x R k w h1 hle)
  have c0 := h1.cell.1
  have f0 := h1.cell.2
  obtain ⟨a, c, rfl, -, -, HC⟩ := h1.form
  have H0 := hide (And.intro h0 (And.intro h1 h2))
  have hxl := h1.lt
  clear h0 h1 h2
  obtain ⟨P, hP⟩ : ∃ P : Ending → World → Prop, P = fun e w' => e = .returned (.bool (decide (0 ≤ k ∧ k < 300))) ∧ ∃ R', RfIs w' x R' (Sp.putK M k r) ∧ ButR x R w w' ∧ (R' = R ∨ ∀ g, R' = some g → w.heap.size ≤ g) := ⟨_, rfl⟩
  rw [← hP]
  have HP := hide hP
  clear hP
  by_cases hk0 : k < 0
  · have HQ : Hid (decide (0 ≤ k ∧ k < 300) = false ∧ Sp.putK M k r = M) := hide ⟨decide_eq_false (by omega), if_neg (by omega)⟩
    go_enter Try.func14, Try.ntmps14
    go_wp2
    rw [unhide HP, (unhide HQ).1, (unhide HQ).2]
    exact ⟨rfl, R, (unhide H0).1, ButR.refl _ _ _, .inl rfl⟩
  · by_cases hk1 : 300 ≤ k
    · have HQ : Hid (decide (0 ≤ k ∧ k < 300) = false ∧ Sp.putK M k r = M) := hide ⟨decide_eq_false (by omega), if_neg (by omega)⟩
      go_enter Try.func14, Try.ntmps14
      go_wp2
      rw [unhide HP, (unhide HQ).1, (unhide HQ).2]
      exact ⟨rfl, R, (unhide H0).1, ButR.refl _ _ _, .inl rfl⟩
    · have HK : Hid (0 ≤ k ∧ k < 300) := hide (by omega)
      go_enter Try.func14, Try.ntmps14
      go_wp2_with fail
      go_at_call 20
      refine (unhide HFd).mono ?_
      rintro e w' ⟨i, rfl, hw', hor⟩
      have := hw'.symm
      subst this
      rcases hor with ⟨rfl, hn⟩ | ⟨j, rfl, hj, hkj⟩
      · have HL := hide ((unhide H0).2.2.new (r := r) (unhide HK) ((unhide H0).2.2.look_none hn))
        clear hn HC
        go_wp2_with (at_builtin; refine wpList_app32 (w := w.alloc (.cells #[.int .i64 k, .int .i64 r] 30)) rfl _ _ rfl (x + 1) _ _ l [(k, r)] rfl rfl ((unhide H0).2.1.row.alloc _) (its_lit w k r) (l.length + 1) (by simp) (by omega) (by simp; omega) ?_)
        intro a6 c6 w6 hown6 hg6 ho6
        obtain ⟨q1, q2, q3⟩ := (unhide H0).2.1.grown (l' := l ++ [(k, r)]) ((Below.refl _ w).alloc (Nat.le_refl _) _) hg6 (by simpa using hown6) (ho6.elim (fun e => .inl (e.trans (unhide H0).2.1.own)) (fun e => .inr fun g hg => by rw [e] at hg; injection hg with hg; omega))
        have HQ := hide (And.intro q1 (And.intro q2 q3))
        have d0 : w6.cell? ⟨x, 0, none⟩ = some (.slice a l.length c) := by
          rw [World.cell?_of_block (hg6.block x (by simp; omega) (fun e => by have := ((unhide H0).2.1.rlt x (by rw [← (unhide H0).2.1.own]; exact e.symm)).1; omega))]
          exact ((unhide H0).2.1.below ((Below.refl _ w).alloc (Nat.le_refl _) _)).cell.1
        have df : ∀ j, w6.frozen? ⟨x, j, none⟩ = false := fun j => by
          rw [World.frozen?_of_block (hg6.block x (by simp; omega) (fun e => by have := ((unhide H0).2.1.rlt x (by rw [← (unhide H0).2.1.own]; exact e.symm)).1; omega))]
          exact ((unhide H0).2.1.below ((Below.refl _ w).alloc (Nat.le_refl _) _)).cell.2 j
        clear hown6 hg6 ho6 q1 q2 q3
        go_wp2
        rw [unhide HP, decide_eq_true (unhide HK)]
        exact ⟨rfl, _, ⟨_, _, (unhide HQ).1, unhide HL⟩, (unhide HQ).2.1, (unhide HQ).2.2⟩
      · obtain ⟨g, rfl, -, -, d1, df⟩ := unhide HC j hj
        have hjI : (j : Int) < (l.length : Int) := by omega
        have HS := hide ((unhide H0).2.1.stored hj r)
        have HL := hide ((unhide H0).2.2.anew (r := r) hj hkj)
        rw [hkj] at HS
        clear hkj HC
        go_wp2
        rw [unhide HP, decide_eq_true (unhide HK)]
        exact ⟨rfl, R, ⟨_, _, (unhide HS).1, unhide HL⟩, (unhide HS).2, .inl rfl⟩
end Go.Proofs.Ytfcknfodejnhnab


/- A region that draws its order: a load may be taken first although a later operation, which waits for it, writes its cell. -/
namespace Go.Proofs.Ytfcknfodejnhnab
open Go

theorem if_wanted {c : Prop} [inst : Decidable c] {A B : Prop} (hc : c) (h : A) : ite c A B := by rw [if_pos hc]; exact h
section
variable {P : Program} {ops : Array Oper} {Q : Exit → Act → World → Prop} {md : Region.Mode} {S : World → Prop} {late : Nat → Bool}

/-- None of the late ones has come up. -/
def noLate (late : Nat → Bool) (listed : Array Bool) : Bool := (List.range listed.size).all fun j => !(late j && listed.getD j false)
theorem noLate_set {late : Nat → Bool} {listed : Array Bool} {i : Nat} (h : late i = false) : noLate late (listed.setIfInBounds i true) = noLate late listed := by
  unfold noLate
  rw [Array.size_setIfInBounds, Bool.eq_iff_iff, List.all_eq_true, List.all_eq_true]
  have key : ∀ j, (!(late j && (listed.setIfInBounds i true).getD j false)) = (!(late j && listed.getD j false)) := fun j => by
    by_cases hj : i = j
    · subst hj; rw [h]; simp
    · rw [getD_set_ne false hj]
  constructor
  · intro H j hj; rw [← key]; exact H j hj
  · intro H j hj; rw [key]; exact H j hj
/-- Whatever order is picked from here on; S holds behind every operation as long as no late one has come up. -/
def wpAnyG (P : Program) (md : Region.Mode) (ops : Array Oper) (Q : Exit → Act → World → Prop) (S : World → Prop) (late : Nat → Bool) : Nat → Array Bool → Act → World → Prop
  | 0, listed, a, w => Region.ready md ops listed = [] ∧ Q .normal a w
  | fuel + 1, listed, a, w =>
    (Region.ready md ops listed = [] → Q .normal a w) ∧
    ∀ i ∈ Region.ready md ops listed, wpOp P ops Q i (fun a' w' => (noLate late (listed.setIfInBounds i true) = true → S w') ∧ wpAnyG P md ops Q S late fuel (listed.setIfInBounds i true) a' w') a w
theorem wpAny_of_G : ∀ (fuel : Nat) (listed : Array Bool) (a : Act) (w : World), wpAnyG P md ops Q S late fuel listed a w → wpAny P md ops Q fuel listed a w
  | 0, _, _, _, h => h
  | fuel + 1, _, _, _, h => ⟨h.1, fun i hi => wpOp_mono (fun a' w' h' => wpAny_of_G fuel _ a' w' h'.2) (h.2 i hi)⟩
theorem wpAnyG_first {i : Nat} {oi : Oper} {v : Value} (hi : ops[i]? = some oi) (hsel : ∀ (j : Nat) (o : Oper) cs b, ops[j]? = some o → o.op ≠ .select cs b)
    (hil : late i = false) (hl : ∀ j oj, ops[j]? = some oj → late j = true → ∃ e ∈ oj.after, Region.binds md e = true ∧ e.on = i)
    (hQ : ∀ c a w, Q (.panic c) (a.put oi.dst v) w → Q (.panic c) a w) :
    ∀ (fuel : Nat) (listed : Array Bool) (a : Act) (w : World),
      (∀ j oj, ops[j]? = some oj → j ≠ i → listed.getD j true = false → (∀ e ∈ oj.after, Region.binds md e = true → e.on ≠ i) → oi.apart ops oj = true) →
      i ∈ Region.ready md ops listed → noLate late listed = true → YieldsIf P ops S oi v a → S w →
      wpAnyG P md ops Q S late fuel (listed.setIfInBounds i true) (a.put oi.dst v) w → wpAnyG P md ops Q S late (fuel + 1) listed a w := by
  intro fuel
  induction fuel with
  | zero =>
    intro listed a w _ hr _ hy hS H
    refine ⟨fun h => (by rw [h] at hr; cases hr), fun j hj => ?_⟩
    by_cases hji : j = i
    · subst hji; exact hy.wpOp hi hS ⟨fun _ => hS, H⟩
    · have := ready_mono hj hji
      rw [H.1] at this
      cases this
  | succ fuel ih =>
    intro listed a w hfree hr hnl hy hS H
    refine ⟨fun h => (by rw [h] at hr; cases hr), fun j hj => ?_⟩
    by_cases hji : j = i
    · subst hji; exact hy.wpOp hi hS ⟨fun _ => hS, H⟩
    · have h1 := H.2 j (ready_mono hj hji)
      obtain ⟨hjun, oj, hoj, hall⟩ := mem_ready.1 hj
      have hnot : ∀ e ∈ oj.after, Region.binds md e = true → e.on ≠ i := fun e he hb heq => by
        have h1 := hall e he hb
        have h0 := (mem_ready.1 hr).1
        rw [heq] at h1
        rcases Nat.lt_or_ge i listed.size with h' | h'
        · simp [h'] at h0 h1; rw [h0] at h1; cases h1
        · simp [Array.getElem?_eq_none h'] at h1
      have hlate : late j = false := by
        cases hl' : late j with
        | false => rfl
        | true =>
          obtain ⟨e, he, hb, heq⟩ := hl j oj hoj hl'
          exact absurd heq (hnot e he hb)
      have hn1 : noLate late (listed.setIfInBounds j true) = true := by rw [noLate_set hlate]; exact hnl
      have hn2 : noLate late ((listed.setIfInBounds i true).setIfInBounds j true) = true := by rw [noLate_set hlate, noLate_set hil]; exact hnl
      have h2 := wpOp_putIf hoj (hfree j oj hoj hji hjun hnot) (fun cs b => hsel i oi cs b hi) (fun cs b => hsel j oj cs b hoj) hQ hy h1
      have hfree' : ∀ k ok, ops[k]? = some ok → k ≠ i → (listed.setIfInBounds j true).getD k true = false →
          (∀ e ∈ ok.after, Region.binds md e = true → e.on ≠ i) → oi.apart ops ok = true := fun k ok hk hki hun hno => by
        refine hfree k ok hk hki ?_ hno
        by_cases hjk : j = k
        · subst hjk; exact hjun
        · rw [getD_set_ne true hjk] at hun; exact hun
      refine wpOp_mono (fun a' w' h3 => ⟨fun _ => h3.2.1 hn2, ih (listed.setIfInBounds j true) a' w' hfree' (ready_mono hr (Ne.symm hji)) hn1 h3.1 (h3.2.1 hn2) ?_⟩) h2
      rw [Array.setIfInBounds_comm _ _ hji]
      exact h3.2.2
/-- Each late operation waits for number i. -/
def lateB (md : Region.Mode) (ops : Array Oper) (late : Nat → Bool) (i : Nat) : Bool := (List.range ops.size).all fun j => !late j || (match ops[j]? with | some o => o.after.any fun e => Region.binds md e && e.on == i | none => false)
theorem lateB_spec {i : Nat} (h : lateB md ops late i = true) : ∀ j oj, ops[j]? = some oj → late j = true → ∃ e ∈ oj.after, Region.binds md e = true ∧ e.on = i := by
  intro j oj hj hl
  unfold lateB at h
  rw [List.all_eq_true] at h
  have hlt : j < ops.size := by
    rcases Nat.lt_or_ge j ops.size with h' | h'
    · exact h'
    · rw [Array.getElem?_eq_none h'] at hj; cases hj
  have := h j (List.mem_range.2 hlt)
  rw [hl, hj] at this
  simp only [Bool.not_true, Bool.false_or, Array.any_eq_true, Bool.and_eq_true, beq_iff_eq] at this
  obtain ⟨k, hk, h1, h2⟩ := this
  exact ⟨_, Array.getElem_mem hk, h1, h2⟩
/-- Take number i first: a load. -/
theorem wpAnyG_take (i : Nat) {oi : Oper} {v : Value} {fuel : Nat} {listed : Array Bool} {a : Act} {w : World} (hi : ops[i]? = some oi)
    (hs : Region.noSelect ops = true) (hf : Region.free md ops listed i = true) (hr : (Region.ready md ops listed).contains i = true) (hl : (!late i && (lateB md ops late i && noLate late listed)) = true)
    (hQ : ∀ c a w, Q (.panic c) (a.put oi.dst v) w → Q (.panic c) a w) (hy : YieldsIf P ops S oi v a) (hS : S w)
    (h : wpAnyG P md ops Q S late fuel (listed.setIfInBounds i true) (a.put oi.dst v) w) : wpAnyG P md ops Q S late (fuel + 1) listed a w := by
  simp only [Bool.and_eq_true, Bool.not_eq_true'] at hl
  exact wpAnyG_first hi (Region.noSelect_spec hs) hl.1 (lateB_spec hl.2.1) hQ fuel listed a w (Region.free_spec hi hf) (by simpa using hr) hl.2.2 hy hS h
theorem wpAnyG_done {listed : Array Bool} {a : Act} {w : World} (hr : Region.ready md ops listed = []) (h : Q .normal a w) :
    ∀ fuel, wpAnyG P md ops Q S late fuel listed a w
  | 0 => ⟨hr, h⟩
  | _ + 1 => ⟨fun _ => h, by rw [hr]; simp⟩
def AllReadyG (P : Program) (md : Region.Mode) (ops : Array Oper) (Q : Exit → Act → World → Prop) (S : World → Prop) (late : Nat → Bool) (fuel : Nat) (listed : Array Bool) (a : Act) (w : World) (rs : List Nat) : Prop :=
  ∀ i ∈ rs, wpOp P ops Q i (fun a' w' => (noLate late (listed.setIfInBounds i true) = true → S w') ∧ wpAnyG P md ops Q S late fuel (listed.setIfInBounds i true) a' w') a w
theorem AllReadyG.nil {fuel : Nat} {listed : Array Bool} {a : Act} {w : World} : AllReadyG P md ops Q S late fuel listed a w [] := fun _ h => by cases h
theorem AllReadyG.cons {fuel : Nat} {listed : Array Bool} {a : Act} {w : World} (i : Nat) {o : Oper} {rs : List Nat} (ho : ops[i]? = some o)
    (h : ∀ K' : Act → World → Prop, Shut (∀ a w, S w → (S w → wpAnyG P md ops Q S late fuel (listed.setIfInBounds i true) a w) → K' a w) → if Region.wanted o (yielded ops a.tmps) = true then Oper.wp P o a w K' Q else K' (a.put o.dst undef) w)
    (hs : AllReadyG P md ops Q S late fuel listed a w rs) : AllReadyG P md ops Q S late fuel listed a w (i :: rs) := fun j hj => by
  rcases List.mem_cons.1 hj with rfl | hj
  · exact wpOp_step ho (fun K' hK => h K' (fun a w hS hW => hK a w ⟨fun _ => hS, hW hS⟩))
  · exact hs j hj
/-- A late one, or one behind it. -/
theorem AllReadyG.last {fuel : Nat} {listed : Array Bool} {a : Act} {w : World} (i : Nat) {o : Oper} {rs : List Nat} (ho : ops[i]? = some o) (hl : noLate late (listed.setIfInBounds i true) = false)
    (h : ∀ K' : Act → World → Prop, Shut (∀ a w, wpAnyG P md ops Q S late fuel (listed.setIfInBounds i true) a w → K' a w) → if Region.wanted o (yielded ops a.tmps) = true then Oper.wp P o a w K' Q else K' (a.put o.dst undef) w)
    (hs : AllReadyG P md ops Q S late fuel listed a w rs) : AllReadyG P md ops Q S late fuel listed a w (i :: rs) := fun j hj => by
  rcases List.mem_cons.1 hj with rfl | hj
  · exact wpOp_step ho (fun K' hK => h K' (fun a w hW => hK a w ⟨fun h0 => (by rw [hl] at h0; cases h0), hW⟩))
  · exact hs j hj
theorem wpAnyG_ready (rs : List Nat) {fuel : Nat} {listed : Array Bool} {a : Act} {w : World} (hr : Region.ready md ops listed = rs) (hne : rs ≠ [])
    (h : AllReadyG P md ops Q S late fuel listed a w rs) : wpAnyG P md ops Q S late (fuel + 1) listed a w := ⟨fun h0 => absurd (hr ▸ h0) hne, hr ▸ h⟩
theorem wp_region_G {id : Nat} {a : Act} {w : World} (S : World → Prop) (late : Nat → Bool) (hm : P.follows .mixedOrders = true) (hS : S w.drew)
    (h : S w.drew → wpAnyG P .any ops (NoPanic Q) S late ops.size (Array.replicate ops.size false) a w.drew) : (Code.region id ops true).wp P Q a w :=
  wp_region_noPanic (wp_region_any hm (wpAny_of_G _ _ _ _ (h hS)))
end
end Go.Proofs.Ytfcknfodejnhnab


/- The reference's heap: Drop. -/
namespace Go.Proofs.Ytfcknfodejnhnab
open Go Go.RowKit

theorem own_base32 {w : World} {B B' n : Nat} {v : Value} {xs : List Value} (h : w.ownsRow B 30 2 v n xs) (hb : B' ≤ B) : w.ownsRow B' 30 2 v n xs := by
  obtain ⟨h1, h2 | ⟨g, cap, cur, e, hg, r⟩⟩ := h
  · exact ⟨h1, .inl h2⟩
  · exact ⟨h1, .inr ⟨g, cap, cur, e, Nat.le_trans hb hg, r⟩⟩
theorem Rf.cellj {w : World} {x g c : Nat} {R : Option Nat} {l : List (Int × Int)} (h : Rf w x R (.slice (some ⟨g, 0, none⟩) l.length c) l) {j : Nat} {u : Value} (hj : (Sp.cells2 l)[j]? = some u) : w.cell? ⟨g, j, none⟩ = some u := by
  have hlt : j < (Sp.cells2 l).length := (List.getElem?_eq_some_iff.1 hj).1
  rw [Sp.cells2_len] at hlt
  rw [h.row.cellAt j hlt]; exact hj
theorem Rf.its_take {w : World} {x g c : Nat} {R : Option Nat} {l : List (Int × Int)} (h : Rf w x R (.slice (some ⟨g, 0, none⟩) l.length c) l) {j : Nat} (hj : j ≤ l.length) : Its w (.slice (some ⟨g, 0, none⟩) j c) (l.take j) := by
  refine ⟨_, _, by rw [List.length_take, Nat.min_eq_left hj], fun i u hi => ⟨g, 0, rfl, ?_⟩⟩
  rw [Sp.cells2_take, List.getElem?_take] at hi
  split at hi
  · rw [Nat.zero_add]; exact h.cellj hi
  · cases hi
theorem Rf.its_drop {w : World} {x g c : Nat} {R : Option Nat} {l : List (Int × Int)} (h : Rf w x R (.slice (some ⟨g, 0, none⟩) l.length c) l) {j : Nat} (hj : j ≤ l.length) (hc : l.length ≤ c) : Its w (.slice (some (if c = j then ⟨g, 0, none⟩ else ⟨g, j * 2, none⟩)) (l.length - j) (c - j)) (l.drop j) := by
  refine ⟨_, _, by rw [List.length_drop], fun i u hi => ?_⟩
  have hlt : i < (Sp.cells2 (l.drop j)).length := (List.getElem?_eq_some_iff.1 hi).1
  rw [Sp.cells2_len, List.length_drop] at hlt
  rw [Sp.cells2_drop, List.getElem?_drop] at hi
  rw [if_neg (by omega)]
  exact ⟨g, j * 2, rfl, h.cellj hi⟩
theorem run_slice_to (g n c j : Nat) (hj : j ≤ c) (w : World) : (Instr.slice 47 (.slice (some ⟨g, 0, none⟩) n c) none (some (.int .i64 (j : Int))) none).run Try.prog w = .ok (.slice (some ⟨g, 0, none⟩) j c) w := by
  have hs : ∀ w, (sizeOf (Try.prog.elem 47)).run Try.prog w = .ok 2 w := fun w => by rfl
  rw [run_slice_h w _ (some ⟨g, 0, none⟩) n c (by rfl) .i64 (j : Int) (by omega) (by omega), hs]
  simp [sliced, Addr.add]
theorem run_slice_from (g n c j : Nat) (hj : j ≤ n) (w : World) : (Instr.slice 47 (.slice (some ⟨g, 0, none⟩) n c) (some (.int .i64 ((j : Int)))) none none).run Try.prog w = .ok (.slice (some (if c = j then ⟨g, 0, none⟩ else ⟨g, j * 2, none⟩)) (n - j) (c - j)) w := by
  have hs : ∀ w, (sizeOf (Try.prog.elem 47)).run Try.prog w = .ok 2 w := fun w => by rfl
  rw [run_slice_l w _ (some ⟨g, 0, none⟩) n c (by rfl) .i64 (j : Int) (by omega) (by omega), hs]
  simp only [Result.andThen_ok, sliced, Int.toNat_natCast, Option.map_some, Addr.add]
  by_cases h0 : j = 0
  · subst h0; simp
  · rw [if_neg (by omega : ¬ j * 2 = 0), Nat.zero_add]
    split <;> rfl
set_option maxRecDepth 100000 in
set_option maxHeartbeats 8000000 in
theorem rdrop_any (M : Nat → Option Int) (x : Nat) (R : Option Nat) (k : Int) (w : World) (h : RfIs w x R M) :
    Calls Try.prog 22 #[.pointer (some ⟨x, 0, none⟩), .int .i64 k] w fun e w' => e = .returned (.bool (Sp.look M k).isSome) ∧ ∃ R', RfIs w' x R' (Sp.dropK M k) ∧ ButR x R w w' ∧ (R' = R ∨ ∀ g, R' = some g → w.heap.size ≤ g) := by
  have h0 := h
  obtain ⟨v, l, h1, h2⟩ := h
  have hle : l.length ≤ 300 := by rw [h2.len]; exact Sp.cnt_le M
  have HFd := hide (rfind_any v l x R k w h1 hle)
  have c0 := h1.cell.1
  obtain ⟨a, c, rfl, hlc, -, HC⟩ := h1.form
  have H0 := hide (And.intro h0 (And.intro h1 h2))
  have hxl := h1.lt
  clear h0 h1 h2
  obtain ⟨P, hP⟩ : ∃ P : Ending → World → Prop, P = fun e w' => e = .returned (.bool (Sp.look M k).isSome) ∧ ∃ R', RfIs w' x R' (Sp.dropK M k) ∧ ButR x R w w' ∧ (R' = R ∨ ∀ g, R' = some g → w.heap.size ≤ g) := ⟨_, rfl⟩
  rw [← hP]
  have HP := hide hP
  clear hP
  go_enter Try.func22, Try.ntmps22
  go_wp2_with fail
  go_at_call 20
  refine (unhide HFd).mono ?_
  rintro e w' ⟨i, rfl, hw', hor⟩
  have := hw'.symm
  subst this
  rcases hor with ⟨rfl, hn⟩ | ⟨j, rfl, hj, hkj⟩
  · have HL := hide ((unhide H0).2.2.look_none hn)
    have HD : Hid (Sp.dropK M k = M) := hide (by
      have := unhide HL
      unfold Sp.dropK; split
      · rename_i hk
        rw [Sp.look, if_pos hk] at this
        exact Sp.put_none _ _ this
      · rfl)
    clear hn HC
    go_wp2
    rw [unhide HP, unhide HL, unhide HD]
    exact ⟨rfl, R, (unhide H0).1, ButR.refl _ _ _, .inl rfl⟩
  · obtain ⟨g, rfl, -, -, -, -⟩ := unhide HC j hj
    have HLK := (unhide H0).2.2.look_some hj
    rw [hkj] at HLK
    have HL := hide HLK
    have HRL := hide ((unhide H0).2.2.drop hj hkj)
    clear HLK hkj HC HFd
    have hjI : (j : Int) < (l.length : Int) := by omega
    obtain ⟨m, hm⟩ : ∃ m, j + 1 = m := ⟨_, rfl⟩
    have hj1 : (j : Int) + 1 = (m : Int) := by omega
    have hwj : IntKind.i64.wrap (m : Int) = (m : Int) := by rw [IntKind.wrap_i64]; omega
    have s1 := run_slice_to g l.length c j (by omega)
    have s2 := run_slice_from g l.length c m (by omega)
    have HS : Hid (∀ w', Below w.drew.heap.size w.drew w' → w'.cell? ⟨x, 0, none⟩ = some (.slice (some ⟨g, 0, none⟩) l.length c)) := hide fun w' hb => (hb.cell (p := ⟨x, 0, none⟩) hxl).trans c0
    have HT : Hid (∀ w', Below w.drew.heap.size w.drew w' → Its w' (.slice (some ⟨g, 0, none⟩) j c) (l.take j)) := hide fun w' hb => ((unhide H0).2.1.its_take (by omega)).below (((Below.refl _ w).drew).trans hb)
    have HU : Hid (∀ w', Below w.drew.heap.size w.drew w' → Its w' (.slice (some (if c = m then ⟨g, 0, none⟩ else ⟨g, m * 2, none⟩)) (l.length - m) (c - m)) (l.drop m)) := hide fun w' hb => ((unhide H0).2.1.its_drop (by omega) hlc).below (((Below.refl _ w).drew).trans hb)
    obtain ⟨A2, hA2⟩ : ∃ A2, A2 = some (if c = m then (⟨g, 0, none⟩ : Addr) else ⟨g, m * 2, none⟩) := ⟨_, rfl⟩
    rw [← hA2] at s2 HU
    clear hA2
    have HR : Hid (∀ v' w6, Below w.drew.heap.size w.drew w6 → w6.ownsRow w.drew.heap.size 30 2 v' (l.length - 1) (Sp.cells2 (l.take j ++ l.drop m)) → Rf (w6.setCell ⟨x, 0, none⟩ v') x v'.ownBlock v' (l.take j ++ l.drop m) ∧ ButR x R w (w6.setCell ⟨x, 0, none⟩ v') ∧ (v'.ownBlock = R ∨ ∀ g, v'.ownBlock = some g → w.heap.size ≤ g)) := hide fun v' w6 hb ho => by
      have hl' : (l.take j ++ l.drop m).length = l.length - 1 := by rw [List.length_append, List.length_take, List.length_drop]; omega
      exact (unhide H0).2.1.grown (((Below.refl _ w).drew).trans hb) (w2 := w6) ⟨rfl, rfl, rfl, Nat.le_refl _, fun _ _ _ => rfl⟩ (by rw [hl']; exact own_base32 ho (by show x + 1 ≤ w.heap.size; omega)) (.inr fun g' hg' => (ho.lt g' hg').1)
    rw [hm] at HRL
    have HM := hide hm
    clear hm
    go_upto_region 4 with fail
    have hfz3 := (unhide H0).2.1.cell.2 0
    replace hfz3 : w.drew.frozen? ⟨x, 0, none⟩ = false := hfz3
    have hxl3 : x < w.drew.heap.size := hxl
    refine wp_region_G (fun w' => w'.cell? ⟨x, 0, none⟩ = some (.slice (some ⟨g, 0, none⟩) l.length c)) (fun i => i == 19) (by kernel_rfl) (unhide HS _ (Below.refl _ _)) (fun hHeld => ?_)
    clear c0
    generalize hW3 : w.drew = W3 at *
    clear hW3
    refine wpAnyG_take (v := ?_) 0 (by rfl) (by kernel_rfl) (by kernel_rfl) (by kernel_rfl) (by kernel_rfl) (fun _ _ _ h => h) (Or.inl ⟨by rfl, ?_⟩) (by assumption) ?_
    rotate_left
    · (intro w' hSw; (try dsimp only at hSw); (try simp only [List.getElem_toArray, List.getElem_cons_zero]); go_simp; try (with_reducible rfl))
    simp only [Act.put, List.getElem_toArray, List.getElem_cons_zero, List.setIfInBounds_toArray, List.set_cons_zero, List.set_cons_succ]
    refine wpAnyG_take (v := ?_) 2 (by rfl) (by kernel_rfl) (by kernel_rfl) (by kernel_rfl) (by kernel_rfl) (fun _ _ _ h => h) (Or.inl ⟨by rfl, ?_⟩) (by assumption) ?_
    rotate_left
    · (intro w' hSw; (try dsimp only at hSw); (try simp only [List.getElem_toArray, List.getElem_cons_succ, List.getElem_cons_zero]); go_simp; try (with_reducible rfl))
    simp only [Act.put, List.getElem_toArray, List.getElem_cons_succ, List.getElem_cons_zero, List.setIfInBounds_toArray, List.set_cons_zero, List.set_cons_succ]
    refine wpAnyG_take (v := ?_) 3 (by rfl) (by kernel_rfl) (by kernel_rfl) (by kernel_rfl) (by kernel_rfl) (fun _ _ _ h => h) (Or.inl ⟨by rfl, ?_⟩) (by assumption) ?_
    rotate_left
    · (intro w' hSw; (try dsimp only at hSw); (try simp only [List.getElem_toArray, List.getElem_cons_succ, List.getElem_cons_zero]); go_simp; try (with_reducible rfl))
    simp only [Act.put, List.getElem_toArray, List.getElem_cons_succ, List.getElem_cons_zero, List.setIfInBounds_toArray, List.set_cons_zero, List.set_cons_succ]
    refine wpAnyG_take (v := ?_) 4 (by rfl) (by kernel_rfl) (by kernel_rfl) (by kernel_rfl) (by kernel_rfl) (fun _ _ _ h => h) (Or.inl ⟨by rfl, ?_⟩) (by assumption) ?_
    rotate_left
    · (intro w' hSw; (try dsimp only at hSw); (try simp only [List.getElem_toArray, List.getElem_cons_succ, List.getElem_cons_zero]); go_simp; try (with_reducible rfl))
    simp only [Act.put, List.getElem_toArray, List.getElem_cons_succ, List.getElem_cons_zero, List.setIfInBounds_toArray, List.set_cons_zero, List.set_cons_succ]
    refine wpAnyG_take (v := ?_) 5 (by rfl) (by kernel_rfl) (by kernel_rfl) (by kernel_rfl) (by kernel_rfl) (fun _ _ _ h => h) (Or.inl ⟨by rfl, ?_⟩) (by assumption) ?_
    rotate_left
    · (intro w' hSw; (try dsimp only at hSw); (try simp only [List.getElem_toArray, List.getElem_cons_succ, List.getElem_cons_zero]); go_simp; try (with_reducible rfl))
    simp only [Act.put, List.getElem_toArray, List.getElem_cons_succ, List.getElem_cons_zero, List.setIfInBounds_toArray, List.set_cons_zero, List.set_cons_succ]
    refine wpAnyG_take (v := ?_) 6 (by rfl) (by kernel_rfl) (by kernel_rfl) (by kernel_rfl) (by kernel_rfl) (fun _ _ _ h => h) (Or.inl ⟨by rfl, ?_⟩) (by assumption) ?_
    rotate_left
    · (intro w' hSw; (try dsimp only at hSw); (try simp only [List.getElem_toArray, List.getElem_cons_succ, List.getElem_cons_zero]); go_simp; try (with_reducible rfl))
    simp only [Act.put, List.getElem_toArray, List.getElem_cons_succ, List.getElem_cons_zero, List.setIfInBounds_toArray, List.set_cons_zero, List.set_cons_succ]
    refine wpAnyG_take (v := ?_) 7 (by rfl) (by kernel_rfl) (by kernel_rfl) (by kernel_rfl) (by kernel_rfl) (fun _ _ _ h => h) (Or.inl ⟨by rfl, ?_⟩) (by assumption) ?_
    rotate_left
    · (intro w' hSw; (try dsimp only at hSw); (try simp only [List.getElem_toArray, List.getElem_cons_succ, List.getElem_cons_zero]); go_simp; try (with_reducible rfl))
    simp only [Act.put, List.getElem_toArray, List.getElem_cons_succ, List.getElem_cons_zero, List.setIfInBounds_toArray, List.set_cons_zero, List.set_cons_succ]
    refine wpAnyG_take (v := ?_) 9 (by rfl) (by kernel_rfl) (by kernel_rfl) (by kernel_rfl) (by kernel_rfl) (fun _ _ _ h => h) (Or.inl ⟨by rfl, ?_⟩) (by assumption) ?_
    rotate_left
    · (intro w' hSw; (try dsimp only at hSw); (try simp only [List.getElem_toArray, List.getElem_cons_succ, List.getElem_cons_zero]); go_simp; try (with_reducible rfl))
    simp only [Act.put, List.getElem_toArray, List.getElem_cons_succ, List.getElem_cons_zero, List.setIfInBounds_toArray, List.set_cons_zero, List.set_cons_succ]
    refine wpAnyG_take (v := ?_) 10 (by rfl) (by kernel_rfl) (by kernel_rfl) (by kernel_rfl) (by kernel_rfl) (fun _ _ _ h => h) (Or.inl ⟨by rfl, ?_⟩) (by assumption) ?_
    rotate_left
    · (intro w' hSw; (try dsimp only at hSw); (try simp only [List.getElem_toArray, List.getElem_cons_succ, List.getElem_cons_zero]); go_simp; try (with_reducible rfl))
    simp only [Act.put, List.getElem_toArray, List.getElem_cons_succ, List.getElem_cons_zero, List.setIfInBounds_toArray, List.set_cons_zero, List.set_cons_succ]
    refine wpAnyG_take (v := ?_) 11 (by rfl) (by kernel_rfl) (by kernel_rfl) (by kernel_rfl) (by kernel_rfl) (fun _ _ _ h => h) (Or.inl ⟨by rfl, ?_⟩) (by assumption) ?_
    rotate_left
    · (intro w' hSw; (try dsimp only at hSw); (try simp only [List.getElem_toArray, List.getElem_cons_succ, List.getElem_cons_zero]); go_simp; try (with_reducible rfl))
    simp only [Act.put, List.getElem_toArray, List.getElem_cons_succ, List.getElem_cons_zero, List.setIfInBounds_toArray, List.set_cons_zero, List.set_cons_succ]
    refine wpAnyG_take (v := ?_) 12 (by rfl) (by kernel_rfl) (by kernel_rfl) (by kernel_rfl) (by kernel_rfl) (fun _ _ _ h => h) (Or.inl ⟨by rfl, ?_⟩) (by assumption) ?_
    rotate_left
    · (intro w' hSw; (try dsimp only at hSw); (try simp only [List.getElem_toArray, List.getElem_cons_succ, List.getElem_cons_zero]); go_simp; try (with_reducible rfl))
    simp only [Act.put, List.getElem_toArray, List.getElem_cons_succ, List.getElem_cons_zero, List.setIfInBounds_toArray, List.set_cons_zero, List.set_cons_succ]
    refine wpAnyG_take (v := ?_) 13 (by rfl) (by kernel_rfl) (by kernel_rfl) (by kernel_rfl) (by kernel_rfl) (fun _ _ _ h => h) (Or.inl ⟨by rfl, ?_⟩) (by assumption) ?_
    rotate_left
    · (intro w' hSw; (try dsimp only at hSw); (try simp only [List.getElem_toArray, List.getElem_cons_succ, List.getElem_cons_zero]); go_simp; try (with_reducible rfl))
    simp only [Act.put, List.getElem_toArray, List.getElem_cons_succ, List.getElem_cons_zero, List.setIfInBounds_toArray, List.set_cons_zero, List.set_cons_succ]
    refine wpAnyG_take (v := ?_) 14 (by rfl) (by kernel_rfl) (by kernel_rfl) (by kernel_rfl) (by kernel_rfl) (fun _ _ _ h => h) (Or.inl ⟨by rfl, ?_⟩) (by assumption) ?_
    rotate_left
    · (intro w' hSw; (try dsimp only at hSw); (try simp only [List.getElem_toArray, List.getElem_cons_succ, List.getElem_cons_zero]); go_simp; try (with_reducible rfl))
    simp only [Act.put, List.getElem_toArray, List.getElem_cons_succ, List.getElem_cons_zero, List.setIfInBounds_toArray, List.set_cons_zero, List.set_cons_succ]
    refine wpAnyG_take (v := ?_) 15 (by rfl) (by kernel_rfl) (by kernel_rfl) (by kernel_rfl) (by kernel_rfl) (fun _ _ _ h => h) (Or.inl ⟨by rfl, ?_⟩) (by assumption) ?_
    rotate_left
    · (intro w' hSw; (try dsimp only at hSw); (try simp only [List.getElem_toArray, List.getElem_cons_succ, List.getElem_cons_zero]); go_simp; try (with_reducible rfl))
    simp only [Act.put, List.getElem_toArray, List.getElem_cons_succ, List.getElem_cons_zero, List.setIfInBounds_toArray, List.set_cons_zero, List.set_cons_succ]
    refine wpAnyG_ready [1] (by kernel_rfl) (by simp) ?_
    refine AllReadyG.cons 1 (by rfl) (fun K hK => ?_) ?_
    · simp only [List.getElem_toArray, List.getElem_cons_succ, List.getElem_cons_zero]
      go_simp
      refine hK.out _ _ (unhide HS _ (by repeat (first | assumption | exact Below.refl _ _ | refine Below.drew ?_ | refine Below.alloc ?_ (by first | omega | (simp; done) | (simp; omega)) _))) (fun _ => ?_)
      clear hK K
      try simp only [Act.put, List.setIfInBounds_toArray, List.set_cons_zero, List.set_cons_succ]
      refine wpAnyG_ready [8] (by kernel_rfl) (by simp) ?_
      refine AllReadyG.cons 8 (by rfl) (fun K hK => ?_) ?_
      · simp only [List.getElem_toArray, List.getElem_cons_succ, List.getElem_cons_zero]
        refine if_wanted (by rfl) (wp_app32 (w := W3.alloc (.cells #[] 30)) _ _ (by rfl) W3.heap.size _ _ [] (l.take j) (by rfl) (by rfl) (World.ownsRow_made W3 #[] 0 (Nat.le_refl _) (by simp [maxLen]) rfl) (unhide HT _ (by repeat (first | assumption | exact Below.refl _ _ | refine Below.drew ?_ | refine Below.alloc ?_ (by first | omega | (simp; done) | (simp; omega)) _))) j (by rw [List.length_take]; simp; omega) (by omega) (by first | omega | (simp; done) | (simp; omega)) ?_)
        intro a5 c5 w5 hown5 hg5 ho5
        have hb5 : Below W3.heap.size W3 w5 := ((Below.refl W3.heap.size W3).alloc (Nat.le_refl _) _).grown hg5 (by first | omega | (simp; done) | (simp; omega)) (fun k hk => by simp [Value.ownBlock] at hk; omega)
        have hs5 := hb5.size
        have hlt5 : ∀ k, (Value.slice a5 j c5).ownBlock = some k → W3.heap.size ≤ k := fun k hk => (hown5.lt k hk).1
        clear hg5 ho5
        refine hK.out _ _ (unhide HS _ (by repeat (first | assumption | exact Below.refl _ _ | refine Below.drew ?_ | refine Below.alloc ?_ (by first | omega | (simp; done) | (simp; omega)) _))) (fun _ => ?_)
        clear hK K
        try simp only [Act.put, List.setIfInBounds_toArray, List.set_cons_zero, List.set_cons_succ]
        refine wpAnyG_ready [16] (by kernel_rfl) (by simp) ?_
        refine AllReadyG.cons 16 (by rfl) (fun K hK => ?_) ?_
        · simp only [List.getElem_toArray, List.getElem_cons_succ, List.getElem_cons_zero]
          refine if_wanted (by rfl) (wp_app32 (w := w5) _ _ (by rfl) W3.heap.size _ _ (l.take j) (l.drop m) (by rfl) (by rfl) (by rw [List.length_take, Nat.min_eq_left (by omega)]; exact hown5) (unhide HU _ hb5) (l.length - 1) (by have := unhide HM; rw [List.length_take, List.length_drop]; omega) (by omega) (by omega) ?_)
          intro a6 c6 w6 hown6 hg6 ho6
          have hb6 : Below W3.heap.size W3 w6 := hb5.grown hg6 (by omega) hlt5
          have HQ := hide (unhide HR _ w6 hb6 hown6)
          have d0 : w6.cell? ⟨x, 0, none⟩ = some (.slice (some ⟨g, 0, none⟩) l.length c) := unhide HS _ hb6
          have df : w6.frozen? ⟨x, 0, none⟩ = false := (hb6.frozen (p := ⟨x, 0, none⟩) hxl3).trans hfz3
          clear hg6 ho6
          refine hK.out _ _ (unhide HS _ (by repeat (first | assumption | exact Below.refl _ _ | refine Below.drew ?_ | refine Below.alloc ?_ (by first | omega | (simp; done) | (simp; omega)) _))) (fun _ => ?_)
          clear hK K
          try simp only [Act.put, List.setIfInBounds_toArray, List.set_cons_zero, List.set_cons_succ]
          refine wpAnyG_ready [17] (by kernel_rfl) (by simp) ?_
          refine AllReadyG.cons 17 (by rfl) (fun K hK => ?_) ?_
          · simp only [List.getElem_toArray, List.getElem_cons_succ, List.getElem_cons_zero]
            go_simp
            refine hK.out _ _ (unhide HS _ hb6) (fun _ => ?_)
            clear hK K
            try simp only [Act.put, List.setIfInBounds_toArray, List.set_cons_zero, List.set_cons_succ]
            refine wpAnyG_take (v := ?_) 18 (by rfl) (by kernel_rfl) (by kernel_rfl) (by kernel_rfl) (by kernel_rfl) (fun _ _ _ h => h) (Or.inl ⟨by rfl, ?_⟩) (by assumption) ?_
            rotate_left
            · (intro w' hSw; (try dsimp only at hSw); (try simp only [List.getElem_toArray, List.getElem_cons_succ, List.getElem_cons_zero]); go_simp; try (with_reducible rfl))
            simp only [Act.put, List.getElem_toArray, List.getElem_cons_succ, List.getElem_cons_zero, List.setIfInBounds_toArray, List.set_cons_zero, List.set_cons_succ]
            refine wpAnyG_ready [19] (by kernel_rfl) (by simp) ?_
            refine AllReadyG.last 19 (by rfl) (by kernel_rfl) (fun K hK => ?_) ?_
            · simp only [List.getElem_toArray, List.getElem_cons_succ, List.getElem_cons_zero]
              go_simp
              refine hK.out _ _ ?_
              clear hK K
              try simp only [Act.put, List.setIfInBounds_toArray, List.set_cons_zero, List.set_cons_succ]
              refine wpAnyG_done (by kernel_rfl) ?_ _
              refine NoPanic.normal ?_
              go_wp2
              rw [unhide HP, unhide HL]
              exact ⟨rfl, _, ⟨_, _, (unhide HQ).1, unhide HRL⟩, (unhide HQ).2.1, (unhide HQ).2.2⟩
            exact AllReadyG.nil
          exact AllReadyG.nil
        exact AllReadyG.nil
      exact AllReadyG.nil
    exact AllReadyG.nil
end Go.Proofs.Ytfcknfodejnhnab


