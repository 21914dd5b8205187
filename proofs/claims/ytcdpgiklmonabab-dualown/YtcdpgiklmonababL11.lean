/- What the proof needs, part 11. -/
import Derived.Test.YtcdpgiklmonababL10
/- The law DualKnown, walked. -/
namespace Go.Proofs.Ytcdpgiklmonabab
open Go Go.RowKit

theorem at_alloc (w : World) (o : Obj) {k : Nat} (hk : w.heap.size = k) : (w.alloc o).heap[k]? = some o := by subst hk; exact heap_alloc_new w o
theorem at_keep {w : World} {o p : Obj} {k : Nat} (h : w.heap[k]? = some o) : (w.alloc p).heap[k]? = some o := (((Below.refl w.heap.size w).alloc (Nat.le_refl _) p).block k (heap_lt h)).trans h
theorem cell_obj {w : World} {g : Nat} {a : Array Value} {t : TypeId} (h : w.heap[g]? = some (.cells a t)) (w' : World) (hb : Below w.heap.size w w') (k : Nat) : w'.cell? ⟨g, k, none⟩ = a[k]? := by
  rw [cell_of_row _ _ _ _ _ _ ((hb.block _ (heap_lt h)).trans h)]
theorem ints_obj {w : World} {g : Nat} {l : List Int} {t : TypeId} (h : w.heap[g]? = some (.cells (l.map (Value.int .i64)).toArray t)) (w' : World) (hb : Below w.heap.size w w') (hl : l.length ≤ 100) : Ints w' (.slice (some ⟨g, 0, none⟩) l.length l.length) l := by
  refine ⟨some ⟨g, 0, none⟩, l.length, rfl, Nat.le_refl _, ?_, fun k hk => ⟨g, 0, rfl, Nat.lt_of_lt_of_le (heap_lt h) hb.size, ?_⟩⟩
  · unfold maxLen; have := hl; omega
  · rw [cell_obj h w' hb]
    simp [hk]
theorem perm_mk (l : List Int) (hb : ∀ x ∈ l, 0 ≤ x ∧ x < (l.length : Int)) (hn : l.Nodup) : Sp.Perm l := by
  refine ⟨hb, fun i j hi hj e => ?_⟩
  rw [Sp.getD_eq _ _ hi, Sp.getD_eq _ _ hj] at e
  have hp := List.pairwise_iff_getElem.1 hn
  rcases Nat.lt_trichotomy i j with h | h | h
  · exact absurd e (hp i j hi hj h)
  · exact h
  · exact absurd e.symm (hp j i hj hi h)
theorem known_step {w2 w : World} {n : Nat} (hs : w.heap.size = n) (hb : Below w2.heap.size w2 w) (o : Obj) : (w.alloc o).heap.size = n + 1 ∧ Below w2.heap.size w2 (w.alloc o) ∧ (w.alloc o).heap[n]? = some o :=
  ⟨by simp [hs], hb.alloc hb.size o, at_alloc w o hs⟩
theorem known_objs (w2 WL : World) (hW : WL = ((((((((((((((((((((w2.alloc (.cells #[.int .i64 0, .int .i64 1] 3)).alloc (.cells #[.int .i64 0, .int .i64 1] 3)).alloc (.cells #[.int .i64 5, .int .i64 3] 3)).alloc (.cells #[.int .i64 0, .int .i64 0] 3)).alloc (.cells #[.int .i64 1, .int .i64 0] 3)).alloc (.cells #[.int .i64 5, .int .i64 3] 3)).alloc (.cells #[.int .i64 0, .int .i64 1, .int .i64 0, .int .i64 1] 3)).alloc (.cells #[.int .i64 2, .int .i64 3, .int .i64 0, .int .i64 1] 3)).alloc (.cells #[.int .i64 5, .int .i64 3, .int .i64 2, .int .i64 1] 3)).alloc (.cells #[.int .i64 1, .slice none 0 0, .slice none 0 0, .slice none 0 0, .int .i64 2, .slice (some ⟨w2.heap.size, 0, none⟩) 2 2, .slice (some ⟨w2.heap.size + 1, 0, none⟩) 2 2, .slice (some ⟨w2.heap.size + 1 + 1, 0, none⟩) 2 2, .int .i64 1, .slice (some ⟨w2.heap.size + 1 + 1 + 1, 0, none⟩) 2 2, .slice (some ⟨w2.heap.size + 1 + 1 + 1 + 1, 0, none⟩) 2 2, .slice (some ⟨w2.heap.size + 1 + 1 + 1 + 1 + 1, 0, none⟩) 2 2, .int .i64 2, .slice (some ⟨w2.heap.size + 1 + 1 + 1 + 1 + 1 + 1, 0, none⟩) 4 4, .slice (some ⟨w2.heap.size + 1 + 1 + 1 + 1 + 1 + 1 + 1, 0, none⟩) 4 4, .slice (some ⟨w2.heap.size + 1 + 1 + 1 + 1 + 1 + 1 + 1 + 1, 0, none⟩) 4 4] 25)).alloc (.cells #[.int .i64 0, .int .i64 0] 3)).alloc (.cells #[.int .i64 1, .int .i64 0] 3)).alloc (.cells #[.int .i64 5, .int .i64 3] 3)).alloc (.cells #[.int .i64 0, .int .i64 1] 3)).alloc (.cells #[.int .i64 0, .int .i64 1] 3)).alloc (.cells #[.int .i64 5, .int .i64 3] 3)).alloc (.cells #[.int .i64 0, .int .i64 1, .int .i64 1, .int .i64 0] 3)).alloc (.cells #[.int .i64 3, .int .i64 2, .int .i64 1, .int .i64 0] 3)).alloc (.cells #[.int .i64 5, .int .i64 3, .int .i64 2, .int .i64 1] 3)).alloc (.cells #[.int .i64 1, .slice none 0 0, .slice none 0 0, .slice none 0 0, .int .i64 1, .slice (some ⟨w2.heap.size + 1 + 1 + 1 + 1 + 1 + 1 + 1 + 1 + 1 + 1, 0, none⟩) 2 2, .slice (some ⟨w2.heap.size + 1 + 1 + 1 + 1 + 1 + 1 + 1 + 1 + 1 + 1 + 1, 0, none⟩) 2 2, .slice (some ⟨w2.heap.size + 1 + 1 + 1 + 1 + 1 + 1 + 1 + 1 + 1 + 1 + 1 + 1, 0, none⟩) 2 2, .int .i64 2, .slice (some ⟨w2.heap.size + 1 + 1 + 1 + 1 + 1 + 1 + 1 + 1 + 1 + 1 + 1 + 1 + 1, 0, none⟩) 2 2, .slice (some ⟨w2.heap.size + 1 + 1 + 1 + 1 + 1 + 1 + 1 + 1 + 1 + 1 + 1 + 1 + 1 + 1, 0, none⟩) 2 2, .slice (some ⟨w2.heap.size + 1 + 1 + 1 + 1 + 1 + 1 + 1 + 1 + 1 + 1 + 1 + 1 + 1 + 1 + 1, 0, none⟩) 2 2, .int .i64 2, .slice (some ⟨w2.heap.size + 1 + 1 + 1 + 1 + 1 + 1 + 1 + 1 + 1 + 1 + 1 + 1 + 1 + 1 + 1 + 1, 0, none⟩) 4 4, .slice (some ⟨w2.heap.size + 1 + 1 + 1 + 1 + 1 + 1 + 1 + 1 + 1 + 1 + 1 + 1 + 1 + 1 + 1 + 1 + 1, 0, none⟩) 4 4, .slice (some ⟨w2.heap.size + 1 + 1 + 1 + 1 + 1 + 1 + 1 + 1 + 1 + 1 + 1 + 1 + 1 + 1 + 1 + 1 + 1 + 1, 0, none⟩) 4 4] 25))) : Below w2.heap.size w2 WL
    ∧ WL.heap[w2.heap.size]? = some (.cells #[.int .i64 0, .int .i64 1] 3)
    ∧ WL.heap[w2.heap.size + 1]? = some (.cells #[.int .i64 0, .int .i64 1] 3)
    ∧ WL.heap[w2.heap.size + 1 + 1]? = some (.cells #[.int .i64 5, .int .i64 3] 3)
    ∧ WL.heap[w2.heap.size + 1 + 1 + 1]? = some (.cells #[.int .i64 0, .int .i64 0] 3)
    ∧ WL.heap[w2.heap.size + 1 + 1 + 1 + 1]? = some (.cells #[.int .i64 1, .int .i64 0] 3)
    ∧ WL.heap[w2.heap.size + 1 + 1 + 1 + 1 + 1]? = some (.cells #[.int .i64 5, .int .i64 3] 3)
    ∧ WL.heap[w2.heap.size + 1 + 1 + 1 + 1 + 1 + 1]? = some (.cells #[.int .i64 0, .int .i64 1, .int .i64 0, .int .i64 1] 3)
    ∧ WL.heap[w2.heap.size + 1 + 1 + 1 + 1 + 1 + 1 + 1]? = some (.cells #[.int .i64 2, .int .i64 3, .int .i64 0, .int .i64 1] 3)
    ∧ WL.heap[w2.heap.size + 1 + 1 + 1 + 1 + 1 + 1 + 1 + 1]? = some (.cells #[.int .i64 5, .int .i64 3, .int .i64 2, .int .i64 1] 3)
    ∧ WL.heap[w2.heap.size + 1 + 1 + 1 + 1 + 1 + 1 + 1 + 1 + 1]? = some (.cells #[.int .i64 1, .slice none 0 0, .slice none 0 0, .slice none 0 0, .int .i64 2, .slice (some ⟨w2.heap.size, 0, none⟩) 2 2, .slice (some ⟨w2.heap.size + 1, 0, none⟩) 2 2, .slice (some ⟨w2.heap.size + 1 + 1, 0, none⟩) 2 2, .int .i64 1, .slice (some ⟨w2.heap.size + 1 + 1 + 1, 0, none⟩) 2 2, .slice (some ⟨w2.heap.size + 1 + 1 + 1 + 1, 0, none⟩) 2 2, .slice (some ⟨w2.heap.size + 1 + 1 + 1 + 1 + 1, 0, none⟩) 2 2, .int .i64 2, .slice (some ⟨w2.heap.size + 1 + 1 + 1 + 1 + 1 + 1, 0, none⟩) 4 4, .slice (some ⟨w2.heap.size + 1 + 1 + 1 + 1 + 1 + 1 + 1, 0, none⟩) 4 4, .slice (some ⟨w2.heap.size + 1 + 1 + 1 + 1 + 1 + 1 + 1 + 1, 0, none⟩) 4 4] 25)
    ∧ WL.heap[w2.heap.size + 1 + 1 + 1 + 1 + 1 + 1 + 1 + 1 + 1 + 1]? = some (.cells #[.int .i64 0, .int .i64 0] 3)
    ∧ WL.heap[w2.heap.size + 1 + 1 + 1 + 1 + 1 + 1 + 1 + 1 + 1 + 1 + 1]? = some (.cells #[.int .i64 1, .int .i64 0] 3)
    ∧ WL.heap[w2.heap.size + 1 + 1 + 1 + 1 + 1 + 1 + 1 + 1 + 1 + 1 + 1 + 1]? = some (.cells #[.int .i64 5, .int .i64 3] 3)
    ∧ WL.heap[w2.heap.size + 1 + 1 + 1 + 1 + 1 + 1 + 1 + 1 + 1 + 1 + 1 + 1 + 1]? = some (.cells #[.int .i64 0, .int .i64 1] 3)
    ∧ WL.heap[w2.heap.size + 1 + 1 + 1 + 1 + 1 + 1 + 1 + 1 + 1 + 1 + 1 + 1 + 1 + 1]? = some (.cells #[.int .i64 0, .int .i64 1] 3)
    ∧ WL.heap[w2.heap.size + 1 + 1 + 1 + 1 + 1 + 1 + 1 + 1 + 1 + 1 + 1 + 1 + 1 + 1 + 1]? = some (.cells #[.int .i64 5, .int .i64 3] 3)
    ∧ WL.heap[w2.heap.size + 1 + 1 + 1 + 1 + 1 + 1 + 1 + 1 + 1 + 1 + 1 + 1 + 1 + 1 + 1 + 1]? = some (.cells #[.int .i64 0, .int .i64 1, .int .i64 1, .int .i64 0] 3)
    ∧ WL.heap[w2.heap.size + 1 + 1 + 1 + 1 + 1 + 1 + 1 + 1 + 1 + 1 + 1 + 1 + 1 + 1 + 1 + 1 + 1]? = some (.cells #[.int .i64 3, .int .i64 2, .int .i64 1, .int .i64 0] 3)
    ∧ WL.heap[w2.heap.size + 1 + 1 + 1 + 1 + 1 + 1 + 1 + 1 + 1 + 1 + 1 + 1 + 1 + 1 + 1 + 1 + 1 + 1]? = some (.cells #[.int .i64 5, .int .i64 3, .int .i64 2, .int .i64 1] 3)
    ∧ WL.heap[w2.heap.size + 1 + 1 + 1 + 1 + 1 + 1 + 1 + 1 + 1 + 1 + 1 + 1 + 1 + 1 + 1 + 1 + 1 + 1 + 1]? = some (.cells #[.int .i64 1, .slice none 0 0, .slice none 0 0, .slice none 0 0, .int .i64 1, .slice (some ⟨w2.heap.size + 1 + 1 + 1 + 1 + 1 + 1 + 1 + 1 + 1 + 1, 0, none⟩) 2 2, .slice (some ⟨w2.heap.size + 1 + 1 + 1 + 1 + 1 + 1 + 1 + 1 + 1 + 1 + 1, 0, none⟩) 2 2, .slice (some ⟨w2.heap.size + 1 + 1 + 1 + 1 + 1 + 1 + 1 + 1 + 1 + 1 + 1 + 1, 0, none⟩) 2 2, .int .i64 2, .slice (some ⟨w2.heap.size + 1 + 1 + 1 + 1 + 1 + 1 + 1 + 1 + 1 + 1 + 1 + 1 + 1, 0, none⟩) 2 2, .slice (some ⟨w2.heap.size + 1 + 1 + 1 + 1 + 1 + 1 + 1 + 1 + 1 + 1 + 1 + 1 + 1 + 1, 0, none⟩) 2 2, .slice (some ⟨w2.heap.size + 1 + 1 + 1 + 1 + 1 + 1 + 1 + 1 + 1 + 1 + 1 + 1 + 1 + 1 + 1, 0, none⟩) 2 2, .int .i64 2, .slice (some ⟨w2.heap.size + 1 + 1 + 1 + 1 + 1 + 1 + 1 + 1 + 1 + 1 + 1 + 1 + 1 + 1 + 1 + 1, 0, none⟩) 4 4, .slice (some ⟨w2.heap.size + 1 + 1 + 1 + 1 + 1 + 1 + 1 + 1 + 1 + 1 + 1 + 1 + 1 + 1 + 1 + 1 + 1, 0, none⟩) 4 4, .slice (some ⟨w2.heap.size + 1 + 1 + 1 + 1 + 1 + 1 + 1 + 1 + 1 + 1 + 1 + 1 + 1 + 1 + 1 + 1 + 1 + 1, 0, none⟩) 4 4] 25) := by
  subst hW
  have s0 : w2.heap.size = w2.heap.size := rfl
  have b0 : Below w2.heap.size w2 w2 := Below.refl _ _
  obtain ⟨s1, b1, f0⟩ := known_step s0 b0 (.cells #[.int .i64 0, .int .i64 1] 3)
  obtain ⟨s2, b2, f1⟩ := known_step s1 b1 (.cells #[.int .i64 0, .int .i64 1] 3)
  obtain ⟨s3, b3, f2⟩ := known_step s2 b2 (.cells #[.int .i64 5, .int .i64 3] 3)
  obtain ⟨s4, b4, f3⟩ := known_step s3 b3 (.cells #[.int .i64 0, .int .i64 0] 3)
  obtain ⟨s5, b5, f4⟩ := known_step s4 b4 (.cells #[.int .i64 1, .int .i64 0] 3)
  obtain ⟨s6, b6, f5⟩ := known_step s5 b5 (.cells #[.int .i64 5, .int .i64 3] 3)
  obtain ⟨s7, b7, f6⟩ := known_step s6 b6 (.cells #[.int .i64 0, .int .i64 1, .int .i64 0, .int .i64 1] 3)
  obtain ⟨s8, b8, f7⟩ := known_step s7 b7 (.cells #[.int .i64 2, .int .i64 3, .int .i64 0, .int .i64 1] 3)
  obtain ⟨s9, b9, f8⟩ := known_step s8 b8 (.cells #[.int .i64 5, .int .i64 3, .int .i64 2, .int .i64 1] 3)
  obtain ⟨s10, b10, f9⟩ := known_step s9 b9 (.cells #[.int .i64 1, .slice none 0 0, .slice none 0 0, .slice none 0 0, .int .i64 2, .slice (some ⟨w2.heap.size, 0, none⟩) 2 2, .slice (some ⟨w2.heap.size + 1, 0, none⟩) 2 2, .slice (some ⟨w2.heap.size + 1 + 1, 0, none⟩) 2 2, .int .i64 1, .slice (some ⟨w2.heap.size + 1 + 1 + 1, 0, none⟩) 2 2, .slice (some ⟨w2.heap.size + 1 + 1 + 1 + 1, 0, none⟩) 2 2, .slice (some ⟨w2.heap.size + 1 + 1 + 1 + 1 + 1, 0, none⟩) 2 2, .int .i64 2, .slice (some ⟨w2.heap.size + 1 + 1 + 1 + 1 + 1 + 1, 0, none⟩) 4 4, .slice (some ⟨w2.heap.size + 1 + 1 + 1 + 1 + 1 + 1 + 1, 0, none⟩) 4 4, .slice (some ⟨w2.heap.size + 1 + 1 + 1 + 1 + 1 + 1 + 1 + 1, 0, none⟩) 4 4] 25)
  obtain ⟨s11, b11, f10⟩ := known_step s10 b10 (.cells #[.int .i64 0, .int .i64 0] 3)
  obtain ⟨s12, b12, f11⟩ := known_step s11 b11 (.cells #[.int .i64 1, .int .i64 0] 3)
  obtain ⟨s13, b13, f12⟩ := known_step s12 b12 (.cells #[.int .i64 5, .int .i64 3] 3)
  obtain ⟨s14, b14, f13⟩ := known_step s13 b13 (.cells #[.int .i64 0, .int .i64 1] 3)
  obtain ⟨s15, b15, f14⟩ := known_step s14 b14 (.cells #[.int .i64 0, .int .i64 1] 3)
  obtain ⟨s16, b16, f15⟩ := known_step s15 b15 (.cells #[.int .i64 5, .int .i64 3] 3)
  obtain ⟨s17, b17, f16⟩ := known_step s16 b16 (.cells #[.int .i64 0, .int .i64 1, .int .i64 1, .int .i64 0] 3)
  obtain ⟨s18, b18, f17⟩ := known_step s17 b17 (.cells #[.int .i64 3, .int .i64 2, .int .i64 1, .int .i64 0] 3)
  obtain ⟨s19, b19, f18⟩ := known_step s18 b18 (.cells #[.int .i64 5, .int .i64 3, .int .i64 2, .int .i64 1] 3)
  obtain ⟨s20, b20, f19⟩ := known_step s19 b19 (.cells #[.int .i64 1, .slice none 0 0, .slice none 0 0, .slice none 0 0, .int .i64 1, .slice (some ⟨w2.heap.size + 1 + 1 + 1 + 1 + 1 + 1 + 1 + 1 + 1 + 1, 0, none⟩) 2 2, .slice (some ⟨w2.heap.size + 1 + 1 + 1 + 1 + 1 + 1 + 1 + 1 + 1 + 1 + 1, 0, none⟩) 2 2, .slice (some ⟨w2.heap.size + 1 + 1 + 1 + 1 + 1 + 1 + 1 + 1 + 1 + 1 + 1 + 1, 0, none⟩) 2 2, .int .i64 2, .slice (some ⟨w2.heap.size + 1 + 1 + 1 + 1 + 1 + 1 + 1 + 1 + 1 + 1 + 1 + 1 + 1, 0, none⟩) 2 2, .slice (some ⟨w2.heap.size + 1 + 1 + 1 + 1 + 1 + 1 + 1 + 1 + 1 + 1 + 1 + 1 + 1 + 1, 0, none⟩) 2 2, .slice (some ⟨w2.heap.size + 1 + 1 + 1 + 1 + 1 + 1 + 1 + 1 + 1 + 1 + 1 + 1 + 1 + 1 + 1, 0, none⟩) 2 2, .int .i64 2, .slice (some ⟨w2.heap.size + 1 + 1 + 1 + 1 + 1 + 1 + 1 + 1 + 1 + 1 + 1 + 1 + 1 + 1 + 1 + 1, 0, none⟩) 4 4, .slice (some ⟨w2.heap.size + 1 + 1 + 1 + 1 + 1 + 1 + 1 + 1 + 1 + 1 + 1 + 1 + 1 + 1 + 1 + 1 + 1, 0, none⟩) 4 4, .slice (some ⟨w2.heap.size + 1 + 1 + 1 + 1 + 1 + 1 + 1 + 1 + 1 + 1 + 1 + 1 + 1 + 1 + 1 + 1 + 1 + 1, 0, none⟩) 4 4] 25)
  exact ⟨b20, at_keep (at_keep (at_keep (at_keep (at_keep (at_keep (at_keep (at_keep (at_keep (at_keep (at_keep (at_keep (at_keep (at_keep (at_keep (at_keep (at_keep (at_keep (at_keep (f0))))))))))))))))))), at_keep (at_keep (at_keep (at_keep (at_keep (at_keep (at_keep (at_keep (at_keep (at_keep (at_keep (at_keep (at_keep (at_keep (at_keep (at_keep (at_keep (at_keep (f1)))))))))))))))))), at_keep (at_keep (at_keep (at_keep (at_keep (at_keep (at_keep (at_keep (at_keep (at_keep (at_keep (at_keep (at_keep (at_keep (at_keep (at_keep (at_keep (f2))))))))))))))))), at_keep (at_keep (at_keep (at_keep (at_keep (at_keep (at_keep (at_keep (at_keep (at_keep (at_keep (at_keep (at_keep (at_keep (at_keep (at_keep (f3)))))))))))))))), at_keep (at_keep (at_keep (at_keep (at_keep (at_keep (at_keep (at_keep (at_keep (at_keep (at_keep (at_keep (at_keep (at_keep (at_keep (f4))))))))))))))), at_keep (at_keep (at_keep (at_keep (at_keep (at_keep (at_keep (at_keep (at_keep (at_keep (at_keep (at_keep (at_keep (at_keep (f5)))))))))))))), at_keep (at_keep (at_keep (at_keep (at_keep (at_keep (at_keep (at_keep (at_keep (at_keep (at_keep (at_keep (at_keep (f6))))))))))))), at_keep (at_keep (at_keep (at_keep (at_keep (at_keep (at_keep (at_keep (at_keep (at_keep (at_keep (at_keep (f7)))))))))))), at_keep (at_keep (at_keep (at_keep (at_keep (at_keep (at_keep (at_keep (at_keep (at_keep (at_keep (f8))))))))))), at_keep (at_keep (at_keep (at_keep (at_keep (at_keep (at_keep (at_keep (at_keep (at_keep (f9)))))))))), at_keep (at_keep (at_keep (at_keep (at_keep (at_keep (at_keep (at_keep (at_keep (f10))))))))), at_keep (at_keep (at_keep (at_keep (at_keep (at_keep (at_keep (at_keep (f11)))))))), at_keep (at_keep (at_keep (at_keep (at_keep (at_keep (at_keep (f12))))))), at_keep (at_keep (at_keep (at_keep (at_keep (at_keep (f13)))))), at_keep (at_keep (at_keep (at_keep (at_keep (f14))))), at_keep (at_keep (at_keep (at_keep (f15)))), at_keep (at_keep (at_keep (f16))), at_keep (at_keep (f17)), at_keep (f18), f19⟩
theorem known_nets (w2 WL : World) (hW : WL = ((((((((((((((((((((w2.alloc (.cells #[.int .i64 0, .int .i64 1] 3)).alloc (.cells #[.int .i64 0, .int .i64 1] 3)).alloc (.cells #[.int .i64 5, .int .i64 3] 3)).alloc (.cells #[.int .i64 0, .int .i64 0] 3)).alloc (.cells #[.int .i64 1, .int .i64 0] 3)).alloc (.cells #[.int .i64 5, .int .i64 3] 3)).alloc (.cells #[.int .i64 0, .int .i64 1, .int .i64 0, .int .i64 1] 3)).alloc (.cells #[.int .i64 2, .int .i64 3, .int .i64 0, .int .i64 1] 3)).alloc (.cells #[.int .i64 5, .int .i64 3, .int .i64 2, .int .i64 1] 3)).alloc (.cells #[.int .i64 1, .slice none 0 0, .slice none 0 0, .slice none 0 0, .int .i64 2, .slice (some ⟨w2.heap.size, 0, none⟩) 2 2, .slice (some ⟨w2.heap.size + 1, 0, none⟩) 2 2, .slice (some ⟨w2.heap.size + 1 + 1, 0, none⟩) 2 2, .int .i64 1, .slice (some ⟨w2.heap.size + 1 + 1 + 1, 0, none⟩) 2 2, .slice (some ⟨w2.heap.size + 1 + 1 + 1 + 1, 0, none⟩) 2 2, .slice (some ⟨w2.heap.size + 1 + 1 + 1 + 1 + 1, 0, none⟩) 2 2, .int .i64 2, .slice (some ⟨w2.heap.size + 1 + 1 + 1 + 1 + 1 + 1, 0, none⟩) 4 4, .slice (some ⟨w2.heap.size + 1 + 1 + 1 + 1 + 1 + 1 + 1, 0, none⟩) 4 4, .slice (some ⟨w2.heap.size + 1 + 1 + 1 + 1 + 1 + 1 + 1 + 1, 0, none⟩) 4 4] 25)).alloc (.cells #[.int .i64 0, .int .i64 0] 3)).alloc (.cells #[.int .i64 1, .int .i64 0] 3)).alloc (.cells #[.int .i64 5, .int .i64 3] 3)).alloc (.cells #[.int .i64 0, .int .i64 1] 3)).alloc (.cells #[.int .i64 0, .int .i64 1] 3)).alloc (.cells #[.int .i64 5, .int .i64 3] 3)).alloc (.cells #[.int .i64 0, .int .i64 1, .int .i64 1, .int .i64 0] 3)).alloc (.cells #[.int .i64 3, .int .i64 2, .int .i64 1, .int .i64 0] 3)).alloc (.cells #[.int .i64 5, .int .i64 3, .int .i64 2, .int .i64 1] 3)).alloc (.cells #[.int .i64 1, .slice none 0 0, .slice none 0 0, .slice none 0 0, .int .i64 1, .slice (some ⟨w2.heap.size + 1 + 1 + 1 + 1 + 1 + 1 + 1 + 1 + 1 + 1, 0, none⟩) 2 2, .slice (some ⟨w2.heap.size + 1 + 1 + 1 + 1 + 1 + 1 + 1 + 1 + 1 + 1 + 1, 0, none⟩) 2 2, .slice (some ⟨w2.heap.size + 1 + 1 + 1 + 1 + 1 + 1 + 1 + 1 + 1 + 1 + 1 + 1, 0, none⟩) 2 2, .int .i64 2, .slice (some ⟨w2.heap.size + 1 + 1 + 1 + 1 + 1 + 1 + 1 + 1 + 1 + 1 + 1 + 1 + 1, 0, none⟩) 2 2, .slice (some ⟨w2.heap.size + 1 + 1 + 1 + 1 + 1 + 1 + 1 + 1 + 1 + 1 + 1 + 1 + 1 + 1, 0, none⟩) 2 2, .slice (some ⟨w2.heap.size + 1 + 1 + 1 + 1 + 1 + 1 + 1 + 1 + 1 + 1 + 1 + 1 + 1 + 1 + 1, 0, none⟩) 2 2, .int .i64 2, .slice (some ⟨w2.heap.size + 1 + 1 + 1 + 1 + 1 + 1 + 1 + 1 + 1 + 1 + 1 + 1 + 1 + 1 + 1 + 1, 0, none⟩) 4 4, .slice (some ⟨w2.heap.size + 1 + 1 + 1 + 1 + 1 + 1 + 1 + 1 + 1 + 1 + 1 + 1 + 1 + 1 + 1 + 1 + 1, 0, none⟩) 4 4, .slice (some ⟨w2.heap.size + 1 + 1 + 1 + 1 + 1 + 1 + 1 + 1 + 1 + 1 + 1 + 1 + 1 + 1 + 1 + 1 + 1 + 1, 0, none⟩) 4 4] 25))) : ∀ i, i < 4 → ∃ (q r : Sp.Net) (tv nv cv tv' nv' cv' : Value), Sp.LinkQ q ∧ Sp.dual q = r ∧ (r.tail.length ≤ 100 ∧ r.next.length ≤ 100 ∧ r.cap.length ≤ 100) ∧ ∀ w', Below WL.heap.size WL w' → ((w'.cell? ⟨w2.heap.size + 1 + 1 + 1 + 1 + 1 + 1 + 1 + 1 + 1, i * 4, none⟩ = some (.int .i64 q.n) ∧ w'.cell? ⟨w2.heap.size + 1 + 1 + 1 + 1 + 1 + 1 + 1 + 1 + 1, i * 4 + 1, none⟩ = some tv ∧ w'.cell? ⟨w2.heap.size + 1 + 1 + 1 + 1 + 1 + 1 + 1 + 1 + 1, i * 4 + 2, none⟩ = some nv ∧ w'.cell? ⟨w2.heap.size + 1 + 1 + 1 + 1 + 1 + 1 + 1 + 1 + 1, i * 4 + 3, none⟩ = some cv) ∧ w'.cell? ⟨w2.heap.size + 1 + 1 + 1 + 1 + 1 + 1 + 1 + 1 + 1 + 1 + 1 + 1 + 1 + 1 + 1 + 1 + 1 + 1 + 1, i * 4, none⟩ = some (.int .i64 r.n) ∧ w'.cell? ⟨w2.heap.size + 1 + 1 + 1 + 1 + 1 + 1 + 1 + 1 + 1 + 1 + 1 + 1 + 1 + 1 + 1 + 1 + 1 + 1 + 1, i * 4 + 1, none⟩ = some tv' ∧ w'.cell? ⟨w2.heap.size + 1 + 1 + 1 + 1 + 1 + 1 + 1 + 1 + 1 + 1 + 1 + 1 + 1 + 1 + 1 + 1 + 1 + 1 + 1, i * 4 + 2, none⟩ = some nv' ∧ w'.cell? ⟨w2.heap.size + 1 + 1 + 1 + 1 + 1 + 1 + 1 + 1 + 1 + 1 + 1 + 1 + 1 + 1 + 1 + 1 + 1 + 1 + 1, i * 4 + 3, none⟩ = some cv') ∧ NetI w' (.agg #[.int .i64 q.n, tv, nv, cv]) q tv nv cv ∧ NetI w' (.agg #[.int .i64 r.n, tv', nv', cv']) r tv' nv' cv' := by
  obtain ⟨-, h0, h1, h2, h3, h4, h5, h6, h7, h8, h9, h10, h11, h12, h13, h14, h15, h16, h17, h18, h19⟩ := known_objs w2 WL hW
  clear hW
  intro i hi
  rcases (show i = 0 ∨ i = 1 ∨ i = 2 ∨ i = 3 by omega) with rfl | rfl | rfl | rfl
  · refine ⟨⟨1, [], [], []⟩, ⟨1, [], [], []⟩, .slice none 0 0, .slice none 0 0, .slice none 0 0, .slice none 0 0, .slice none 0 0, .slice none 0 0, ⟨rfl, rfl, by decide, rfl, perm_mk _ (by decide) (by decide)⟩, ?_, by decide, fun w' hb => ⟨⟨⟨?_, ?_, ?_, ?_⟩, ?_, ?_, ?_, ?_⟩, ⟨rfl, ints_nil _, ints_nil _, ints_nil _⟩, ⟨rfl, ints_nil _, ints_nil _, ints_nil _⟩⟩⟩
    · unfold Sp.dual
      rw [show Sp.faces2 ⟨1, [], [], []⟩ = ([], 0) by decide +kernel]
      rfl
    all_goals first
      | exact (cell_obj h9 w' hb _).trans rfl
      | exact (cell_obj h19 w' hb _).trans rfl
  · refine ⟨⟨2, [0, 1], [0, 1], [5, 3]⟩, ⟨1, [0, 0], [1, 0], [5, 3]⟩, (.slice (some ⟨w2.heap.size, 0, none⟩) 2 2), (.slice (some ⟨w2.heap.size + 1, 0, none⟩) 2 2), (.slice (some ⟨w2.heap.size + 1 + 1, 0, none⟩) 2 2), (.slice (some ⟨w2.heap.size + 1 + 1 + 1 + 1 + 1 + 1 + 1 + 1 + 1 + 1, 0, none⟩) 2 2), (.slice (some ⟨w2.heap.size + 1 + 1 + 1 + 1 + 1 + 1 + 1 + 1 + 1 + 1 + 1, 0, none⟩) 2 2), (.slice (some ⟨w2.heap.size + 1 + 1 + 1 + 1 + 1 + 1 + 1 + 1 + 1 + 1 + 1 + 1, 0, none⟩) 2 2), ⟨rfl, rfl, by decide, rfl, perm_mk _ (by decide) (by decide)⟩, ?_, by decide, fun w' hb => ⟨⟨⟨?_, ?_, ?_, ?_⟩, ?_, ?_, ?_, ?_⟩, ⟨rfl, ints_obj (l := [0, 1]) h0 w' hb (by decide), ints_obj (l := [0, 1]) h1 w' hb (by decide), ints_obj (l := [5, 3]) h2 w' hb (by decide)⟩, ⟨rfl, ints_obj (l := [0, 0]) h10 w' hb (by decide), ints_obj (l := [1, 0]) h11 w' hb (by decide), ints_obj (l := [5, 3]) h12 w' hb (by decide)⟩⟩⟩
    · unfold Sp.dual
      rw [show Sp.faces2 ⟨2, [0, 1], [0, 1], [5, 3]⟩ = ([0, 0], 1) by decide +kernel]
      rfl
    all_goals first
      | exact (cell_obj h9 w' hb _).trans rfl
      | exact (cell_obj h19 w' hb _).trans rfl
  · refine ⟨⟨1, [0, 0], [1, 0], [5, 3]⟩, ⟨2, [0, 1], [0, 1], [5, 3]⟩, (.slice (some ⟨w2.heap.size + 1 + 1 + 1, 0, none⟩) 2 2), (.slice (some ⟨w2.heap.size + 1 + 1 + 1 + 1, 0, none⟩) 2 2), (.slice (some ⟨w2.heap.size + 1 + 1 + 1 + 1 + 1, 0, none⟩) 2 2), (.slice (some ⟨w2.heap.size + 1 + 1 + 1 + 1 + 1 + 1 + 1 + 1 + 1 + 1 + 1 + 1 + 1, 0, none⟩) 2 2), (.slice (some ⟨w2.heap.size + 1 + 1 + 1 + 1 + 1 + 1 + 1 + 1 + 1 + 1 + 1 + 1 + 1 + 1, 0, none⟩) 2 2), (.slice (some ⟨w2.heap.size + 1 + 1 + 1 + 1 + 1 + 1 + 1 + 1 + 1 + 1 + 1 + 1 + 1 + 1 + 1, 0, none⟩) 2 2), ⟨rfl, rfl, by decide, rfl, perm_mk _ (by decide) (by decide)⟩, ?_, by decide, fun w' hb => ⟨⟨⟨?_, ?_, ?_, ?_⟩, ?_, ?_, ?_, ?_⟩, ⟨rfl, ints_obj (l := [0, 0]) h3 w' hb (by decide), ints_obj (l := [1, 0]) h4 w' hb (by decide), ints_obj (l := [5, 3]) h5 w' hb (by decide)⟩, ⟨rfl, ints_obj (l := [0, 1]) h13 w' hb (by decide), ints_obj (l := [0, 1]) h14 w' hb (by decide), ints_obj (l := [5, 3]) h15 w' hb (by decide)⟩⟩⟩
    · unfold Sp.dual
      rw [show Sp.faces2 ⟨1, [0, 0], [1, 0], [5, 3]⟩ = ([0, 1], 2) by decide +kernel]
      rfl
    all_goals first
      | exact (cell_obj h9 w' hb _).trans rfl
      | exact (cell_obj h19 w' hb _).trans rfl
  · refine ⟨⟨2, [0, 1, 0, 1], [2, 3, 0, 1], [5, 3, 2, 1]⟩, ⟨2, [0, 1, 1, 0], [3, 2, 1, 0], [5, 3, 2, 1]⟩, (.slice (some ⟨w2.heap.size + 1 + 1 + 1 + 1 + 1 + 1, 0, none⟩) 4 4), (.slice (some ⟨w2.heap.size + 1 + 1 + 1 + 1 + 1 + 1 + 1, 0, none⟩) 4 4), (.slice (some ⟨w2.heap.size + 1 + 1 + 1 + 1 + 1 + 1 + 1 + 1, 0, none⟩) 4 4), (.slice (some ⟨w2.heap.size + 1 + 1 + 1 + 1 + 1 + 1 + 1 + 1 + 1 + 1 + 1 + 1 + 1 + 1 + 1 + 1, 0, none⟩) 4 4), (.slice (some ⟨w2.heap.size + 1 + 1 + 1 + 1 + 1 + 1 + 1 + 1 + 1 + 1 + 1 + 1 + 1 + 1 + 1 + 1 + 1, 0, none⟩) 4 4), (.slice (some ⟨w2.heap.size + 1 + 1 + 1 + 1 + 1 + 1 + 1 + 1 + 1 + 1 + 1 + 1 + 1 + 1 + 1 + 1 + 1 + 1, 0, none⟩) 4 4), ⟨rfl, rfl, by decide, rfl, perm_mk _ (by decide) (by decide)⟩, ?_, by decide, fun w' hb => ⟨⟨⟨?_, ?_, ?_, ?_⟩, ?_, ?_, ?_, ?_⟩, ⟨rfl, ints_obj (l := [0, 1, 0, 1]) h6 w' hb (by decide), ints_obj (l := [2, 3, 0, 1]) h7 w' hb (by decide), ints_obj (l := [5, 3, 2, 1]) h8 w' hb (by decide)⟩, ⟨rfl, ints_obj (l := [0, 1, 1, 0]) h16 w' hb (by decide), ints_obj (l := [3, 2, 1, 0]) h17 w' hb (by decide), ints_obj (l := [5, 3, 2, 1]) h18 w' hb (by decide)⟩⟩⟩
    · unfold Sp.dual
      rw [show Sp.faces2 ⟨2, [0, 1, 0, 1], [2, 3, 0, 1], [5, 3, 2, 1]⟩ = ([0, 1, 1, 0], 2) by decide +kernel]
      rfl
    all_goals first
      | exact (cell_obj h9 w' hb _).trans rfl
      | exact (cell_obj h19 w' hb _).trans rfl
set_option maxRecDepth 100000 in
set_option maxHeartbeats 4000000 in
theorem dualKnown_any (k : Int) (w : World) :
    Calls Try.prog 5 #[.int .i64 k] w fun e w' => e = .returned (.bool true) ∧ Below w.heap.size w w' := by
  obtain ⟨P, hP⟩ : ∃ P : Ending → World → Prop, P = fun e w' => e = .returned (.bool true) ∧ Below w.heap.size w w' := ⟨_, rfl⟩
  rw [← hP]
  have HP := hide hP
  clear hP
  go_enter Try.func5, Try.ntmps5
  go_wp2_with fail
  go_at_call 9
  refine (known3_any w).mono ?_
  rintro e w2 ⟨rfl, hb2⟩
  obtain ⟨WL, hWL⟩ : ∃ WL, WL = ((((((((((((((((((((w2.alloc (.cells #[.int .i64 0, .int .i64 1] 3)).alloc (.cells #[.int .i64 0, .int .i64 1] 3)).alloc (.cells #[.int .i64 5, .int .i64 3] 3)).alloc (.cells #[.int .i64 0, .int .i64 0] 3)).alloc (.cells #[.int .i64 1, .int .i64 0] 3)).alloc (.cells #[.int .i64 5, .int .i64 3] 3)).alloc (.cells #[.int .i64 0, .int .i64 1, .int .i64 0, .int .i64 1] 3)).alloc (.cells #[.int .i64 2, .int .i64 3, .int .i64 0, .int .i64 1] 3)).alloc (.cells #[.int .i64 5, .int .i64 3, .int .i64 2, .int .i64 1] 3)).alloc (.cells #[.int .i64 1, .slice none 0 0, .slice none 0 0, .slice none 0 0, .int .i64 2, .slice (some ⟨w2.heap.size, 0, none⟩) 2 2, .slice (some ⟨w2.heap.size + 1, 0, none⟩) 2 2, .slice (some ⟨w2.heap.size + 1 + 1, 0, none⟩) 2 2, .int .i64 1, .slice (some ⟨w2.heap.size + 1 + 1 + 1, 0, none⟩) 2 2, .slice (some ⟨w2.heap.size + 1 + 1 + 1 + 1, 0, none⟩) 2 2, .slice (some ⟨w2.heap.size + 1 + 1 + 1 + 1 + 1, 0, none⟩) 2 2, .int .i64 2, .slice (some ⟨w2.heap.size + 1 + 1 + 1 + 1 + 1 + 1, 0, none⟩) 4 4, .slice (some ⟨w2.heap.size + 1 + 1 + 1 + 1 + 1 + 1 + 1, 0, none⟩) 4 4, .slice (some ⟨w2.heap.size + 1 + 1 + 1 + 1 + 1 + 1 + 1 + 1, 0, none⟩) 4 4] 25)).alloc (.cells #[.int .i64 0, .int .i64 0] 3)).alloc (.cells #[.int .i64 1, .int .i64 0] 3)).alloc (.cells #[.int .i64 5, .int .i64 3] 3)).alloc (.cells #[.int .i64 0, .int .i64 1] 3)).alloc (.cells #[.int .i64 0, .int .i64 1] 3)).alloc (.cells #[.int .i64 5, .int .i64 3] 3)).alloc (.cells #[.int .i64 0, .int .i64 1, .int .i64 1, .int .i64 0] 3)).alloc (.cells #[.int .i64 3, .int .i64 2, .int .i64 1, .int .i64 0] 3)).alloc (.cells #[.int .i64 5, .int .i64 3, .int .i64 2, .int .i64 1] 3)).alloc (.cells #[.int .i64 1, .slice none 0 0, .slice none 0 0, .slice none 0 0, .int .i64 1, .slice (some ⟨w2.heap.size + 1 + 1 + 1 + 1 + 1 + 1 + 1 + 1 + 1 + 1, 0, none⟩) 2 2, .slice (some ⟨w2.heap.size + 1 + 1 + 1 + 1 + 1 + 1 + 1 + 1 + 1 + 1 + 1, 0, none⟩) 2 2, .slice (some ⟨w2.heap.size + 1 + 1 + 1 + 1 + 1 + 1 + 1 + 1 + 1 + 1 + 1 + 1, 0, none⟩) 2 2, .int .i64 2, .slice (some ⟨w2.heap.size + 1 + 1 + 1 + 1 + 1 + 1 + 1 + 1 + 1 + 1 + 1 + 1 + 1, 0, none⟩) 2 2, .slice (some ⟨w2.heap.size + 1 + 1 + 1 + 1 + 1 + 1 + 1 + 1 + 1 + 1 + 1 + 1 + 1 + 1, 0, none⟩) 2 2, .slice (some ⟨w2.heap.size + 1 + 1 + 1 + 1 + 1 + 1 + 1 + 1 + 1 + 1 + 1 + 1 + 1 + 1 + 1, 0, none⟩) 2 2, .int .i64 2, .slice (some ⟨w2.heap.size + 1 + 1 + 1 + 1 + 1 + 1 + 1 + 1 + 1 + 1 + 1 + 1 + 1 + 1 + 1 + 1, 0, none⟩) 4 4, .slice (some ⟨w2.heap.size + 1 + 1 + 1 + 1 + 1 + 1 + 1 + 1 + 1 + 1 + 1 + 1 + 1 + 1 + 1 + 1 + 1, 0, none⟩) 4 4, .slice (some ⟨w2.heap.size + 1 + 1 + 1 + 1 + 1 + 1 + 1 + 1 + 1 + 1 + 1 + 1 + 1 + 1 + 1 + 1 + 1 + 1, 0, none⟩) 4 4] 25)) := ⟨_, rfl⟩
  have HB := hide (hb2.trans ((known_objs w2 WL hWL).1.mono hb2.size))
  have HALL := hide (known_nets w2 WL hWL)
  have HWL := hide hWL
  clear hb2 hWL
  go_wp2_with fail
  rw [← unhide HWL]
  clear HWL
  have h0 := Int.emod_nonneg k (b := 4) (by decide)
  have h1 := Int.emod_lt_of_pos k (b := 4) (by decide)
  have HW := hide (within3_any k 4 WL (by decide) (by decide))
  obtain ⟨i, hi⟩ : ∃ i : Nat, k % 4 = (i : Int) := ⟨(k % 4).toNat, by omega⟩
  rw [hi] at HW h1
  have hi4 : i < 4 := by omega
  have hiI : (i : Int) < 4 := by omega
  obtain ⟨q, r, tv, nv, cv, tv', nv', cv', hLq, hD, hR, hS⟩ := unhide HALL i hi4
  have HD := hide hD
  have HMk := hide (fun w' (hb : Below WL.heap.size WL w') => dmake_any q _ _ _ _ w' (hS w' hb).2.1 hLq)
  rw [hD] at HMk
  have HSm := hide (fun w' u tu nu cu (hb : Below WL.heap.size WL w') (h : NetI w' u r tu nu cu) => same_any r r u _ tu nu cu _ _ _ w' h (hS w' hb).2.2 ⟨by omega, by omega, by omega⟩ ⟨by omega, by omega, by omega⟩)
  rw [netEq_refl] at HSm
  have HS := hide (fun w' hb => (hS w' hb).1)
  clear hS hD hR hLq HALL h0 hi
  go_at_call 11
  refine (unhide HW).mono ?_
  rintro e w9 ⟨rfl, h9⟩
  have h9' := h9.symm
  clear h9 HW
  subst h9'
  obtain ⟨LB, hLB⟩ : ∃ LB, LB = w2.heap.size + 1 + 1 + 1 + 1 + 1 + 1 + 1 + 1 + 1 := ⟨_, rfl⟩
  obtain ⟨RB, hRB⟩ : ∃ RB, RB = w2.heap.size + 1 + 1 + 1 + 1 + 1 + 1 + 1 + 1 + 1 + 1 + 1 + 1 + 1 + 1 + 1 + 1 + 1 + 1 + 1 := ⟨_, rfl⟩
  rw [← hRB, ← hLB] at HS
  go_upto_region 6 with fail
  rw [← hRB, ← hLB]
  clear hLB hRB
  have hb0 : Below WL.heap.size WL WL.drew := (Below.refl _ _).drew
  refine wp_region_G (fun w' => (w'.cell? ⟨LB, i * 4, none⟩ = some (.int .i64 q.n) ∧ w'.cell? ⟨LB, i * 4 + 1, none⟩ = some tv ∧ w'.cell? ⟨LB, i * 4 + 2, none⟩ = some nv ∧ w'.cell? ⟨LB, i * 4 + 3, none⟩ = some cv) ∧ w'.cell? ⟨RB, i * 4, none⟩ = some (.int .i64 r.n) ∧ w'.cell? ⟨RB, i * 4 + 1, none⟩ = some tv' ∧ w'.cell? ⟨RB, i * 4 + 2, none⟩ = some nv' ∧ w'.cell? ⟨RB, i * 4 + 3, none⟩ = some cv') (fun _ => false) (by kernel_rfl) (unhide HS _ hb0) (fun hHeld => ?_)
  generalize WL.drew = wq at *
  refine wpAnyG_take (v := ?_) 0 (by rfl) (by kernel_rfl) (by kernel_rfl) (by kernel_rfl) (by kernel_rfl) (fun _ _ _ h => h) (Or.inl ⟨by rfl, ?_⟩) (by assumption) ?_
  rotate_left
  · (intro w' hSw; (try dsimp only at hSw); (try simp only [List.getElem_toArray, List.getElem_cons_zero]); go_simp; try (with_reducible rfl))
  simp only [Act.put, List.getElem_toArray, List.getElem_cons_zero, List.setIfInBounds_toArray, List.set_cons_zero, List.set_cons_succ]
  refine wpAnyG_take (v := ?_) 1 (by rfl) (by kernel_rfl) (by kernel_rfl) (by kernel_rfl) (by kernel_rfl) (fun _ _ _ h => h) (Or.inl ⟨by rfl, ?_⟩) (by assumption) ?_
  rotate_left
  · (intro w' hSw; (try dsimp only at hSw); (try simp only [List.getElem_toArray, List.getElem_cons_succ, List.getElem_cons_zero]); go_simp; try (with_reducible rfl))
  simp only [Act.put, List.getElem_toArray, List.getElem_cons_succ, List.getElem_cons_zero, List.setIfInBounds_toArray, List.set_cons_zero, List.set_cons_succ]
  refine wpAnyG_take (v := ?_) 2 (by rfl) (by kernel_rfl) (by kernel_rfl) (by kernel_rfl) (by kernel_rfl) (fun _ _ _ h => h) (Or.inl ⟨by rfl, ?_⟩) (by assumption) ?_
  rotate_left
  · (intro w' hSw; (try dsimp only at hSw); (try simp only [List.getElem_toArray, List.getElem_cons_succ, List.getElem_cons_zero]); go_simp; try (with_reducible rfl))
  simp only [Act.put, List.getElem_toArray, List.getElem_cons_succ, List.getElem_cons_zero, List.setIfInBounds_toArray, List.set_cons_zero, List.set_cons_succ]
  refine wpAnyG_take (v := ?_) 3 (by rfl) (by kernel_rfl) (by kernel_rfl) (by kernel_rfl) (by kernel_rfl) (fun _ _ _ h => h) (Or.inl ⟨by rfl, ?_⟩) (by assumption) ?_
  rotate_left
  · (intro w' hSw; (try dsimp only at hSw); (try simp only [List.getElem_toArray, List.getElem_cons_succ, List.getElem_cons_zero]); go_simp; try (with_reducible rfl))
  simp only [Act.put, List.getElem_toArray, List.getElem_cons_succ, List.getElem_cons_zero, List.setIfInBounds_toArray, List.set_cons_zero, List.set_cons_succ]
  refine wpAnyG_take (v := ?_) 5 (by rfl) (by kernel_rfl) (by kernel_rfl) (by kernel_rfl) (by kernel_rfl) (fun _ _ _ h => h) (Or.inl ⟨by rfl, ?_⟩) (by assumption) ?_
  rotate_left
  · (intro w' hSw; (try dsimp only at hSw); (try simp only [List.getElem_toArray, List.getElem_cons_succ, List.getElem_cons_zero]); go_simp; try (with_reducible rfl))
  simp only [Act.put, List.getElem_toArray, List.getElem_cons_succ, List.getElem_cons_zero, List.setIfInBounds_toArray, List.set_cons_zero, List.set_cons_succ]
  refine wpAnyG_take (v := ?_) 6 (by rfl) (by kernel_rfl) (by kernel_rfl) (by kernel_rfl) (by kernel_rfl) (fun _ _ _ h => h) (Or.inl ⟨by rfl, ?_⟩) (by assumption) ?_
  rotate_left
  · (intro w' hSw; (try dsimp only at hSw); (try simp only [List.getElem_toArray, List.getElem_cons_succ, List.getElem_cons_zero]); go_simp; try (with_reducible rfl))
  simp only [Act.put, List.getElem_toArray, List.getElem_cons_succ, List.getElem_cons_zero, List.setIfInBounds_toArray, List.set_cons_zero, List.set_cons_succ]
  refine wpAnyG_take (v := ?_) 7 (by rfl) (by kernel_rfl) (by kernel_rfl) (by kernel_rfl) (by kernel_rfl) (fun _ _ _ h => h) (Or.inl ⟨by rfl, ?_⟩) (by assumption) ?_
  rotate_left
  · (intro w' hSw; (try dsimp only at hSw); (try simp only [List.getElem_toArray, List.getElem_cons_succ, List.getElem_cons_zero]); go_simp; try (with_reducible rfl))
  simp only [Act.put, List.getElem_toArray, List.getElem_cons_succ, List.getElem_cons_zero, List.setIfInBounds_toArray, List.set_cons_zero, List.set_cons_succ]
  refine wpAnyG_take (v := ?_) 8 (by rfl) (by kernel_rfl) (by kernel_rfl) (by kernel_rfl) (by kernel_rfl) (fun _ _ _ h => h) (Or.inl ⟨by rfl, ?_⟩) (by assumption) ?_
  rotate_left
  · (intro w' hSw; (try dsimp only at hSw); (try simp only [List.getElem_toArray, List.getElem_cons_succ, List.getElem_cons_zero]); go_simp; try (with_reducible rfl))
  simp only [Act.put, List.getElem_toArray, List.getElem_cons_succ, List.getElem_cons_zero, List.setIfInBounds_toArray, List.set_cons_zero, List.set_cons_succ]
  refine wpAnyG_ready [4] (by kernel_rfl) (by simp) ?_
  refine AllReadyG.cons 4 (by rfl) (fun K hK => ?_) ?_
  · simp only [List.getElem_toArray, List.getElem_cons_succ, List.getElem_cons_zero]
    go_simp
    go_at_call 15
    refine (unhide HMk _ hb0).mono ?_
    rintro e wA ⟨vA, tA, nA, cA, rfl, hNa, hlA⟩
    have hbA := hb0.trans (hlA.mono hb0.size)
    refine hK.out _ _ (unhide HS _ hbA) (fun _ => ?_)
    clear hK K
    try simp only [Act.put, List.setIfInBounds_toArray, List.set_cons_zero, List.set_cons_succ]
    refine wpAnyG_ready [9] (by kernel_rfl) (by simp) ?_
    refine AllReadyG.cons 9 (by rfl) (fun K hK => ?_) ?_
    · simp only [List.getElem_toArray, List.getElem_cons_succ, List.getElem_cons_zero]
      go_simp
      go_at_call 20
      refine (unhide HSm _ _ _ _ _ hbA hNa.netI).mono ?_
      rintro e wB ⟨rfl, hlB⟩
      have hbB := hbA.trans (hlB.mono hbA.size)
      refine hK.out _ _ (unhide HS _ hbB) (fun _ => ?_)
      clear hK K
      try simp only [Act.put, List.setIfInBounds_toArray, List.set_cons_zero, List.set_cons_succ]
      refine wpAnyG_take (v := ?_) 10 (by rfl) (by kernel_rfl) (by kernel_rfl) (by kernel_rfl) (by kernel_rfl) (fun _ _ _ h => h) (Or.inl ⟨by rfl, ?_⟩) (by assumption) ?_
      rotate_left
      · (intro w' hSw; (try dsimp only at hSw); (try simp only [List.getElem_toArray, List.getElem_cons_succ, List.getElem_cons_zero]); go_simp; try (with_reducible rfl))
      simp only [Act.put, List.getElem_toArray, List.getElem_cons_succ, List.getElem_cons_zero, List.setIfInBounds_toArray, List.set_cons_zero, List.set_cons_succ]
      refine wpAnyG_done (by kernel_rfl) ?_ _
      refine NoPanic.normal ?_
      go_wp2
      rw [unhide HP]
      exact ⟨by rfl, (unhide HB).trans (hbB.mono (unhide HB).size)⟩
    exact AllReadyG.nil
  exact AllReadyG.nil
end Go.Proofs.Ytcdpgiklmonabab


/- The law RotOwn, walked. -/
namespace Go.Proofs.Ytcdpgiklmonabab
open Go Go.RowKit

theorem Open'.below {w w' : World} {B g o n : Nat} (h : Open' w g o n) (hb : Below B w w') (hg : g < B) : Open' w' g o n := fun j hj => by
  obtain ⟨v, h1, h2⟩ := h j hj
  exact ⟨v, (hb.cell (by exact hg)).trans h1, (hb.frozen (by exact hg)).trans h2⟩
/-- The net that was turned, on the way: what stays. -/
structure MAt (X bm ln g1 g2 g3 : Nat) (W6 wr : World) (o : Obj) : Prop where
  bel : Below X W6 wr
  box : wr.heap[bm]? = some o
  o1 : Open' wr g1 0 ln
  o2 : Open' wr g2 0 ln
  o3 : Open' wr g3 0 ln
theorem MAt.drew {X bm ln g1 g2 g3 : Nat} {W6 wr : World} {o : Obj} (h : MAt X bm ln g1 g2 g3 W6 wr o) : MAt X bm ln g1 g2 g3 W6 wr.drew o := ⟨h.bel.drew, h.box, h.o1, h.o2, h.o3⟩
end Go.Proofs.Ytcdpgiklmonabab


