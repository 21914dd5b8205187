/- The law RotKnown. -/
import Derived.Test.YtnkkgeammohemabS19
namespace Go.Proofs.Ytnkkgeammohemab
open Go Go.RowKit

def allocs (w : World) (LS : List (List Int)) : World := LS.foldl (fun w l => w.alloc (.cells (l.map (Value.int .i64)).toArray 3)) w
theorem allocs_own : ∀ (LS : List (List Int)) (w : World), (∀ l ∈ LS, l.length ≤ 1000) → (allocs w LS).heap.size = w.heap.size + LS.length ∧ Below w.heap.size w (allocs w LS) ∧ ∀ i, (hi : i < LS.length) → OwnI (allocs w LS) 0 (.slice (some ⟨w.heap.size + i, 0, none⟩) LS[i].length LS[i].length) LS[i]
  | [], w, _ => ⟨rfl, Below.refl _ _, fun i hi => by simp at hi⟩
  | l :: r, w, h => by
    obtain ⟨h1, h2, h3⟩ := allocs_own r (w.alloc (.cells (l.map (Value.int .i64)).toArray 3)) (fun x hx => h x (by simp [hx]))
    have e : allocs w (l :: r) = allocs (w.alloc (.cells (l.map (Value.int .i64)).toArray 3)) r := rfl
    have hs : (w.alloc (.cells (l.map (Value.int .i64)).toArray 3)).heap.size = w.heap.size + 1 := World.size_alloc _ _
    rw [e]
    refine ⟨by rw [h1, hs]; simp; omega, ((Below.refl _ w).alloc (Nat.le_refl _) _).trans (h2.mono (by omega)), ?_⟩
    intro i hi
    match i with
    | 0 => exact own_below (own_lit w 0 w.heap.size l.length l rfl rfl (Nat.zero_le _) (by have := h l (by simp); omega)) h2
    | i + 1 =>
      have h4 := h3 i (by simpa using hi)
      rw [hs] at h4
      rw [show w.heap.size + (i + 1) = w.heap.size + 1 + i by omega]
      exact h4
def knRows : List (List Int) := [[0, 0], [1, 0], [1, 1], [0, 0], [0, 1], [1, 1], [0, 0], [1, 0], [1, -1], [0, 0], [1, 2], [1, 1], [0, 0], [1], [1, 1], [0, 1], [1, 0], [1, 1], [0, 0, 0, 0], [2, 3, 1, 0], [1, 1, 1, 1], [0, 0, 0, 0], [1, 2, 3, 0], [1, 1, 1, 1], [0, 1], [1, 0], [1, 1], [0], [0], [1]]
def knV (s : Nat) : List Value := [.int .i64 1, .slice none 0 0, .slice none 0 0, .slice none 0 0, .int .i64 0, .slice none 0 0, .slice none 0 0, .slice none 0 0, .int .i64 2, .slice none 0 0, .slice none 0 0, .slice none 0 0, .int .i64 61, .slice none 0 0, .slice none 0 0, .slice none 0 0, .int .i64 1, .slice (some ⟨s, 0, none⟩) 2 2, .slice (some ⟨s + 1, 0, none⟩) 2 2, .slice (some ⟨s + 2, 0, none⟩) 2 2, .int .i64 1, .slice (some ⟨s + 3, 0, none⟩) 2 2, .slice (some ⟨s + 4, 0, none⟩) 2 2, .slice (some ⟨s + 5, 0, none⟩) 2 2, .int .i64 1, .slice (some ⟨s + 6, 0, none⟩) 2 2, .slice (some ⟨s + 7, 0, none⟩) 2 2, .slice (some ⟨s + 8, 0, none⟩) 2 2, .int .i64 1, .slice (some ⟨s + 9, 0, none⟩) 2 2, .slice (some ⟨s + 10, 0, none⟩) 2 2, .slice (some ⟨s + 11, 0, none⟩) 2 2, .int .i64 1, .slice (some ⟨s + 12, 0, none⟩) 2 2, .slice (some ⟨s + 13, 0, none⟩) 1 1, .slice (some ⟨s + 14, 0, none⟩) 2 2, .int .i64 1, .slice (some ⟨s + 15, 0, none⟩) 2 2, .slice (some ⟨s + 16, 0, none⟩) 2 2, .slice (some ⟨s + 17, 0, none⟩) 2 2, .int .i64 1, .slice (some ⟨s + 18, 0, none⟩) 4 4, .slice (some ⟨s + 19, 0, none⟩) 4 4, .slice (some ⟨s + 20, 0, none⟩) 4 4, .int .i64 1, .slice (some ⟨s + 21, 0, none⟩) 4 4, .slice (some ⟨s + 22, 0, none⟩) 4 4, .slice (some ⟨s + 23, 0, none⟩) 4 4, .int .i64 2, .slice (some ⟨s + 24, 0, none⟩) 2 2, .slice (some ⟨s + 25, 0, none⟩) 2 2, .slice (some ⟨s + 26, 0, none⟩) 2 2, .int .i64 1, .slice (some ⟨s + 27, 0, none⟩) 1 1, .slice (some ⟨s + 28, 0, none⟩) 1 1, .slice (some ⟨s + 29, 0, none⟩) 1 1]
def knE : List Int := [0, 3, 7, 2, 0, 6, 4, 5, 5, 3, 8, 0, 6, 5]
theorem kn_net (w W : World) (hW : W = ((allocs w knRows).alloc (.cells (knV w.heap.size).toArray 25)).alloc (.cells (knE.map (Value.int .i64)).toArray 27)) :
    Below w.heap.size w W ∧ W.heap.size = w.heap.size + 32 ∧ ∀ k, k < 14 → ∃ (q : Sp.Net) (ta : Option Addr) (tc : Nat) (na : Option Addr) (nc : Nat) (ca : Option Addr) (cc : Nat),
      (knV w.heap.size)[k * 4]? = some (.int .i64 q.n) ∧ (knV w.heap.size)[k * 4 + 1]? = some (.slice ta q.tail.length tc) ∧ (knV w.heap.size)[k * 4 + 2]? = some (.slice na q.next.length nc) ∧ (knV w.heap.size)[k * 4 + 3]? = some (.slice ca q.cap.length cc) ∧ (knE.map (Value.int .i64))[k]? = some (.int .i64 (knE.getD k 0)) ∧
      (∀ w', Below W.heap.size W w' → NetI w' (.agg #[.int .i64 q.n, .slice ta q.tail.length tc, .slice na q.next.length nc, .slice ca q.cap.length cc]) q (.slice ta q.tail.length tc) (.slice na q.next.length nc) (.slice ca q.cap.length cc)) ∧ Sp.checkI q = knE.getD k 0 ∧ -9223372036854775808 ≤ q.n ∧ q.n ≤ 9223372036854775807 := by
  obtain ⟨h1, h2, h3⟩ := allocs_own knRows w (by decide)
  have hl : knRows.length = 30 := by decide
  have hown : ∀ i, (hi : i < knRows.length) → OwnI W 0 (.slice (some ⟨w.heap.size + i, 0, none⟩) knRows[i].length knRows[i].length) knRows[i] := fun i hi => by
    rw [hW]
    exact World.ownsRow.alloc (World.ownsRow.alloc (h3 i hi) _) _
  refine ⟨?_, ?_, ?_⟩
  · rw [hW]
    exact (h2.alloc (by omega) _).alloc (by rw [World.size_alloc]; omega) _
  · rw [hW, World.size_alloc, World.size_alloc, h1, hl]
  · clear hW
    intro k hk
    match k, hk with
    | 0, _ => exact ⟨⟨1, [], [], []⟩, none, 0, none, 0, none, 0, rfl, rfl, rfl, rfl, rfl, fun w' _ => ⟨rfl, ints_nil _, ints_nil _, ints_nil _⟩, by decide +kernel, by decide, by decide⟩
    | 1, _ => exact ⟨⟨0, [], [], []⟩, none, 0, none, 0, none, 0, rfl, rfl, rfl, rfl, rfl, fun w' _ => ⟨rfl, ints_nil _, ints_nil _, ints_nil _⟩, by decide +kernel, by decide, by decide⟩
    | 2, _ => exact ⟨⟨2, [], [], []⟩, none, 0, none, 0, none, 0, rfl, rfl, rfl, rfl, rfl, fun w' _ => ⟨rfl, ints_nil _, ints_nil _, ints_nil _⟩, by decide +kernel, by decide, by decide⟩
    | 3, _ => exact ⟨⟨61, [], [], []⟩, none, 0, none, 0, none, 0, rfl, rfl, rfl, rfl, rfl, fun w' _ => ⟨rfl, ints_nil _, ints_nil _, ints_nil _⟩, by decide +kernel, by decide, by decide⟩
    | 4, _ => exact ⟨⟨1, [0, 0], [1, 0], [1, 1]⟩, _, 2, _, 2, _, 2, rfl, rfl, rfl, rfl, rfl, fun w' hb => ⟨rfl, OwnI.ints (own_below (hown 0 (by decide)) hb), OwnI.ints (own_below (hown 1 (by decide)) hb), OwnI.ints (own_below (hown 2 (by decide)) hb)⟩, by decide +kernel, by decide, by decide⟩
    | 5, _ => exact ⟨⟨1, [0, 0], [0, 1], [1, 1]⟩, _, 2, _, 2, _, 2, rfl, rfl, rfl, rfl, rfl, fun w' hb => ⟨rfl, OwnI.ints (own_below (hown 3 (by decide)) hb), OwnI.ints (own_below (hown 4 (by decide)) hb), OwnI.ints (own_below (hown 5 (by decide)) hb)⟩, by decide +kernel, by decide, by decide⟩
    | 6, _ => exact ⟨⟨1, [0, 0], [1, 0], [1, -1]⟩, _, 2, _, 2, _, 2, rfl, rfl, rfl, rfl, rfl, fun w' hb => ⟨rfl, OwnI.ints (own_below (hown 6 (by decide)) hb), OwnI.ints (own_below (hown 7 (by decide)) hb), OwnI.ints (own_below (hown 8 (by decide)) hb)⟩, by decide +kernel, by decide, by decide⟩
    | 7, _ => exact ⟨⟨1, [0, 0], [1, 2], [1, 1]⟩, _, 2, _, 2, _, 2, rfl, rfl, rfl, rfl, rfl, fun w' hb => ⟨rfl, OwnI.ints (own_below (hown 9 (by decide)) hb), OwnI.ints (own_below (hown 10 (by decide)) hb), OwnI.ints (own_below (hown 11 (by decide)) hb)⟩, by decide +kernel, by decide, by decide⟩
    | 8, _ => exact ⟨⟨1, [0, 0], [1], [1, 1]⟩, _, 2, _, 1, _, 2, rfl, rfl, rfl, rfl, rfl, fun w' hb => ⟨rfl, OwnI.ints (own_below (hown 12 (by decide)) hb), OwnI.ints (own_below (hown 13 (by decide)) hb), OwnI.ints (own_below (hown 14 (by decide)) hb)⟩, by decide +kernel, by decide, by decide⟩
    | 9, _ => exact ⟨⟨1, [0, 1], [1, 0], [1, 1]⟩, _, 2, _, 2, _, 2, rfl, rfl, rfl, rfl, rfl, fun w' hb => ⟨rfl, OwnI.ints (own_below (hown 15 (by decide)) hb), OwnI.ints (own_below (hown 16 (by decide)) hb), OwnI.ints (own_below (hown 17 (by decide)) hb)⟩, by decide +kernel, by decide, by decide⟩
    | 10, _ => exact ⟨⟨1, [0, 0, 0, 0], [2, 3, 1, 0], [1, 1, 1, 1]⟩, _, 4, _, 4, _, 4, rfl, rfl, rfl, rfl, rfl, fun w' hb => ⟨rfl, OwnI.ints (own_below (hown 18 (by decide)) hb), OwnI.ints (own_below (hown 19 (by decide)) hb), OwnI.ints (own_below (hown 20 (by decide)) hb)⟩, by decide +kernel, by decide, by decide⟩
    | 11, _ => exact ⟨⟨1, [0, 0, 0, 0], [1, 2, 3, 0], [1, 1, 1, 1]⟩, _, 4, _, 4, _, 4, rfl, rfl, rfl, rfl, rfl, fun w' hb => ⟨rfl, OwnI.ints (own_below (hown 21 (by decide)) hb), OwnI.ints (own_below (hown 22 (by decide)) hb), OwnI.ints (own_below (hown 23 (by decide)) hb)⟩, by decide +kernel, by decide, by decide⟩
    | 12, _ => exact ⟨⟨2, [0, 1], [1, 0], [1, 1]⟩, _, 2, _, 2, _, 2, rfl, rfl, rfl, rfl, rfl, fun w' hb => ⟨rfl, OwnI.ints (own_below (hown 24 (by decide)) hb), OwnI.ints (own_below (hown 25 (by decide)) hb), OwnI.ints (own_below (hown 26 (by decide)) hb)⟩, by decide +kernel, by decide, by decide⟩
    | 13, _ => exact ⟨⟨1, [0], [0], [1]⟩, _, 1, _, 1, _, 1, rfl, rfl, rfl, rfl, rfl, fun w' hb => ⟨rfl, OwnI.ints (own_below (hown 27 (by decide)) hb), OwnI.ints (own_below (hown 28 (by decide)) hb), OwnI.ints (own_below (hown 29 (by decide)) hb)⟩, by decide +kernel, by decide, by decide⟩

theorem kn_cells (w W : World) (hW : W = ((allocs w knRows).alloc (.cells (knV w.heap.size).toArray 25)).alloc (.cells (knE.map (Value.int .i64)).toArray 27)) (w' : World) (hb : Below W.heap.size W w') :
    (∀ i, w'.cell? ⟨w.heap.size + 30, i, none⟩ = (knV w.heap.size)[i]?) ∧ ∀ i, w'.cell? ⟨w.heap.size + 31, i, none⟩ = (knE.map (Value.int .i64))[i]? := by
  obtain ⟨h1, h2, -⟩ := allocs_own knRows w (by decide)
  have hl : knRows.length = 30 := by decide
  rw [hl] at h1
  generalize allocs w knRows = A at *
  have hs : W.heap.size = w.heap.size + 32 := by rw [hW, World.size_alloc, World.size_alloc, h1]
  have b1 : W.heap[w.heap.size + 30]? = some (.cells (knV w.heap.size).toArray 25 (0, 0)) := by
    rw [hW, ← h1, Below.heap_alloc _ _ _ (by rw [World.size_alloc]; omega)]
    exact heap_alloc_new A _
  have b2 : W.heap[w.heap.size + 31]? = some (.cells (knE.map (Value.int .i64)).toArray 27 (0, 0)) := by
    have e : w.heap.size + 31 = (A.alloc (.cells (knV w.heap.size).toArray 25)).heap.size := by rw [World.size_alloc, h1]
    rw [hW, e]
    exact heap_alloc_new _ _
  refine ⟨fun i => ?_, fun i => ?_⟩
  · have h := (hb.block (w.heap.size + 30) (by omega)).trans b1
    unfold World.cell?
    rw [h]
    simp
  · have h := (hb.block (w.heap.size + 31) (by omega)).trans b2
    unfold World.cell?
    rw [h]
    simp
end Go.Proofs.Ytnkkgeammohemab


