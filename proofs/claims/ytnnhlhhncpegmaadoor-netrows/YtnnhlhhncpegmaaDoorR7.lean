/- The walk of the law's turned: whatever it hands back is a text as long. -/
import Derived.Test.YtnnhlhhncpegmaaDoorR6
namespace Go.Proofs.YtnnhlhhncpegmaaDoor
open Go Go.RowKit

set_option maxRecDepth 100000 in
set_option maxHeartbeats 1000000 in
theorem turned_walk (s r : ByteArray) (at_ y : Int) (cap : Nat) (C : Array Value) (j : Nat) (c0 : Int) (w : World) (hne : s.toList.isEmpty = false) (hs : s.size ≤ 1000000) (hpos : 0 < s.size) (hj : at_ % s.size = j) (hjl : j < s.size) (_hcap : s.size ≤ cap)
    (hconv : (convert 9 50 (.string s)).run Tryd.prog w = .ok (.slice (some ⟨w.heap.size, 0, none⟩) s.size cap) (w.drew.alloc (.cells C 5 (C.size, C.size + 1))))
    (hc0 : (w.alloc (.cells C 5 (C.size, C.size + 1))).cell? ⟨w.heap.size, j, none⟩ = some (.int .u8 c0)) (hz0 : (w.alloc (.cells C 5 (C.size, C.size + 1))).frozen? ⟨w.heap.size, j, none⟩ = false)
    (hback : (convert 50 9 (.slice (some ⟨w.heap.size, 0, none⟩) s.size cap)).run Tryd.prog ((w.alloc (.cells C 5 (C.size, C.size + 1))).setCell ⟨w.heap.size, j, none⟩ (.int .u8 ((c0 + y) % 256))).drew = .ok (.string r) ((w.alloc (.cells C 5 (C.size, C.size + 1))).setCell ⟨w.heap.size, j, none⟩ (.int .u8 ((c0 + y) % 256))).drew) :
    Calls Tryd.prog 13 #[.string s, .int .i64 at_, .int .u8 y] w fun e w' => e = .returned (.string r) ∧ Below w.heap.size w w' := by
  have Hj := hide hj; clear hj
  go_enter Tryd.func13, Tryd.ntmps13
  go_wp2_with fail
  refine (within_any at_ s.size _ (by omega) (by omega)).mono ?_
  rintro e w1 ⟨rfl, rfl⟩
  rw [unhide Hj]
  go_wp2
  go_ret
  exact ⟨rfl, (((Below.refl _ w).alloc (Nat.le_refl _) _).setCell (by simp) _).drew⟩
set_option maxRecDepth 100000 in
set_option maxHeartbeats 1000000 in
theorem turned_any (s : ByteArray) (at_ y : Int) (w : World) (hs : s.size ≤ 1000000) :
    Calls Tryd.prog 13 #[.string s, .int .i64 at_, .int .u8 y] w fun e w' => ∃ r : ByteArray, e = .returned (.string r) ∧ r.size = s.size ∧ Below w.heap.size w w' := by
  by_cases he : s.data.toList = []
  · have he' : s.toList.isEmpty = true := by rw [Lib.toList_data, he]; rfl
    clear he
    go_enter Tryd.func13, Tryd.ntmps13
    go_wp2
    go_ret
    exact ⟨s, rfl, rfl, Below.refl _ _⟩
  · have he' : s.toList.isEmpty = false := by rw [Lib.toList_data]; simpa using he
    have hpos : 0 < s.size := by rw [Lib.size_eq]; exact List.length_pos_iff.2 he
    obtain ⟨j, hj⟩ : ∃ j : Nat, at_ % s.size = j := ⟨(at_ % s.size).toNat, by have := Int.emod_nonneg at_ (show (s.size : Int) ≠ 0 by omega); omega⟩
    have hjl : j < s.size := by have := Int.emod_lt_of_pos at_ (show (0 : Int) < s.size by omega); omega
    have hconv := run_bytes_of_string (P := Tryd.prog) w 9 50 5 s Tryd.underlying9 Tryd.underlying50 Tryd.underlying5
    have hcap : s.size ≤ grownCap w s.size 0 5 := grownCap_ge w s.size 0 5
    generalize grownCap w s.size 0 5 = cap at *
    have hC : ∀ i, (hi : i < s.size) → (bytesRow s cap)[i]? = some (.int .u8 (s.data[i].toNat : Int)) := fun i hi => bytesRow_at s cap i hi
    have hCs : (bytesRow s cap).size = cap := by unfold bytesRow; simp; omega
    generalize bytesRow s cap = C at *
    have hheap : (w.alloc (.cells C 5 (C.size, C.size + 1))).heap[w.heap.size]? = some (.cells C 5 (C.size, C.size + 1)) := heap_alloc_new w _
    have hc0 : (w.alloc (.cells C 5 (C.size, C.size + 1))).cell? ⟨w.heap.size, j, none⟩ = some (.int .u8 (s.data[j].toNat : Int)) := by rw [cell_of_row _ _ _ _ _ _ hheap]; exact hC j hjl
    have hz0 : (w.alloc (.cells C 5 (C.size, C.size + 1))).frozen? ⟨w.heap.size, j, none⟩ = false := by
      unfold World.frozen?
      rw [hheap]
      simp
      omega
    have hb0 : 0 ≤ ((s.data[j].toNat : Int) + y) % 256 ∧ ((s.data[j].toNat : Int) + y) % 256 < 256 := by omega
    have hrow : ((w.alloc (.cells C 5 (C.size, C.size + 1))).setCell ⟨w.heap.size, j, none⟩ (.int .u8 (((s.data[j].toNat : Int) + y) % 256))).heap[w.heap.size]? = some (.cells (C.setIfInBounds j (.int .u8 (((s.data[j].toNat : Int) + y) % 256))) 5 (C.size, C.size + 1)) := by
      rw [setCell_eq_setRow _ _ _ _ _ _ _ hheap]; exact setRow_heap _ _ _ _ _ _ hheap
    have hl : (s.data.toList.set j (UInt8.ofNat (((s.data[j].toNat : Int) + y) % 256).toNat)).length = s.size := by simp
    have hback := run_convert_bytes_back (P := Tryd.prog) ((w.alloc (.cells C 5 (C.size, C.size + 1))).setCell ⟨w.heap.size, j, none⟩ (.int .u8 (((s.data[j].toNat : Int) + y) % 256))).drew 50 9 5 ⟨w.heap.size, 0, none⟩ cap (s.data.toList.set j (UInt8.ofNat (((s.data[j].toNat : Int) + y) % 256).toNat)) Tryd.underlying50 Tryd.underlying5 Tryd.underlying9 (fun i hi => by
      have e : (⟨w.heap.size, 0, none⟩ : Addr).add i = ⟨w.heap.size, i, none⟩ := by unfold Addr.add; split <;> simp_all
      rw [e]
      have hi' : i < s.size := by rw [← hl]; exact hi
      refine (cell_of_row _ _ _ _ _ _ hrow).trans ?_
      rw [List.getElem_set]
      by_cases hij : j = i
      · subst hij
        rw [if_pos rfl, Array.getElem?_setIfInBounds_self_of_lt (by omega)]
        rw [UInt8.toNat_ofNat_of_lt' (by show (((s.data[j].toNat : Int) + y) % 256).toNat < 256; omega)]
        congr 2
        omega
      · rw [if_neg hij, Array.getElem?_setIfInBounds_ne hij, hC i hi']
        rfl)
    rw [hl] at hback
    exact (turned_walk s _ at_ y cap C j _ w he' hs hpos hj hjl hcap hconv hc0 hz0 hback).mono fun e w' ⟨h1, h2⟩ => ⟨_, h1, by rw [Lib.size_eq]; exact hl, h2⟩
end Go.Proofs.YtnnhlhhncpegmaaDoor
