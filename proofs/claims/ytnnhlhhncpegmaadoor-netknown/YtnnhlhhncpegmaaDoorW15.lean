/- The walk of the law NetKnown. -/
import Derived.Test.YtnnhlhhncpegmaaDoorW14
namespace Go.Proofs.YtnnhlhhncpegmaaDoor
open Go Go.RowKit

def tS : List ByteArray := [⟨#[]⟩, ⟨#[110, 101, 116, 10]⟩, ⟨#[110, 101, 116, 32, 54, 49, 10]⟩, ⟨#[110, 101, 116, 32, 45, 49, 10]⟩, ⟨#[116, 117, 114, 110, 10]⟩, ⟨#[110, 101, 116, 32, 49, 10]⟩, ⟨#[110, 101, 116, 32, 49, 10, 116, 117, 114, 110, 10, 116, 117, 114, 110, 10]⟩, ⟨#[110, 101, 116, 32, 49, 10, 101, 100, 103, 101, 32, 48, 32, 49, 32, 49, 32, 49, 10, 116, 117, 114, 110, 10]⟩, ⟨#[110, 101, 116, 32, 49, 10, 101, 100, 103, 101, 32, 48, 32, 48, 32, 50, 49, 52, 55, 52, 56, 51, 54, 52, 57, 32, 48, 10, 116, 117, 114, 110, 32, 48, 32, 49, 10]⟩, ⟨#[110, 101, 116, 32, 49, 10, 101, 100, 103, 101, 32, 48, 32, 48, 32, 49, 32, 49, 10, 116, 117, 114, 110, 32, 48, 10]⟩, ⟨#[110, 101, 116, 32, 49, 10, 101, 100, 103, 101, 32, 48, 32, 48, 32, 49, 32, 49, 10, 116, 117, 114, 110, 32, 48, 32, 49, 32, 48, 10]⟩, ⟨#[110, 101, 116, 32, 49, 10, 101, 100, 103, 101, 32, 48, 32, 48, 32, 49, 32, 49, 10, 116, 117, 114, 110, 32, 48, 32, 50, 10]⟩, ⟨#[110, 101, 116, 32, 50, 10, 101, 100, 103, 101, 32, 48, 32, 49, 32, 49, 32, 49, 10, 116, 117, 114, 110, 32, 49, 10, 116, 117, 114, 110, 32, 48, 10]⟩, ⟨#[110, 101, 116, 32, 49, 10, 116, 117, 114, 110, 10, 101, 100, 103, 101, 32, 48, 32, 48, 32, 49, 32, 49, 10]⟩, ⟨#[110, 101, 116, 32, 49, 10, 101, 100, 103, 101, 32, 48, 32, 48, 32, 49, 10]⟩, ⟨#[110, 101, 116, 32, 49, 10, 101, 100, 103, 101, 32, 48, 32, 48, 32, 49, 32, 45, 49, 10]⟩, ⟨#[110, 101, 116, 32, 50, 10, 116, 117, 114, 110, 10]⟩, ⟨#[110, 101, 116, 32, 49, 10, 10, 116, 117, 114, 110, 10]⟩, ⟨#[110, 101, 116, 32, 49, 10, 116, 117, 114, 110, 32, 10]⟩, ⟨#[110, 101, 116, 32, 48, 49, 10, 116, 117, 114, 110, 10]⟩]
def tN : List Int := [1, 1, 1, 1, 1, 2, 3, 2, 2, 3, 3, 3, 3, 3, 2, 2, 3, 2, 2, 1]
def tE : List Int := [1, 1, 2, 1, 1, 1, 1, 3, 4, 6, 6, 5, 5, 1, 1, 1, 1, 1, 1, 1]
/-- Of each of the texts just this is told. -/
theorem told : ∀ k : Nat, k < 20 → Sp.parse (tS.getD k ⟨#[]⟩).data.toList = (none, (tN.getD k 0).toNat, tE.getD k 0) ∧ 0 ≤ tN.getD k 0 ∧ (tS.getD k ⟨#[]⟩).size ≤ 100 := by
  intro k hk
  match k, hk with
  | 0, _ => exact ⟨by kernel_rfl, by decide, by decide⟩
  | 1, _ => exact ⟨by kernel_rfl, by decide, by decide⟩
  | 2, _ => exact ⟨by kernel_rfl, by decide, by decide⟩
  | 3, _ => exact ⟨by kernel_rfl, by decide, by decide⟩
  | 4, _ => exact ⟨by kernel_rfl, by decide, by decide⟩
  | 5, _ => exact ⟨by kernel_rfl, by decide, by decide⟩
  | 6, _ => exact ⟨by kernel_rfl, by decide, by decide⟩
  | 7, _ => exact ⟨by kernel_rfl, by decide, by decide⟩
  | 8, _ => exact ⟨by kernel_rfl, by decide, by decide⟩
  | 9, _ => exact ⟨by kernel_rfl, by decide, by decide⟩
  | 10, _ => exact ⟨by kernel_rfl, by decide, by decide⟩
  | 11, _ => exact ⟨by kernel_rfl, by decide, by decide⟩
  | 12, _ => exact ⟨by kernel_rfl, by decide, by decide⟩
  | 13, _ => exact ⟨by kernel_rfl, by decide, by decide⟩
  | 14, _ => exact ⟨by kernel_rfl, by decide, by decide⟩
  | 15, _ => exact ⟨by kernel_rfl, by decide, by decide⟩
  | 16, _ => exact ⟨by kernel_rfl, by decide, by decide⟩
  | 17, _ => exact ⟨by kernel_rfl, by decide, by decide⟩
  | 18, _ => exact ⟨by kernel_rfl, by decide, by decide⟩
  | 19, _ => exact ⟨by kernel_rfl, by decide, by decide⟩
  | k + 20, h => omega
theorem tS_cell (k : Nat) (h : k < 20) : (tS.map Value.string).toArray[k]? = some (.string (tS.getD k ⟨#[]⟩)) := by
  rw [List.getElem?_toArray, List.getElem?_map, List.getD_eq_getElem?_getD, List.getElem?_eq_getElem (show k < tS.length from h)]; rfl
theorem tN_cell (k : Nat) (h : k < 20) : (tN.map (Value.int .i64)).toArray[k]? = some (.int .i64 (tN.getD k 0)) := by
  rw [List.getElem?_toArray, List.getElem?_map, List.getD_eq_getElem?_getD, List.getElem?_eq_getElem (show k < tN.length from h)]; rfl
theorem tE_cell (k : Nat) (h : k < 20) : (tE.map (Value.int .i64)).toArray[k]? = some (.int .i64 (tE.getD k 0)) := by
  rw [List.getElem?_toArray, List.getElem?_map, List.getD_eq_getElem?_getD, List.getElem?_eq_getElem (show k < tE.length from h)]; rfl

theorem Out.openN {w0 w' : World} {R : Sp.Res} {k : Nat} {c : Int} {e : Ending} (h : Out w0 R e w') (hR : R = (none, k, c)) :
    ∃ ta tc na nc ca cc, e = .returned (.tuple #[.agg #[.int .i64 0, .slice ta 0 tc, .slice na 0 nc, .slice ca 0 cc], .int .i64 k, .int .i64 c]) ∧ Below w0.heap.size w0 w' := by
  subst hR
  obtain ⟨x, tv, nv, cv, rfl, hv, hb⟩ := h
  obtain ⟨rfl, h1, h2, h3, -, -, -⟩ := hv
  obtain ⟨ta, tc, rfl, -, -, -⟩ := h1.ints
  obtain ⟨na, nc, rfl, -, -, -⟩ := h2.ints
  obtain ⟨ca, cc, rfl, -, -, -⟩ := h3.ints
  exact ⟨ta, tc, na, nc, ca, cc, rfl, hb⟩

set_option maxRecDepth 100000 in
set_option maxHeartbeats 4000000 in
theorem netKnown_any (a : Int) (w : World) (hr : Rt w) :
    Calls Tryd.prog 5 #[.int .i64 a] w fun e w' => e = .returned (.bool true) ∧ Below w.heap.size w w' := by
  have HK := hide (known_any w hr)
  have Hr := hide hr; clear hr
  go_enter Tryd.func5, Tryd.ntmps5
  go_wp2_with fail
  refine (unhide HK).mono ?_
  rintro e w1 ⟨rfl, hb1⟩
  clear HK
  obtain ⟨k, hk, hak⟩ : ∃ k : Nat, k < 20 ∧ a % 20 = k := ⟨(a % 20).toNat, by omega, by omega⟩
  have Hak := hide hak; clear hak
  have hw1 := hb1.size
  obtain ⟨W, hW⟩ : ∃ W, W = ((w1.alloc (.cells (tS.map Value.string).toArray 9)).alloc (.cells (tN.map (Value.int .i64)).toArray 3)).alloc (.cells (tE.map (Value.int .i64)).toArray 38) := ⟨_, rfl⟩
  have hsz : W.heap.size = w1.heap.size + 3 := by rw [hW]; simp
  have hS : W.heap[w1.heap.size]? = some (.cells (tS.map Value.string).toArray 9 (0, 0)) := by
    rw [hW, Below.heap_alloc _ _ _ (by simp; omega), Below.heap_alloc _ _ _ (by simp)]; exact heap_alloc_new w1 _
  have hN : W.heap[w1.heap.size + 1]? = some (.cells (tN.map (Value.int .i64)).toArray 3 (0, 0)) := by
    rw [hW, Below.heap_alloc _ _ _ (by simp)]
    have := heap_alloc_new (w1.alloc (.cells (tS.map Value.string).toArray 9)) (.cells (tN.map (Value.int .i64)).toArray 3)
    simp only [World.size_alloc] at this
    exact this
  have hE : W.heap[w1.heap.size + 2]? = some (.cells (tE.map (Value.int .i64)).toArray 38 (0, 0)) := by
    rw [hW]
    have := heap_alloc_new ((w1.alloc (.cells (tS.map Value.string).toArray 9)).alloc (.cells (tN.map (Value.int .i64)).toArray 3)) (.cells (tE.map (Value.int .i64)).toArray 38)
    simp only [World.size_alloc] at this
    exact this
  have hbW : Below w.heap.size w W := by rw [hW]; exact ((hb1.alloc hw1 _).alloc (by simp; omega) _).alloc (by simp; omega) _
  have HW : Hid (W = ((w1.alloc (.cells (tS.map Value.string).toArray 9)).alloc (.cells (tN.map (Value.int .i64)).toArray 3)).alloc (.cells (tE.map (Value.int .i64)).toArray 38)) := hide hW
  clear hW
  go_wp2_with fail
  refine (within_any a 20 _ (by decide) (by decide)).mono ?_
  rintro e w2 ⟨rfl, hw2⟩
  have hww : w2 = W := hw2.trans (unhide HW).symm
  subst hww
  clear hw2 HW
  rw [unhide Hak]
  have s0 : w2.cell? ⟨w1.heap.size, k, none⟩ = some (.string (tS.getD k ⟨#[]⟩)) := by rw [cell_of_row w2 _ _ _ _ _ hS]; exact tS_cell k hk
  obtain ⟨hP, hp0, hps⟩ := told k hk
  generalize tS.getD k ⟨#[]⟩ = sk at *
  have HP := hide (parse_any sk w2 (by unfold maxLen; omega) ((unhide Hr).below hbW (Nat.le_refl _)))
  have HPk := hide hP; clear hP
  obtain ⟨nk, hnk⟩ : ∃ nk : Nat, tN.getD k 0 = nk := ⟨(tN.getD k 0).toNat, by omega⟩
  have s1 : w2.cell? ⟨w1.heap.size + 1, k, none⟩ = some (.int .i64 nk) := by rw [cell_of_row w2 _ _ _ _ _ hN, tN_cell k hk, hnk]
  have s2 : w2.cell? ⟨w1.heap.size + 1 + 1, k, none⟩ = some (.int .i64 (tE.getD k 0)) := by rw [cell_of_row w2 _ _ _ _ _ hE]; exact tE_cell k hk
  rw [hnk, Int.toNat_natCast] at HPk
  clear hnk hp0 hS hN hE
  generalize tE.getD k 0 = ek at *
  have S1 := hide s1; clear s1
  have S2 := hide s2; clear s2
  go_wp2_with fail
  refine (unhide HP).mono ?_
  intro e w3 hO
  clear HP s0
  obtain ⟨ta, tc, na, nc, ca, cc, rfl, hb3⟩ := hO.openN (unhide HPk)
  clear hO
  have hw3 := hb3.size
  have hbA : ∀ o, Below w2.heap.size w2 (w3.alloc o) := fun o => hb3.alloc hb3.size o
  have t1 : ∀ o, (w3.alloc o).cell? ⟨w1.heap.size + 1, k, none⟩ = some (.int .i64 nk) := fun o => ((hbA o).cell (show w1.heap.size + 1 < w2.heap.size by omega)).trans (unhide S1)
  have t2 : ∀ o, (w3.alloc o).cell? ⟨w1.heap.size + 1 + 1, k, none⟩ = some (.int .i64 ek) := fun o => ((hbA o).cell (show w1.heap.size + 1 + 1 < w2.heap.size by omega)).trans (unhide S2)
  have hbF : ∀ o, Below w.heap.size w (w3.alloc o) := fun o => hbW.trans ((hbA o).mono hbW.size)
  have HbF := hide hbF; clear hbF
  clear S1 S2 hbA hb3 hbW HPk
  go_wp2
  go_ret
  exact ⟨rfl, unhide HbF _⟩
end Go.Proofs.YtnnhlhhncpegmaaDoor
