/- The walks of the library's bits.Mul and slices.Repeat, as far as they are called. -/
import Derived.Laws.CopyOwn
import Derived.Deep.RegionLaw
import Derived.Test.YtnkkgeammohemabS11
namespace Go.Proofs.Ytnkkgeammohemab
open Go Go.RowKit

theorem and_mask : ∀ d : Fin 61, bits .and .u64 ((d.val : Nat) : Int) 4294967295 = ((d.val : Nat) : Int) := by decide +kernel
set_option maxRecDepth 100000 in
set_option maxHeartbeats 1000000 in
theorem mul64_any (N : Nat) (w : World) (hN : N ≤ 60) :
    Calls Try.prog 49 #[.int .u64 1, .int .u64 (N : Int)] w fun e w' => e = .returned (.tuple #[.int .u64 0, .int .u64 (N : Int)]) ∧ w' = w := by
  have h1 := and_mask ⟨N, by omega⟩
  simp only at h1
  have h2 : bits .and .u64 1 4294967295 = 1 := by decide +kernel
  have h3 : bits .and .u64 0 4294967295 = 0 := by decide +kernel
  have h4 : (N : Int) / 4294967296 = 0 := by omega
  have h5 : IntKind.u64.wrap (N : Int) = (N : Int) := by simp [IntKind.wrap, IntKind.bits]; omega
  have h6 : IntKind.u64.wrap 0 = 0 := by decide +kernel
  obtain ⟨P, hP⟩ : ∃ P : Ending → World → Prop, P = fun e w' => e = .returned (.tuple #[.int .u64 0, .int .u64 (N : Int)]) ∧ w' = w := ⟨_, rfl⟩
  rw [← hP]
  have HP := hide hP
  clear hP
  go_enter Try.func49, Try.ntmps49
  go_wp2
  rw [unhide HP]
  exact ⟨rfl, rfl⟩
set_option maxRecDepth 100000 in
set_option maxHeartbeats 1000000 in
theorem mul_any (N : Nat) (w : World) (hN : N ≤ 60) :
    Calls Try.prog 47 #[.int .u64 1, .int .u64 (N : Int)] w fun e w' => e = .returned (.tuple #[.int .u64 0, .int .u64 (N : Int)]) ∧ w' = w := by
  have HC := hide (mul64_any N w hN)
  obtain ⟨P, hP⟩ : ∃ P : Ending → World → Prop, P = fun e w' => e = .returned (.tuple #[.int .u64 0, .int .u64 (N : Int)]) ∧ w' = w := ⟨_, rfl⟩
  rw [← hP]
  have HP := hide hP
  clear hP
  go_enter Try.func47, Try.ntmps47
  go_wp2_with fail
  go_at_call 49
  refine (unhide HC).mono ?_
  rintro e w' ⟨rfl, rfl⟩
  go_wp2
  rw [unhide HP]
  exact ⟨rfl, rfl⟩
theorem own_heap {w : World} {B g n : Nat} {l : List Int} (h : OwnI w B (.slice (some ⟨g, 0, none⟩) n n) l) (hl : l.length = n) : w.heap[g]? = some (.cells (l.map (Value.int .i64)).toArray 3 (0, 0)) ∧ B ≤ g := by
  obtain ⟨h1, ⟨h2, -⟩ | ⟨g', cap, cur, e, hg, hh, hnc, hcm, hsz, htk⟩⟩ := h
  · cases h2
  · injection e with e1 e2 e3
    injection e1 with e1
    injection e1 with e1 _
    subst e1 e3
    rw [hl] at e2 hnc htk
    have : cur.toList = l.map (Value.int .i64) := by
      rw [← htk, List.take_of_length_le]
      simp; omega
    rw [← this]
    exact ⟨by simpa using hh, hg⟩
theorem own_of_heap {w : World} {B g n : Nat} {l : List Int} (h : w.heap[g]? = some (.cells (l.map (Value.int .i64)).toArray 3 (0, 0))) (hl : l.length = n) (hB : B ≤ g) (hn : n ≤ 1000000) : OwnI w B (.slice (some ⟨g, 0, none⟩) n n) l := by
  subst hl
  exact ⟨by simp, .inr ⟨g, l.length, _, rfl, hB, h, Nat.le_refl _, by unfold maxLen; omega, by simp, by rw [List.take_of_length_le (by simp)]⟩⟩
theorem splice_rep (N m c : Nat) (x : Int) (h : m + c ≤ N) : splice ((List.replicate m x ++ List.replicate (N - m) (0 : Int)).map (Value.int .i64)) m ((List.replicate c x).map (Value.int .i64)) = (List.replicate (m + c) x ++ List.replicate (N - (m + c)) (0 : Int)).map (Value.int .i64) := by
  unfold splice
  rw [List.map_append, List.take_left' (by simp), List.drop_append]
  simp only [List.length_replicate, List.map_replicate, List.map_append, List.drop_replicate]
  rw [show m - (m + c) = 0 by omega, show N - m - (m + c - m) = N - (m + c) by omega, List.replicate_zero, List.nil_append, ← List.append_assoc, List.replicate_append_replicate]
theorem run_copy_rep (w : World) (B g m N : Nat) (x : Int) (hm : m < N) (hN : N ≤ 60) (hB : B ≤ g) (hO : OwnI w B (.slice (some ⟨g, 0, none⟩) N N) (List.replicate m x ++ List.replicate (N - m) (0 : Int))) :
    ∃ w4, (Builtin.copy_ #[23, 23] 3 #[.slice (some ⟨g, m, none⟩) (N - m) (N - m), .slice (some ⟨g, 0, none⟩) m N]).run Try.prog w = .ok (.int .i64 ((min m (N - m) : Nat) : Int)) w4 ∧ OwnI w4 B (.slice (some ⟨g, 0, none⟩) N N) (List.replicate (m + min m (N - m)) x ++ List.replicate (N - (m + min m (N - m))) (0 : Int)) ∧ Below B w w4 := by
  have hszI : (Try.prog.info? 3).map (·.size) = some 1 := by kernel_rfl
  have hh := (own_heap hO (by simp; omega)).1
  have hsp := splice_rep N m (min m (N - m)) x (by omega)
  have h := run_copy_row (P := Try.prog) w 23 23 3 3 g m (N - m) (N - m) ⟨g, 0, none⟩ m N _ 3 ((List.replicate (min m (N - m)) x).map (Value.int .i64)) Try.underlying23 hszI hh (by simp)
    (fun j v hj => by
      obtain ⟨hj1, hj2⟩ := List.getElem?_eq_some_iff.1 hj
      simp only [List.length_map, List.length_replicate] at hj1
      rw [← hj2]
      simp only [List.getElem_map, List.getElem_replicate, Addr.add_lit, Nat.zero_add]
      have h := own_cell hO j (by simp; omega)
      rw [List.getElem_append_left (by simp; omega), List.getElem_replicate] at h
      exact h) (by simp; omega) (ints_oneCell _ _)
  have hl : ((List.replicate (min m (N - m)) x).map (Value.int .i64)).length = min m (N - m) := by simp
  rw [hl] at h
  refine ⟨_, h, own_of_heap ?_ (by simp; omega) hB (by omega), below_setRow (Below.refl _ _) hB _⟩
  rw [setRow_heap w g _ _ _ _ hh, ← hsp, splice, hl, List.append_assoc]
set_option maxRecDepth 100000 in
set_option maxHeartbeats 1000000 in
theorem repeat_any (x : Int) (xb N : Nat) (w : World) (hN : N ≤ 60) (hc : w.cell? ⟨xb, 0, none⟩ = some (.int .i64 x)) (hxb : xb < w.heap.size) :
    Calls Try.prog 43 #[.slice (some ⟨xb, 0, none⟩) 1 1, .int .i64 (N : Int)] w fun e w' => e = .returned (.slice (some ⟨w.heap.size, 0, none⟩) N N) ∧ OwnI w' w.heap.size (.slice (some ⟨w.heap.size, 0, none⟩) N N) (List.replicate N x) ∧ Below w.heap.size w w' := by
  have HC := hide (mul_any N w hN)
  have Hc := hide hc
  clear hc
  have h5 : IntKind.u64.wrap (N : Int) = (N : Int) := by simp [IntKind.wrap, IntKind.bits]; omega
  have hszI : (Try.prog.info? 3).map (·.size) = some 1 := by kernel_rfl
  have HsI := hide hszI
  clear hszI
  go_enter Try.func43, Try.ntmps43
  go_wp2_with fail
  go_at_call 47
  refine (unhide HC).mono ?_
  clear HC
  rintro e w' ⟨rfl, rfl⟩
  go_wp2_with (at_make; refine wpList_mk rfl _ _ rfl w'.heap.size N rfl rfl (by omega) (Nat.le_refl _) ?_)
  intro w3 hown3 hb3 hlt3
  have HO3 := hide hown3
  have HB3 := hide hb3
  clear hown3 hb3 hlt3
  obtain ⟨cs, hcs⟩ : ∃ cs, cs = List.replicate (min 1 N) x := ⟨_, rfl⟩
  have hcl : cs.length = min 1 N := by rw [hcs]; simp
  have HCL1 : Hid ((cs.map (Value.int .i64)).length = Nat.min 1 N) := hide (by rw [List.length_map]; exact hcl)
  have HCL2 : Hid (0 + (cs.map (Value.int .i64)).length ≤ ((List.replicate N (0 : Int)).map (Value.int .i64)).length) := hide (by rw [List.length_map, List.length_map, List.length_replicate, hcl]; omega)
  have HPOS : Hid (0 < (cs.map (Value.int .i64)).length → some (⟨w'.heap.size, 0, none⟩ : Addr) = some ⟨w'.heap.size, 0, none⟩ ∧ ∃ ad, some (⟨xb, 0, none⟩ : Addr) = some ad ∧ ∀ j v, (cs.map (Value.int .i64))[j]? = some v → w3.cell? (ad.add j) = some v) := by
    refine hide fun _ => ⟨rfl, _, rfl, ?_⟩
    intro j v hj
    obtain ⟨hj1, hj2⟩ := List.getElem?_eq_some_iff.1 hj
    rw [List.length_map, hcl] at hj1
    have hj0 : j = 0 := by omega
    subst hj0 hcs
    rw [← hj2]
    simp only [List.getElem_map, List.getElem_replicate, Addr.add_lit]
    exact ((unhide HB3).cell (by exact hxb)).trans (unhide Hc)
  have HSP : Hid (splice ((List.replicate N (0 : Int)).map (Value.int .i64)) 0 (cs.map (Value.int .i64)) = (List.replicate (min 1 N) x ++ List.replicate (N - min 1 N) (0 : Int)).map (Value.int .i64)) := by
    have h := splice_rep N 0 (min 1 N) x (by omega)
    simp only [List.replicate_zero, List.nil_append, Nat.sub_zero, Nat.zero_add] at h
    rw [hcs]
    exact hide h
  have HCL3 : Hid (((cs.map (Value.int .i64)).length : Int) = ((min 1 N : Nat) : Int)) := hide (by rw [List.length_map, hcl])
  have HONE : Hid (∀ v ∈ cs.map (Value.int .i64), v.oneCell' = true) := hide (ints_oneCell _ _)
  have HOH := hide (own_heap (unhide HO3) (by simp)).1
  clear hcs hcl HO3
  generalize cs.map (Value.int .i64) = cv at *
  generalize (List.replicate N (0 : Int)).map (Value.int .i64) = zv at *
  go_wp2_with ((refine wpList_copy_splice rfl _ _ 23 23 rfl 3 Try.underlying23 (unhide HsI) (some ⟨w'.heap.size, 0, none⟩) (some ⟨xb, 0, none⟩) N N 1 1 rfl rfl w'.heap.size 0 zv 3 (unhide HOH) cv (unhide HCL1) (unhide HPOS) (unhide HCL2) (unhide HONE) w'.heap.size w' (unhide HB3) (Nat.le_refl _) ?_))
  intro w4 hh4 hb4
  rw [unhide HSP] at hh4
  have HO4 : Hid (OwnI w4 w'.heap.size (.slice (some ⟨w'.heap.size, 0, none⟩) N N) (List.replicate (min 1 N) x ++ List.replicate (N - min 1 N) (0 : Int))) := hide (own_of_heap (unhide hh4) (by simp; omega) (Nat.le_refl _) (by omega))
  have HB4 := hide hb4
  have hcvl : (cv.length : Int) = ((min 1 N : Nat) : Int) := unhide HCL3
  rw [hcvl]
  clear hh4 hb4 HOH HONE HSP HPOS HCL1 HCL2 HCL3 HB3 hcvl
  have hm1 : (1 ≤ min 1 N ∨ N = 0) ∧ min 1 N ≤ N := by omega
  generalize min 1 N = m0 at *
  go_wp2
  go_loopg [8] N (fun g i wr => ∃ m : Nat, (1 ≤ m ∨ N = 0) ∧ m ≤ N ∧ N - m ≤ g ∧ i = .int .i64 (m : Int) ∧ Hid (OwnI wr w'.heap.size (.slice (some ⟨w'.heap.size, 0, none⟩) N N) (List.replicate m x ++ List.replicate (N - m) (0 : Int)) ∧ Below w'.heap.size w' wr))
  case atStart => exact ⟨m0, hm1.1, hm1.2, by omega, rfl, hide ⟨unhide HO4, unhide HB4⟩⟩
  case round =>
    clear HO4 HB4 hm1
    obtain ⟨m, hm1, hmN, hmg, rfl, HI⟩ := hrel
    by_cases hlt : m < N
    · have hltI : (m : Int) < (N : Int) := by omega
      obtain ⟨c, hc⟩ : ∃ c, c = min m (N - m) := ⟨_, rfl⟩
      obtain ⟨w4, hrun, hown4, hb4⟩ := run_copy_rep wr.drew w'.heap.size w'.heap.size m N x hlt hN (Nat.le_refl _) (own_drew (unhide HI).1)
      rw [← hc] at hrun hown4
      have HO4 := hide hown4
      have HB4 : Hid (Below w'.heap.size w' w4) := hide ((unhide HI).2.drew.trans hb4)
      have Hc := hide hc
      have hne1 : ¬ N = m := by omega
      have hcb : c ≤ N - m := by omega
      have hc1 : 1 ≤ c := by omega
      clear hown4 hb4 hc
      go_wp2
      go_region
      go_wp2
      go_roundg (N - (m + c))
      case rel => exact ⟨m + c, by omega, by omega, by omega, by go_num, hide ⟨unhide HO4, unhide HB4⟩⟩
      case measure => omega
    · obtain rfl : m = N := by omega
      have HF : Hid (OwnI wr w'.heap.size (.slice (some ⟨w'.heap.size, 0, none⟩) m m) (List.replicate m x)) := by
        have h := (unhide HI).1
        simp only [Nat.sub_self, List.replicate_zero, List.append_nil] at h
        exact hide h
      go_wp2
      go_ret
      exact ⟨rfl, unhide HF, (unhide HI).2⟩
end Go.Proofs.Ytnkkgeammohemab


