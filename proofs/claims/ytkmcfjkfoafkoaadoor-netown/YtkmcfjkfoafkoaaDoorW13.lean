/- The walk of net.Text at a net of one vertex without darts. -/
import Derived.Test.YtkmcfjkfoafkoaaDoorW12
import Derived.Deep.LoopGhost
namespace Go.Proofs.YtkmcfjkfoafkoaaDoor
open Go Go.RowKit

set_option maxRecDepth 100000 in
set_option maxHeartbeats 1000000 in
theorem walkable_one (ta na ca : Option Addr) (tc nc cc : Nat) (w : World) :
    Calls Tryd.prog 37 #[.agg #[.int .i64 1, .slice ta 0 tc, .slice na 0 nc, .slice ca 0 cc]] w fun e w' => e = .returned (.bool true) ∧ Below w.heap.size w w' := by
  go_enter Tryd.func37, Tryd.ntmps37
  go_wp2
  go_loop [38] (fun i => i = .int .i64 0) (fun _ => 0)
  case atStart => rfl
  case round =>
    subst hrel
    go_wp2
    go_ret
    exact ⟨rfl, (Below.refl _ _).alloc (Nat.le_refl _) _⟩

theorem ba_ext {s : ByteArray} {l : List UInt8} (h : s.data.toList = l) : s = ⟨l.toArray⟩ := by
  cases s with
  | mk d => simp at h; subst h; simp
theorem itoa1 : Lib.itoa 1 = [49] := by
  unfold Lib.itoa
  rw [if_neg (by decide)]
  exact Lib.decDigits_one (by decide)
theorem one_str (s : ByteArray) : ∀ u ∈ [Value.string s], u.oneCell' = true := by simp [Value.oneCell']
theorem infoS : (Tryd.prog.info? 9).map (fun i => (i.zero, i.size, i.bytes)) = some (some (.string ⟨#[]⟩), 1, 16) := by kernel_rfl

set_option maxRecDepth 100000 in
set_option maxHeartbeats 2000000 in
theorem text_one (ta na ca : Option Addr) (tc nc cc : Nat) (w : World) (hr : Rt w) :
    Calls Tryd.prog 19 #[.agg #[.int .i64 1, .slice ta 0 tc, .slice na 0 nc, .slice ca 0 cc]] w fun e w' => e = .returned (.string ⟨#[110, 101, 116, 32, 49, 10, 116, 117, 114, 110, 10]⟩) ∧ Below w.heap.size w w' := by
  obtain ⟨i0, hi, hz0, hz1, hz2⟩ := info_parts infoS
  have Hi := hide hi; clear hi
  have Hz0 := hide hz0; clear hz0
  have Hz1 := hide hz1; clear hz1
  have Hz2 := hide hz2; clear hz2
  have Hr := hide hr; clear hr
  have HW := hide (walkable_one ta na ca tc nc cc (w.alloc (.cells #[.int .i64 1, .slice ta 0 tc, .slice na 0 nc, .slice ca 0 cc] 34)))
  go_enter Tryd.func19, Tryd.ntmps19
  go_wp2
  go_step3
  go_wp2_with fail
  refine (unhide HW).mono ?_
  rintro e w1 ⟨rfl, hb1⟩
  clear HW
  have hz1 := hb1.size
  have hbx : w1.heap[w.heap.size]? = some (.cells #[.int .i64 1, .slice ta 0 tc, .slice na 0 nc, .slice ca 0 cc] 34 (0, 0)) := (hb1.block _ (by simp)).trans (heap_alloc_new w _)
  have hb2 : Below w.heap.size w w1 := ((Below.refl _ w).alloc (Nat.le_refl _) _).trans (hb1.mono (by simp))
  obtain ⟨c0, c1, -, -, -, -, -, -⟩ := obj_cells hbx
  have Hbx := hide hbx; clear hbx
  clear hb1
  go_wp2_with fail
  refine (itoa_any 1 _ (by decide) (by decide) ((unhide Hr).below hb2 (Nat.le_refl _))).mono ?_
  rintro e w2 ⟨s1, rfl, hs1, -, hb3⟩
  obtain rfl : s1 = ⟨#[49]⟩ := ba_ext ((unhide hs1).trans itoa1)
  simp at hz1
  have hz2 := hb3.size
  have hbx : w2.heap[w.heap.size]? = some (.cells #[.int .i64 1, .slice ta 0 tc, .slice na 0 nc, .slice ca 0 cc] 34 (0, 0)) := (hb3.block _ (by omega)).trans (unhide Hbx)
  have hb4 : Below w.heap.size w w2 := hb2.trans (hb3.mono (by omega))
  clear c0 c1 hb2 hb3 Hbx hs1
  obtain ⟨c0, c1, -, -, -, -, -, -⟩ := obj_cells hbx
  have Hbx := hide hbx; clear hbx
  have hws : w.heap.size < w2.heap.size := by omega
  have hbA : ∀ o, Below w2.heap.size w2 (w2.alloc o) := fun o => (Below.refl _ w2).alloc (Nat.le_refl _) o
  have a0 : ∀ o, (w2.alloc o).cell? ⟨w.heap.size, 0, none⟩ = some (.int .i64 1) := fun o => ((hbA o).cell (by exact hws)).trans c0
  have a1 : ∀ o, (w2.alloc o).cell? ⟨w.heap.size, 1, none⟩ = some (.slice ta 0 tc) := fun o => ((hbA o).cell (by exact hws)).trans c1
  clear c0 c1 hbA
  have hbB : Below w.heap.size w (w2.alloc (.cells #[.string (⟨#[110, 101, 116, 32]⟩ ++ ⟨#[49]⟩)] 9)) := hb4.alloc (by omega) _
  have HO : Hid ((w2.alloc (.cells #[.string (⟨#[110, 101, 116, 32]⟩ ++ ⟨#[49]⟩)] 9)).ownsRow w.heap.size 9 1 (.slice (some ⟨w2.heap.size, 0, none⟩) 1 1) 1 [.string (⟨#[110, 101, 116, 32]⟩ ++ ⟨#[49]⟩)]) :=
    hide ⟨rfl, .inr ⟨w2.heap.size, 1, _, rfl, by omega, heap_alloc_new w2 _, Nat.le_refl _, by decide, rfl, rfl⟩⟩
  go_wp2
  go_loop [3, 4] (fun lv i => lv = .slice (some ⟨w2.heap.size, 0, none⟩) 1 1 ∧ i = .int .i64 0) (fun _ _ => 0)
  case atStart => exact ⟨rfl, rfl⟩
  case round =>
    obtain ⟨rfl, rfl⟩ := hrel
    go_wp2
    go_step3
    go_wp2
    have Ha1 := hide (a1 (.cells #[.string (⟨#[110, 101, 116, 32]⟩ ++ ⟨#[49]⟩)] 9))
    clear a0 a1
    go_loopw [3, 53] (fun lv i wr => ∃ (k : Nat) (L : List Value), k ≤ 1 ∧ i = .int .i64 k ∧ wr.ownsRow w.heap.size 9 1 lv (k + 1) L ∧ Hid (L = if k = 0 then [.string (⟨#[110, 101, 116, 32]⟩ ++ ⟨#[49]⟩)] else [.string (⟨#[110, 101, 116, 32]⟩ ++ ⟨#[49]⟩), .string ⟨#[116, 117, 114, 110]⟩]) ∧ Below w.heap.size w wr ∧ (k = 0 → wr.cell? ⟨w.heap.size, 1, none⟩ = some (.slice ta 0 tc)) ∧ w.heap.size < wr.heap.size) (fun _ i _ => 1 - (intOf i).toNat)
    case atStart => exact ⟨0, _, by omega, rfl, unhide HO, hide rfl, hbB, fun _ => unhide Ha1, by simp; omega⟩
    case round =>
      clear HO hbB Ha1
      obtain ⟨k, L, hk, rfl, hown, hL, hb, hc, hsz⟩ := hrel
      by_cases hk0 : k = 0
      · subst hk0
        have hc1 := hc rfl
        clear hc
        go_wp2
        go_loop [3, 59] (fun lv i => Hid (wr.ownsRow w.heap.size 9 1 lv 1 L) ∧ i = .int .i64 0) (fun _ _ => 0)
        case atStart => exact ⟨hide hown, rfl⟩
        case round =>
          clear hown
          obtain ⟨hown, rfl⟩ := hrel
          go_wp2_with (first
            | (at_builtin; refine wpList_append_own _ rfl _ _ 29 rfl w.heap.size 9 i0 (.string ⟨#[]⟩) 1 16 Tryd.underlying29 (unhide Hi) (unhide Hz0) (unhide Hz1) (unhide Hz2) rfl (by decide) _ _ _ rfl ((unhide hown).alloc _) ⟨wr.heap.size, 0, none⟩ 1 1 [.string ⟨#[116, 117, 114, 110]⟩] rfl rfl (cell_one_new _ _ _) (one_str _) (by decide) (by decide) (by simp; omega) ?_)
            | go_in)
          intro v' w3 hown' hgrow _
          have hb3 : Below w.heap.size w w3 := (hb.alloc (by omega) _).grown hgrow (by simp; omega) fun j hj => ((unhide hown).lt j hj).1
          have hs3 := hgrow.size
          simp at hs3
          clear hgrow hown hb
          rw [unhide hL] at hown'
          simp only [if_true] at hown'
          clear hL
          go_wp2
          go_roundw
          case rel => exact ⟨1, _, by omega, rfl, hown', hide rfl, hb3, (fun h => absurd h (by decide)), by omega⟩
          case measure => simp [intOf]
      · obtain rfl : k = 1 := by omega
        rw [if_neg (by decide)] at hL
        obtain rfl := unhide hL
        clear hc hL hk0
        obtain ⟨g, cap, rfl, hg0, hg1⟩ := hown.form (by decide)
        have hcells : ∀ (j : Nat) (x : ByteArray), [(⟨#[110, 101, 116, 32]⟩ ++ ⟨#[49]⟩ : ByteArray), ⟨#[116, 117, 114, 110]⟩][j]? = some x → wr.cell? ⟨g, 0 + j, none⟩ = some (.string x) := by
          intro j x hj
          have h1 := hown.cells (g := g) rfl j (.string x) (by
            match j, hj with
            | 0, hj => simp at hj; subst hj; rfl
            | 1, hj => simp at hj; subst hj; rfl)
          have e : (⟨g, 0, none⟩ : Addr).add j = ⟨g, 0 + j, none⟩ := by unfold Addr.add; split <;> simp_all
          rw [← e]; exact h1
        have hcap : 2 ≤ cap := by
          obtain ⟨_, hv | ⟨g', cap', cur, hv, _, _, hc, _⟩⟩ := hown
          · simp at hv
          · injection hv with _ _ hv
            omega
        have HJ := hide (Tryd.strings_Join g 0 cap [(⟨#[110, 101, 116, 32]⟩ ++ ⟨#[49]⟩ : ByteArray), ⟨#[116, 117, 114, 110]⟩] ⟨#[10]⟩ wr hcells hg1 (by decide) hcap (by decide +kernel))
        clear hown hcells hcap
        go_wp2_with fail
        refine (unhide HJ).mono ?_
        rintro e w4 ⟨rfl, hb5⟩
        have hb6 := hb.trans (hb5.mono (by omega))
        clear HJ hb hb5
        go_wp2
        rw [Exit.noGoto_ret]
        go_ret
        exact ⟨rfl, hb6⟩
end Go.Proofs.YtkmcfjkfoafkoaaDoor
