/- The walk of the law NetRows. -/
import Derived.Test.YtnnhlhhncpegmaaDoorW14
import Derived.Test.YtnnhlhhncpegmaaDoorR7
import Derived.Test.YtnnhlhhncpegmaaDoorR8
namespace Go.Proofs.YtnnhlhhncpegmaaDoor
open Go Go.RowKit

/-- The numbers that the law makes. -/
def held (N : List Int) : List Int := N.map fun x => x % 1999999999999999 - 999999999999999
theorem held_bd (N : List Int) : ∀ x ∈ held N, -1000000000000000 < x ∧ x < 1000000000000000 := by
  intro x hx
  obtain ⟨y, _, rfl⟩ := List.mem_map.1 hx
  omega
theorem held_to (N : List Int) (k : Nat) (h : k < N.length) : held (N.take (k + 1)) = held (N.take k) ++ [N[k] % 1999999999999999 - 999999999999999] := by
  rw [List.take_succ_eq_append_getElem h, held, List.map_append]; rfl
theorem ints_w {w w' : World} {v : Value} {l : List Int} (h : Ints w v l) {B : Nat} (hb : Below B w w') (hB : w.heap.size ≤ B) : Ints w' v l := h.below (hb.mono hB)

theorem row_len {x : List UInt8} {l : List Int} (h : Sp.row x = some l) : l.length ≤ x.length + 1 := by
  unfold Sp.row at h
  rw [Option.bind_eq_some_iff] at h
  obtain ⟨m, hm, h⟩ := h
  split at h
  · cases h
  · injection h with h; subst h; exact Sp.numbers_len hm
/-- The texts that the law reads. -/
def rows (s t r : ByteArray) : List ByteArray := [s, r, t ++ ⟨#[32]⟩ ++ s, ⟨#[45]⟩ ++ s, ⟨#[48]⟩ ++ s, ⟨#[32]⟩, ⟨#[49, 32]⟩, ⟨#[32, 49]⟩, ⟨#[49, 32, 32, 50]⟩, ⟨#[45, 48]⟩, ⟨#[48, 48]⟩, ⟨#[49, 48, 48, 48, 48, 48, 48, 48, 48, 48, 48, 48, 48, 48, 48, 48]⟩, ⟨#[57, 57, 57, 57, 57, 57, 57, 57, 57, 57, 57, 57, 57, 57, 57]⟩, ⟨#[45, 57, 57, 57, 57, 57, 57, 57, 57, 57, 57, 57, 57, 57, 57, 57]⟩]
theorem rows_size (s t r : ByteArray) (hs : s.size ≤ 60) (ht : t.size ≤ 900) (hr : r.size = t.size) : ∀ x ∈ rows s t r, x.size ≤ 1000 := by
  intro x hx
  simp only [rows, List.mem_cons, List.mem_nil_iff, or_false] at hx
  rcases hx with rfl | rfl | rfl | rfl | rfl | rfl | rfl | rfl | rfl | rfl | rfl | rfl | rfl | rfl
  · omega
  · omega
  · rw [ByteArray.size_append, ByteArray.size_append]; show t.size + 1 + s.size ≤ 1000; omega
  · rw [ByteArray.size_append]; show 1 + s.size ≤ 1000; omega
  · rw [ByteArray.size_append]; show 1 + s.size ≤ 1000; omega
  all_goals decide
set_option maxRecDepth 100000 in
set_option maxHeartbeats 1000000 in
theorem netRows_long (N : List Int) (v : Value) (s : ByteArray) (at_ y : Int) (w : World) (hv : Ints w v N) (hr : Rt w) (hlong : 60 < s.size ∨ 40 < N.length) :
    Calls Tryd.prog 3 #[v, .string s, .int .i64 at_, .int .u8 y] w fun e w' => e = .returned (.bool true) ∧ Below w.heap.size w w' := by
  obtain ⟨a, c, rfl, hc, hm, -⟩ := hv
  have HK := hide (known_any w hr)
  clear hr
  have hl : (60 : Int) < s.size ∨ (¬ (60 : Int) < s.size ∧ (40 : Int) < N.length) := by omega
  clear hlong
  rcases hl with h1 | ⟨h1, h2⟩
  all_goals
    go_enter Tryd.func3, Tryd.ntmps3
    go_wp2_with fail
    refine (unhide HK).mono ?_
    rintro e w1 ⟨rfl, hb1⟩
    go_wp2
    go_ret
    exact ⟨rfl, hb1⟩

set_option maxRecDepth 100000 in
set_option maxHeartbeats 8000000 in
theorem netRows_short (N : List Int) (v : Value) (s : ByteArray) (at_ y : Int) (w : World) (hv : Ints w v N) (hr : Rt w) (hs : s.size ≤ 60) (hN : N.length ≤ 40) :
    Calls Tryd.prog 3 #[v, .string s, .int .i64 at_, .int .u8 y] w fun e w' => e = .returned (.bool true) ∧ Below w.heap.size w w' := by
  obtain ⟨i0, hi, hz0, hz1, hz2⟩ := info_parts info3
  have Hi := hide hi; clear hi
  have Hz0 := hide hz0; clear hz0
  have Hz1 := hide hz1; clear hz1
  have Hz2 := hide hz2; clear hz2
  obtain ⟨a, c, rfl, hc, hm, hcell⟩ := hv
  have Hc := hide hcell; clear hcell
  have HK := hide (known_any w hr)
  have Hr := hide hr; clear hr
  have hs' : ¬ (60 : Int) < s.size := by omega
  have hN' : ¬ (40 : Int) < N.length := by omega
  go_enter Tryd.func3, Tryd.ntmps3
  go_wp2_with fail
  refine (unhide HK).mono ?_
  rintro e w1 ⟨rfl, hb1⟩
  clear HK
  go_wp2
  go_loopw [9, 10] (fun lv i wr => ∃ k : Nat, k ≤ N.length ∧ i = .int .i64 k ∧ OwnI wr w.heap.size lv (held (N.take k)) ∧ Below w.heap.size w wr) (fun _ i _ => N.length - (intOf i).toNat)
  case atStart => exact ⟨0, by omega, rfl, World.ownsRow_nil _ _ _ _, hb1⟩
  case round =>
    clear hb1
    obtain ⟨k, hk, rfl, hown, hb⟩ := hrel
    have HO := hide hown; clear hown
    by_cases hlt : k < N.length
    · obtain ⟨b, o, rfl, hbl, hcx⟩ := unhide Hc k hlt
      have hcx := (hb.cell (by exact hbl)).trans hcx
      have Ht := hide (held_to N k hlt)
      have hlen : (held (N.take k)).length ≤ 40 := by simp [held]; omega
      generalize N[k] = x at *
      generalize held (N.take k) = D at *
      have hx0 : 0 ≤ x % 1999999999999999 := by omega
      have hx1 : x % 1999999999999999 < 1999999999999999 := by omega
      go_wp2_with (first
        | (go_at_call 10; refine (within_any x 1999999999999999 _ (by decide) (by decide)).mono ?_; rintro e w2 ⟨rfl, rfl⟩)
        | (at_builtin; refine wpList_append_own _ rfl _ _ 22 rfl w.heap.size 3 i0 (.int .i64 0) 1 8 Tryd.underlying22 (unhide Hi) (unhide Hz0) (unhide Hz1) (unhide Hz2) rfl (by decide) _ _ _ rfl ((unhide HO).alloc _) ⟨_, 0, none⟩ 1 1 [.int .i64 (x % 1999999999999999 - 999999999999999)] rfl rfl (cell_one_new _ _ _) (one_int _) (by unfold maxLen; omega) (by omega) (by have := hb.size; simp; omega) ?_)
        | go_in)
      intro v' w3 hown' hgrow _
      have R1 := own_push (unhide HO) hb hown' hgrow hb.size
      rw [← unhide Ht] at R1
      clear hown' hgrow HO hb hcx
      go_wp2
      go_roundw
      case rel => exact ⟨k + 1, by omega, by go_num, R1.1, R1.2⟩
      case measure => simp [intOf]; omega
    · rw [List.take_of_length_le (by omega)] at HO
      have hlen : (held N).length ≤ 40 := by simp [held]; omega
      have HB := hide (held_bd N)
      generalize held N = L at *
      have hb64 : ∀ x ∈ L, -9223372036854775808 ≤ x ∧ x ≤ 9223372036854775807 := fun x hx => by have := unhide HB x hx; omega
      have HRT := hide (rowText_any L _ wr (unhide HO).ints (by omega) hb64 ((unhide Hr).below hb (Nat.le_refl _)))
      have HB64 := hide hb64; clear hb64
      have hzt := Sp.rowText_len L (unhide HB64)
      go_wp2_with fail
      refine (unhide HRT).mono ?_
      rintro e w2 ⟨t, rfl, ht, hb2⟩
      clear HRT
      have zt : t.size ≤ 900 := by rw [Lib.size_eq, unhide ht]; omega
      have hI2 := (unhide HO).ints.below hb2
      have hb3 := hb.trans (hb2.mono hb.size)
      have HRW := hide (row_any t w2 (by omega) ((unhide Hr).below hb3 (Nat.le_refl _)))
      rw [unhide ht, row_rowText L (unhide HB)] at HRW
      clear HO hb hb2
      go_wp2_with fail
      refine (unhide HRW).mono ?_
      rintro e w3 ⟨mv, rfl, hmo, hb4⟩
      clear HRW
      simp only [Option.isSome_some, Option.getD_some] at hmo ⊢
      have hI3 := hI2.below hb4
      have hM3 := hmo.ints
      have hb5 := hb3.trans (hb4.mono hb3.size)
      clear hmo hb3 hb4 hI2
      have HTU := hide (turned_any t at_ y w3 (by omega))
      have HI3 := hide hI3; clear hI3
      have HM3 := hide hM3; clear hM3
      go_wp2_with fail
      refine (unhide HTU).mono ?_
      rintro e w4 ⟨r, rfl, hrz, hb6⟩
      clear HTU
      have zr : r.size ≤ 900 := by omega
      have HI4 := hide ((unhide HI3).below hb6)
      have HM4 := hide ((unhide HM3).below hb6)
      have hb7 := hb5.trans (hb6.mono hb5.size)
      have HZ := hide (rows_size s t r hs zt hrz)
      clear HI3 HM3 hb5 hb6 hrz
      obtain ⟨W, hW⟩ : ∃ W, W = w4.alloc (.cells ((rows s t r).map Value.string).toArray 9) := ⟨_, rfl⟩
      have hbW : Below w.heap.size w W := by rw [hW]; exact hb7.alloc hb7.size _
      have hWs : W.heap.size = w4.heap.size + 1 := by rw [hW]; simp
      have hWc : W.heap[w4.heap.size]? = some (.cells ((rows s t r).map Value.string).toArray 9 (0, 0)) := by rw [hW]; exact heap_alloc_new w4 _
      have HIW : Hid (Ints W _ L) := hide (by rw [hW]; exact (unhide HI4).below ((Below.refl _ w4).alloc (Nat.le_refl _) _))
      have HMW : Hid (Ints W _ L) := hide (by rw [hW]; exact (unhide HM4).below ((Below.refl _ w4).alloc (Nat.le_refl _) _))
      have HW : Hid (w4.alloc (.cells ((rows s t r).map Value.string).toArray 9) = W) := hide hW.symm
      clear hW HI4 HM4 hb7
      have HR5 := hide (fun (x : ByteArray) (h : x.size ≤ 1000) (w' : World) (hbw : Below W.heap.size W w') => row_any x w' (by omega) (((unhide Hr).below hbW (Nat.le_refl _)).below hbw (Nat.le_refl _)))
      have hbWs := hbW.size
      go_wp2
      go_loopw [15] (fun i wr => ∃ k : Nat, k ≤ 14 ∧ i = .int .i64 k ∧ Below W.heap.size W wr) (fun i _ => 14 - (intOf i).toNat)
      case atStart =>
        refine ⟨0, by omega, rfl, ?_⟩
        have e : Below W.heap.size W (w4.alloc (.cells ((rows s t r).map Value.string).toArray 9)) := by rw [unhide HW]; exact Below.refl _ _
        exact e
      case round =>
        clear HW
        obtain ⟨k, hk, rfl, hbr⟩ := hrel
        by_cases hlk : k < 14
        · obtain ⟨x, hx, hxm⟩ : ∃ x, (rows s t r)[k]? = some x ∧ x ∈ rows s t r := ⟨(rows s t r)[k]'(by exact hlk), List.getElem?_eq_getElem _, List.getElem_mem _⟩
          have hcx : wr.cell? ⟨w4.heap.size, k, none⟩ = some (.string x) := by
            refine (hbr.cell (show w4.heap.size < W.heap.size by omega)).trans ?_
            rw [cell_of_row W _ _ _ _ _ hWc]
            simp [hx]
          have hxz := unhide HZ x hxm
          have HRX := hide (unhide HR5 x hxz wr hbr)
          clear hx hxm
          go_wp2_with fail
          refine (unhide HRX).mono ?_
          rintro e w5 ⟨av, rfl, ho5, hb5⟩
          clear HRX
          have hcx5 : w5.cell? ⟨w4.heap.size, k, none⟩ = some (.string x) := (hb5.cell (show w4.heap.size < wr.heap.size by have := hbr.size; omega)).trans hcx
          have hb5' := hbr.trans (hb5.mono hbr.size)
          have HRR := hide (rRow_any x w5 (by omega))
          have HA5 := hide ho5.ints
          clear hcx ho5 hb5 hbr
          go_wp2_with fail
          refine (unhide HRR).mono ?_
          rintro e w6 ⟨bv, rfl, ho6, hb6⟩
          clear HRR hcx5
          have HI := hide (rInts_any _ _ av bv w6 ((unhide HA5).below hb6) ho6.ints (by
            cases h : Sp.row x.data.toList with
            | none => simp
            | some l => have := row_len h; rw [← Lib.size_eq] at this; simp; omega) (by
            cases h : Sp.row x.data.toList with
            | none => simp
            | some l => have := row_len h; rw [← Lib.size_eq] at this; simp; omega))
          rw [decide_eq_true rfl] at HI
          have hb6' := hb5'.trans (hb6.mono hb5'.size)
          clear HA5 ho6 hb5' hb6
          generalize (Sp.row x.data.toList).isSome = bb at *
          cases bb
          all_goals
            go_wp2_with fail
            refine (unhide HI).mono ?_
            rintro e w7 ⟨rfl, hb7⟩
            have hb7' := hb6'.trans (hb7.mono hb6'.size)
            clear hb7
            go_wp2
            go_roundw
            case rel => exact ⟨k + 1, by omega, by go_num, hb7'⟩
            case measure => simp [intOf]; omega
        · have HRT := hide (rRowText_any L _ wr ((unhide HIW).below hbr) (by omega) (unhide HB64))
          have HMr := hide ((unhide HMW).below hbr)
          have HIr := hide ((unhide HIW).below hbr)
          have hbf := hbW.trans (hbr.mono hbW.size)
          clear hbr HIW HMW
          go_wp2_with fail
          refine (unhide HRT).mono ?_
          rintro e w5 ⟨u, rfl, hu, hb5⟩
          obtain rfl : u = t := by rw [ba_ext (unhide hu), ba_ext (unhide ht)]
          have HI := hide (rInts_any _ _ _ _ w5 ((unhide HMr).below hb5) ((unhide HIr).below hb5) (by omega) (by omega))
          rw [decide_eq_true rfl] at HI
          have hb5' := hbf.trans (hb5.mono hbf.size)
          clear HRT hb5 HMr HIr hu
          go_wp2_with fail
          refine (unhide HI).mono ?_
          rintro e w6 ⟨rfl, hb6⟩
          have hb6' := hb5'.trans (hb6.mono hb5'.size)
          clear HI hb6
          go_wp2
          go_ret
          exact ⟨rfl, hb6'⟩
end Go.Proofs.YtnnhlhhncpegmaaDoor
