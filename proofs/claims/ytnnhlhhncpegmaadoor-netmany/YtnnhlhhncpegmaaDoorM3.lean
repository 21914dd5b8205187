/- The walk of the law NetMany. -/
import Derived.Test.YtnnhlhhncpegmaaDoorW14
import Derived.Test.YtnnhlhhncpegmaaDoorR1
import Derived.Test.YtnnhlhhncpegmaaDoorM2
namespace Go.Proofs.YtnnhlhhncpegmaaDoor
open Go Go.RowKit

theorem Out.openG {w0 w' : World} {R : Sp.Res} {e : Ending} (h : Out w0 R e w') :
    ∃ ta tn tc na nn nc ca cn cc, e = .returned (.tuple #[.agg #[.int .i64 (R.1.getD Sp.zero).n, .slice ta tn tc, .slice na nn nc, .slice ca cn cc], .int .i64 R.2.1, .int .i64 R.2.2]) ∧ Below w0.heap.size w0 w' := by
  obtain ⟨x, tv, nv, cv, rfl, hv, hb⟩ := h
  obtain ⟨rfl, h1, h2, h3, -, -, -⟩ := hv
  obtain ⟨ta, tc, rfl, -, -, -⟩ := h1.ints
  obtain ⟨na, nc, rfl, -, -, -⟩ := h2.ints
  obtain ⟨ca, cc, rfl, -, -, -⟩ := h3.ints
  exact ⟨ta, _, tc, na, _, nc, ca, _, cc, rfl, hb⟩
theorem itoa_dig (n : Nat) (h : n < 1000) : Lib.itoa (n : Int) = Many.dig n := by rw [Lib.itoa_nonneg, Many.dig_eq n h]
theorem app_data (a b : ByteArray) : (a ++ b).data.toList = a.data.toList ++ b.data.toList := by rw [ByteArray.data_append, Array.toList_append]

set_option maxRecDepth 100000 in
set_option maxHeartbeats 8000000 in
theorem netMany_any (n m : Int) (w : World) (hr : Rt w) :
    Calls Tryd.prog 8 #[.int .i64 n, .int .i64 m] w fun e w' => e = .returned (.bool true) ∧ Below w.heap.size w w' := by
  have HK := hide (known_any w hr)
  have Hr := hide hr; clear hr
  obtain ⟨k, hk0, hk1, hak⟩ : ∃ k : Nat, 115 ≤ k ∧ k < 125 ∧ n % 10 = (k : Int) - 115 := ⟨(115 + n % 10).toNat, by omega, by omega, by omega⟩
  obtain ⟨v, hv0, hv1, hav⟩ : ∃ v : Nat, 55 ≤ v ∧ v < 65 ∧ m % 10 = (v : Int) - 55 := ⟨(55 + m % 10).toNat, by omega, by omega, by omega⟩
  have Hak := hide hak; clear hak
  have Hav := hide hav; clear hav
  go_enter Tryd.func8, Tryd.ntmps8
  go_wp2_with fail
  refine (unhide HK).mono ?_
  rintro e w1 ⟨rfl, hb1⟩
  clear HK
  go_wp2_with fail
  refine (within_any n 10 _ (by decide) (by decide)).mono ?_
  rintro e w2 ⟨rfl, hw2⟩
  rw [unhide Hak]
  have hb2 : Below w.heap.size w w2 := by rw [hw2]; exact hb1
  clear hb1 hw2
  go_wp2_with fail
  refine (within_any m 10 _ (by decide) (by decide)).mono ?_
  rintro e w3 ⟨rfl, hw3⟩
  rw [unhide Hav]
  have hb3 : Below w.heap.size w w3 := by rw [hw3]; exact hb2
  clear hb2 hw3
  have e1 : (115 : Int) + ((k : Int) - 115) = k := by omega
  have e2 : (55 : Int) + ((v : Int) - 55) = v := by omega
  go_wp2
  clear e1 e2
  go_loopw [7, 8, 9] (fun sv tv iv wr => ∃ (i : Nat) (s t : ByteArray), i ≤ k ∧ sv = .string s ∧ tv = .string t ∧ iv = .int .i64 i ∧ Hid (s.data.toList = Many.S i) ∧ Hid (t.data.toList = Many.T i) ∧ s.size ≤ 6 + 13 * i ∧ t.size ≤ 4 + 8 * i ∧ Below w.heap.size w wr) (fun _ _ i _ => k - (intOf i).toNat)
  case atStart => exact ⟨0, ⟨#[110, 101, 116, 32, 49, 10]⟩, ⟨#[116, 117, 114, 110]⟩, by omega, rfl, rfl, rfl, hide rfl, hide rfl, by decide, by decide, hb3⟩
  case round =>
    clear hb3
    obtain ⟨i, s, t, hi, rfl, rfl, rfl, hs, ht, zs, zt, hb⟩ := hrel
    by_cases hlt : i < k
    · have HD1 := hide (Digits_any (2 * (i : Int)) wr (by omega) (by omega))
      have HE1 : Hid (Lib.itoa (2 * (i : Int)) = Many.dig (2 * i)) := hide (by have := itoa_dig (2 * i) (by omega); rw [← this]; rfl)
      have HE2 : Hid (Lib.itoa (2 * (i : Int) + 1) = Many.dig (2 * i + 1)) := hide (by have := itoa_dig (2 * i + 1) (by omega); rw [← this]; rfl)
      go_wp2_with fail
      refine (unhide HD1).mono ?_
      rintro e w4 ⟨d1, rfl, hd1, zd1, hb4⟩
      clear HD1
      have hb5 := hb.trans (hb4.mono hb.size)
      have HD2 := hide (Digits_any (2 * (i : Int) + 1) w4 (by omega) (by omega))
      clear hb hb4
      go_wp2_with fail
      refine (unhide HD2).mono ?_
      rintro e w5 ⟨d2, rfl, hd2, zd2, hb6⟩
      clear HD2
      have hb7 := hb5.trans (hb6.mono hb5.size)
      clear hb5 hb6
      have l1 : d1.size ≤ 3 := by rw [Lib.size_eq, unhide hd1, unhide HE1]; exact Many.dig_len _
      have l2 : d2.size ≤ 3 := by rw [Lib.size_eq, unhide hd2, unhide HE2]; exact Many.dig_len _
      go_wp2
      go_roundw
      case rel =>
        refine ⟨i + 1, _, _, by omega, rfl, rfl, by go_num, hide ?_, hide ?_, ?_, ?_, hb7⟩
        · rw [app_data, unhide hs]; rfl
        · rw [app_data, app_data, app_data, app_data, unhide ht, unhide hd1, unhide hd2, unhide HE1, unhide HE2]; rfl
        · rw [ByteArray.size_append]; show s.size + 13 ≤ _; omega
        · rw [ByteArray.size_append, ByteArray.size_append, ByteArray.size_append, ByteArray.size_append]; show t.size + 1 + d1.size + 1 + d2.size ≤ _; omega
      case measure => simp [intOf]; omega
    · obtain rfl : i = k := by omega
      have HP := hide (parse_any (s ++ t ++ ⟨#[10]⟩) wr (by rw [ByteArray.size_append, ByteArray.size_append]; show s.size + t.size + 1 ≤ maxLen; unfold maxLen; omega) ((unhide Hr).below hb (Nat.le_refl _)))
      have HR : Hid ((Sp.parse (s ++ t ++ ⟨#[10]⟩).data.toList).2 = if i ≤ 120 then (0, 0) else (122, 2)) := hide (by rw [app_data, app_data, unhide hs, unhide ht]; exact Many.edges i hk0 hk1)
      generalize Sp.parse (s ++ t ++ ⟨#[10]⟩).data.toList = R at *
      go_wp2_with fail
      refine (unhide HP).mono ?_
      intro e w4 hO
      clear HP
      obtain ⟨ta, tn, tc, na, nn, nc, ca, cn, cc, rfl, hb4⟩ := hO.openG
      clear hO
      obtain ⟨Rq, Ra, Rc⟩ := R
      simp only at HR ⊢
      have hb5 : ∀ o, Below w.heap.size w (w4.alloc o) := fun o => (hb.trans (hb4.mono hb.size)).alloc (Nat.le_trans hb.size hb4.size) o
      have HB5 := hide hb5; clear hb5 hb hb4
      have HD := hide (fun o => Digits_any (v : Int) (w4.alloc o) (by omega) (by omega))
      have HE : Hid (Lib.itoa (v : Int) = Many.dig v) := hide (itoa_dig v (by omega))
      generalize (Rq.getD Sp.zero).n = rn at *
      go_wp2_with fail
      refine (unhide HD _).mono ?_
      rintro e w5 ⟨d, rfl, hd, zd, hb6⟩
      clear HD
      have hb7 : Below w.heap.size w w5 := (unhide HB5 _).trans (hb6.mono (unhide HB5 _).size)
      clear HB5 hb6
      have ld : d.size ≤ 3 := by rw [Lib.size_eq, unhide hd, unhide HE]; exact Many.dig_len _
      go_wp2
      go_loop [13, 14] (fun uv iv => ∃ (j : Nat) (u : ByteArray), j ≤ v ∧ uv = .string u ∧ iv = .int .i64 j ∧ Hid (u.data.toList = Many.U v j) ∧ u.size ≤ 8 + 5 * j) (fun _ j => v - (intOf j).toNat)
      case atStart =>
        refine ⟨0, _, by omega, rfl, rfl, hide ?_, ?_⟩
        · rw [app_data, app_data, unhide hd, unhide HE]; rfl
        · rw [ByteArray.size_append, ByteArray.size_append]; show 4 + d.size + 1 ≤ _; omega
      case round =>
        obtain ⟨j, u, hj, rfl, rfl, hu, zu⟩ := hrel
        by_cases hlj : j < v
        · go_wp2
          go_round
          case rel =>
            refine ⟨j + 1, _, by omega, rfl, by go_num, hide ?_, ?_⟩
            · rw [app_data, unhide hu]; rfl
            · rw [ByteArray.size_append]; show u.size + 5 ≤ _; omega
          case measure => simp [intOf]; omega
        · obtain rfl : j = v := by omega
          have HP := hide (parse_any u w5 (by unfold maxLen; omega) ((unhide Hr).below hb7 (Nat.le_refl _)))
          have HR2 : Hid (Sp.parse u.data.toList = if j ≤ 60 then (some ⟨j, [], [], []⟩, 0, 0) else (none, 1, 2)) := hide (by rw [unhide hu]; exact Many.vertices j hv0 hv1)
          generalize Sp.parse u.data.toList = R2 at *
          go_wp2_with fail
          refine (unhide HP).mono ?_
          intro e w6 hO
          clear HP
          obtain ⟨ta2, tn2, tc2, na2, nn2, nc2, ca2, cn2, cc2, rfl, hb8⟩ := hO.openG
          clear hO
          have hb9 : ∀ o, Below w.heap.size w (w6.alloc o) := fun o => (hb7.trans (hb8.mono hb7.size)).alloc (Nat.le_trans hb7.size hb8.size) o
          have HB9 := hide hb9; clear hb9 hb7 hb8
          obtain ⟨Rq2, Ra2, Rc2⟩ := R2
          simp only at HR2 ⊢
          clear hs ht hd hu HE
          have hx : (i ≤ 120 ∧ Ra = 0 ∧ Rc = 0) ∨ (¬ i ≤ 120 ∧ Ra = 122 ∧ Rc = 2) := by
            have h := unhide HR
            by_cases hi : i ≤ 120
            · rw [if_pos hi] at h; injection h with h1 h2; exact .inl ⟨hi, h1, h2⟩
            · rw [if_neg hi] at h; injection h with h1 h2; exact .inr ⟨hi, h1, h2⟩
          have hy : (j ≤ 60 ∧ Rq2 = some ⟨j, [], [], []⟩ ∧ Ra2 = 0 ∧ Rc2 = 0) ∨ (¬ j ≤ 60 ∧ Rq2 = none ∧ Ra2 = 1 ∧ Rc2 = 2) := by
            have h := unhide HR2
            by_cases hi : j ≤ 60
            · rw [if_pos hi] at h; injection h with h0 h; injection h with h1 h2; exact .inl ⟨hi, h0, h1, h2⟩
            · rw [if_neg hi] at h; injection h with h0 h; injection h with h1 h2; exact .inr ⟨hi, h0, h1, h2⟩
          clear HR HR2
          rcases hx with ⟨hx, rfl, rfl⟩ | ⟨hx, rfl, rfl⟩
          all_goals
            rcases hy with ⟨hy, rfl, rfl, rfl⟩ | ⟨hy, rfl, rfl, rfl⟩
            all_goals
              simp only [Option.getD_some, Option.getD_none, Sp.zero]
              go_wp2
              go_ret
              exact ⟨rfl, unhide HB9 _⟩
end Go.Proofs.YtnnhlhhncpegmaaDoor
