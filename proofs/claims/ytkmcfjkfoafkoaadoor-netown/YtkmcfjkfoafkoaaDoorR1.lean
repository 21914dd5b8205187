/- The walks of the reference's digits. -/
import Derived.Test.YtkmcfjkfoafkoaaDoorW13
import Derived.Laws.IdiomStrings
namespace Go.Proofs.YtkmcfjkfoafkoaaDoor
open Go Go.RowKit

theorem dec_step (u : Nat) (h : 10 ≤ u) : Lib.decDigits u = Lib.decDigits (u / 10) ++ [UInt8.ofNat (48 + u % 10)] := by
  conv => lhs; rw [Lib.decDigits]
  rw [dif_neg (by omega)]
theorem dec_one (u : Nat) (h : u < 10) : Lib.decDigits u = [UInt8.ofNat (48 + u)] := Lib.decDigits_one h
theorem dec_len (u : Nat) (h : u < 18446744073709551616) : (Lib.decDigits u).length ≤ 20 := by
  rw [Lib.decDigits_length]; exact Lib.nDigits_le20 u h
set_option maxRecDepth 100000 in
set_option maxHeartbeats 1000000 in
theorem digits_low (u : Nat) (hu : u < 10) (w : World) :
    Calls Tryd.prog 30 #[.int .u64 u] w fun e w' => ∃ s : ByteArray, e = .returned (.string s) ∧ Hid (s.data.toList = Lib.decDigits u) ∧ Below w.heap.size w w' := by
  have hn : ((UInt8.ofNat (48 + u)).toNat : Int) = 48 + u := by
    rw [UInt8.toNat_ofNat_of_lt' (by show 48 + u < 256; omega)]; omega
  obtain ⟨s, hs, hc⟩ : ∃ s : ByteArray, Hid (s.data.toList = Lib.decDigits u) ∧ (convert 46 9 (.slice (some ⟨w.heap.size, 0, none⟩) 1 1)).run Tryd.prog (w.alloc (.cells #[.int .u8 (48 + u)] 5)) = .ok (.string s) (w.alloc (.cells #[.int .u8 (48 + u)] 5)) :=
    ⟨⟨[UInt8.ofNat (48 + u)].toArray⟩, hide (by rw [dec_one u hu]), run_convert_bytes_back (P := Tryd.prog) (w.alloc (.cells #[.int .u8 (48 + u)] 5)) 46 9 5 ⟨w.heap.size, 0, none⟩ 1 [UInt8.ofNat (48 + u)] Tryd.underlying46 Tryd.underlying5 Tryd.underlying9 (fun j hj => by
      obtain rfl : j = 0 := by simpa using hj
      simp only [List.getElem_cons_zero, hn]
      simp [Addr.add])⟩
  clear hn
  go_enter Tryd.func30, Tryd.ntmps30
  go_wp2
  go_ret
  exact ⟨s, rfl, hs, (Below.refl _ _).alloc (Nat.le_refl _) _⟩
set_option maxRecDepth 100000 in
set_option maxHeartbeats 1000000 in
theorem digits_any : ∀ (n u : Nat), u ≤ n → u < 18446744073709551616 → ∀ w : World,
    Calls Tryd.prog 30 #[.int .u64 u] w fun e w' => ∃ s : ByteArray, e = .returned (.string s) ∧ Hid (s.data.toList = Lib.decDigits u) ∧ Below w.heap.size w w' := by
  intro n
  induction n with
  | zero => intro u hu _ w; exact digits_low u (by omega) w
  | succ n ih =>
    intro u hu h64 w
    by_cases h10 : u < 10
    · exact digits_low u h10 w
    · have h1 : (10 : Int) ≤ u := by omega
      have E1 : Hid (((u : Int) / 10) = ((u / 10 : Nat) : Int)) := hide (by omega)
      have E2 : Hid (((u : Int) % 10) = ((u % 10 : Nat) : Int)) := hide (by omega)
      have h64' : (u : Int) ≤ 18446744073709551615 := by omega
      have HI := hide (ih (u / 10) (by omega) (by omega))
      have HL := hide (digits_low (u % 10) (by omega))
      have HD := hide (dec_step u (by omega))
      have HO := hide (dec_one (u % 10) (by omega))
      have HZ := hide (dec_len u h64)
      clear ih
      generalize Lib.decDigits u = D at *
      go_enter Tryd.func30, Tryd.ntmps30
      go_wp2_with fail
      rw [unhide E1]
      refine (unhide HI _).mono ?_
      rintro e w1 ⟨s1, rfl, hs1, hb1⟩
      have z1 : s1.size ≤ 20 := by
        rw [Lib.size_eq, unhide hs1]
        have h2 := unhide HZ
        rw [unhide HD, List.length_append] at h2
        omega
      go_wp2_with fail
      rw [unhide E2]
      refine (unhide HL _).mono ?_
      rintro e w2 ⟨s2, rfl, hs2, hb2⟩
      have z2 : s2.size = 1 := by rw [Lib.size_eq, unhide hs2, unhide HO]; rfl
      have hb3 := hb1.trans (hb2.mono hb1.size)
      clear hb1 hb2
      go_wp2
      go_ret
      refine ⟨_, rfl, hide ?_, hb3⟩
      rw [ByteArray.data_append, Array.toList_append, unhide hs1, unhide hs2, unhide HD, unhide HO]
set_option maxRecDepth 100000 in
set_option maxHeartbeats 1000000 in
theorem Digits_any (n : Int) (w : World) (h0 : -9223372036854775808 ≤ n) (h1 : n ≤ 9223372036854775807) :
    Calls Tryd.prog 15 #[.int .i64 n] w fun e w' => ∃ s : ByteArray, e = .returned (.string s) ∧ Hid (s.data.toList = Lib.itoa n) ∧ s.size ≤ 21 ∧ Below w.heap.size w w' := by
  have HZ := hide (Lib.itoa_length_le n h0 h1)
  by_cases hn : n < 0
  · obtain ⟨u, hu⟩ : ∃ u : Nat, n = -(u : Int) := ⟨n.natAbs, by omega⟩
    have HI : Hid (Lib.itoa n = 45 :: Lib.decDigits u) := hide (by rw [hu]; exact Lib.itoa_neg u (by omega))
    have HC := hide (digits_any u u (Nat.le_refl _) (by omega))
    generalize Lib.itoa n = I at *
    have Hu := hide hu; clear hu
    go_enter Tryd.func15, Tryd.ntmps15
    go_wp2_with fail
    have e1 : IntKind.u64.wrap (-IntKind.u64.wrap n) = (u : Int) := by
      rw [unhide Hu]
      have h2 := unhide Hu
      simp [IntKind.wrap, IntKind.bits, IntKind.signed]
      omega
    rw [e1]
    refine (unhide HC _).mono ?_
    rintro e w1 ⟨s1, rfl, hs1, hb1⟩
    clear e1
    have z1 : s1.size ≤ 20 := by
      rw [Lib.size_eq, unhide hs1]
      have h2 := unhide HZ
      rw [unhide HI, List.length_cons] at h2
      omega
    go_wp2
    go_ret
    refine ⟨_, rfl, hide ?_, ?_, hb1⟩
    · rw [ByteArray.data_append, Array.toList_append, unhide hs1, unhide HI]; rfl
    · rw [ByteArray.size_append]
      show 1 + s1.size ≤ 21
      omega
  · obtain ⟨u, rfl⟩ : ∃ u : Nat, n = u := ⟨n.toNat, by omega⟩
    have HI := hide (Lib.itoa_nonneg u)
    have HC := hide (digits_any u u (Nat.le_refl _) (by omega))
    generalize Lib.itoa u = I at *
    go_enter Tryd.func15, Tryd.ntmps15
    go_wp2_with fail
    refine (unhide HC _).mono ?_
    rintro e w1 ⟨s1, rfl, hs1, hb1⟩
    go_wp2
    go_ret
    exact ⟨s1, rfl, hide ((unhide hs1).trans (unhide HI).symm), by rw [Lib.size_eq, unhide hs1, ← unhide HI]; exact unhide HZ, hb1⟩
end Go.Proofs.YtkmcfjkfoafkoaaDoor
