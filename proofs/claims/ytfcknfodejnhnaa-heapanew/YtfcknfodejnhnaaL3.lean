/- What the proof needs, part 3. -/
import Derived.Test.YtfcknfodejnhnaaL2
/- The law HeapAnew, walked. -/
namespace Go.Proofs.Ytfcknfodejnhnaa
open Go Go.RowKit

theorem Sp.least_low {M : Nat → Option Int} {k r : Int} {is : Bool} {j : Nat} (h : Sp.LeastIs M k r is) (hj : M j = some (-9223372036854775808)) (hr : ∀ i s, M i = some s → -9223372036854775808 ≤ s) : is = true ∧ (k = (j : Int) ∨ (r = -9223372036854775808 ∧ k < (j : Int))) := by
  rcases h with ⟨-, -, -, d⟩ | ⟨a, i, b, -, c, d⟩
  · rw [d j] at hj; cases hj
  · have h1 := d j _ hj
    have h2 := hr i _ c
    rw [Sp.ahead_no] at h1
    exact ⟨a, by omega⟩
theorem Sp.putK_ge {M : Nat → Option Int} {k r : Int} (h : ∀ i s, M i = some s → 0 ≤ s) (hr : 0 ≤ r) : ∀ i s, Sp.putK M k r i = some s → 0 ≤ s := by
  intro i s hs
  unfold Sp.putK Sp.put at hs
  split at hs
  · change (if i = k.toNat then some r else M i) = some s at hs
    split at hs
    · cases hs; exact hr
    · exact h i s hs
  · exact h i s hs
theorem Sp.putK_twice (M : Nat → Option Int) (k r r' : Int) : Sp.putK (Sp.putK M k r) k r' = Sp.putK M k r' := by
  unfold Sp.putK
  split
  · funext i; unfold Sp.put; split <;> rfl
  · rfl
theorem Sp.cnt_putK2 (M : Nat → Option Int) (k r r' : Int) : Sp.cnt (Sp.putK M k r) = Sp.cnt (Sp.putK M k r') := by
  by_cases hk : 0 ≤ k ∧ k < 300
  · cases hl : Sp.look M k with
    | none => rw [Sp.cnt_putK_new M k r hk hl, Sp.cnt_putK_new M k r' hk hl]
    | some s => rw [Sp.cnt_putK_anew M k r s hk hl, Sp.cnt_putK_anew M k r' s hk hl]
  · rw [Sp.putK, Sp.putK, if_neg hk, if_neg hk]
set_option maxRecDepth 100000 in
set_option maxHeartbeats 8000000 in
theorem heapAnew_any (ns : List Int) (key x y : Int) (v : Value) (w : World) (hv : Ints w v ns) :
    Calls Try.prog 5 #[v, .int .i64 key, .int .i64 x, .int .i64 y] w fun e w' => e = .returned (.bool true) ∧ Below w.heap.size w w' := by
  obtain ⟨P, hP⟩ : ∃ P : Ending → World → Prop, P = fun e w' => e = .returned (.bool true) ∧ Below w.heap.size w w' := ⟨_, rfl⟩
  rw [← hP]
  have HP := hide hP
  clear hP
  obtain ⟨a, c, rfl, hcl, hcm, HC⟩ := hv.allH
  clear hv
  go_enter Try.func5, Try.ntmps5
  go_wp2_with fail
  go_at_call 9
  refine (known5_any w).mono ?_
  rintro e w1 ⟨rfl, hb1⟩
  have HB1 := hide hb1
  clear hb1
  go_wp2_with fail
  go_at_call 10
  refine (hnew2_any w1).mono ?_
  rintro e w2 ⟨rfl, hb2, hi2, hs2⟩
  obtain ⟨b, hb⟩ : ∃ b, w1.heap.size = b := ⟨_, rfl⟩
  rw [hb] at hb2 hi2 hs2 ⊢
  have hwb : w.heap.size ≤ b := by rw [← hb]; exact (unhide HB1).size
  have H2 : Hid (Below w.heap.size w w2 ∧ HpIs w2 b (fun _ => none)) := hide ⟨(unhide HB1).trans (hb2.mono hwb), hi2⟩
  replace hs2 : b + 1 ≤ w2.heap.size := by omega
  clear hb2 hi2 hb HB1
  go_wp2
  go_loopg [10] (min ns.length 50) (fun g s10 wr => ∃ (i : Nat) (M : Nat → Option Int), i + g = min ns.length 50 ∧ s10 = .int .i64 (i : Int) ∧ b + 1 ≤ wr.heap.size ∧ Hid (Below w.heap.size w wr ∧ HpIs wr b M ∧ ∀ i s, M i = some s → 0 ≤ s))
  case atStart => exact ⟨0, _, by omega, rfl, hs2, hide ⟨(unhide H2).1, (unhide H2).2, fun i s h => by cases h⟩⟩
  case round =>
    clear H2 hs2
    obtain ⟨i, M, hig, rfl, hsr, HI⟩ := hrel
    by_cases hi : i < ns.length
    · have hiI : (i : Int) < (ns.length : Int) := by omega
      by_cases hi2 : i < 50
      · have hi2I : (i : Int) < 50 := by omega
        obtain ⟨g', rfl⟩ : ∃ g', gk = g' + 1 := ⟨gk - 1, by omega⟩
        obtain ⟨ba, o, rfl, -, hcx⟩ := unhide HC i hi
        have HX := hide hcx
        clear hcx
        generalize ns.getD i 0 = z at *
        obtain ⟨q, hq⟩ : ∃ q, IntKind.i64.wrap (z.tdiv 100) = q := ⟨_, rfl⟩
        have HV1 := hide (fun w' => within5_any z 100 w' (by omega) (by omega))
        have HV2 := hide (fun w' => within5_any q 30 w' (by omega) (by omega))
        have hbr : Below w.heap.size w wr.drew := (unhide HI).1.drew
        have HK := hide (hput_any M b (z % 100) (q % 30) wr.drew ((unhide HI).2.1.of_block rfl))
        have hg0 : 0 ≤ q % 30 := Int.emod_nonneg _ (by omega)
        have HG := hide (Sp.putK_ge (k := z % 100) (unhide HI).2.2 hg0)
        clear hg0
        generalize hy1 : z % 100 = y1 at *
        generalize hy2 : q % 30 = y2 at *
        clear hy1 hy2
        go_upto_region 9 with fail
        go_region_held3 (fun w' => w'.cell? ⟨ba, o + i, none⟩ = some (.int .i64 z))
          (exact unhide HX _ (by assumption))
          (first
            | (go_at_call 18
               refine (unhide HK).mono ?_
               rintro e w4 ⟨rfl, hb4, hi4⟩
               have hb5 := hb4.on hbr hwb (by show w.heap.size ≤ wr.heap.size; omega)
               have hs4 : wr.heap.size ≤ w4.heap.size := hb4.size)
            | (go_at_call_of 13 z
               refine (unhide HV1 _).mono ?_
               rintro e w' ⟨rfl, hw'⟩
               have := hw'.symm
               subst this)
            | (go_at_call_of 13 q
               refine (unhide HV2 _).mono ?_
               rintro e w' ⟨rfl, hw'⟩
               have := hw'.symm
               subst this))
        all_goals
          have HF : Hid (Below w.heap.size w w4 ∧ HpIs w4 b (Sp.putK M y1 y2) ∧ ∀ i s, Sp.putK M y1 y2 i = some s → 0 ≤ s) := hide ⟨hb5, hi4, unhide HG⟩
          clear hb4 hi4 HI HV1 HV2 HK HG hb5
          go_wp2
          go_roundg g'
          case rel => exact ⟨i + 1, _, by omega, rfl, by omega, HF⟩
          case measure => omega
      · have hi2I : ¬ (i : Int) < 50 := by omega
        have HV := hide (within5_any key 300 wr (by omega) (by omega))
        have hk0 : 0 ≤ key % 300 := Int.emod_nonneg _ (by omega)
        have hk1 : key % 300 < 300 := Int.emod_lt_of_pos _ (by omega)
        generalize key % 300 = k at *
        obtain ⟨j, rfl⟩ : ∃ j : Nat, k = (j : Int) := ⟨k.toNat, by omega⟩
        have hj : j < 300 := by omega
        have hkk : 0 ≤ (j : Int) ∧ (j : Int) < 300 := ⟨hk0, hk1⟩
        have HPa := hide (hput_any M b (j : Int) x wr (unhide HI).2.1)
        rw [decide_eq_true hkk] at HPa
        have HLo := hide (show ∀ i s, Sp.putK M (j : Int) (-9223372036854775808) i = some s → -9223372036854775808 ≤ s from fun i s h => by
          unfold Sp.putK Sp.put at h
          rw [if_pos hkk] at h
          split at h
          · cases h; exact Int.le_refl _
          · have := (unhide HI).2.2 i s h; omega)
        have HMj : Hid (Sp.putK M (j : Int) (-9223372036854775808) j = some (-9223372036854775808)) := hide (by rw [Sp.putK, if_pos hkk, Int.toNat_natCast, Sp.put_same])
        have HKK := hide hkk
        clear hkk
        go_wp2_with fail
        go_at_call 13
        refine (unhide HV).mono ?_
        rintro e w' ⟨rfl, hw'⟩
        have := hw'.symm
        subst this
        go_wp2_with fail
        go_at_call 18
        refine (unhide HPa).mono ?_
        rintro e w4 ⟨rfl, hb4, hi4⟩
        have H4 : Hid (Below w.heap.size w w4 ∧ HpIs w4 b (Sp.putK M (j : Int) x)) := hide ⟨hb4.on (unhide HI).1 hwb (by omega), hi4⟩
        have hs4 := hb4.size
        clear hb4 hi4 HI HPa HV
        have HL4 := hide (hlen_any _ b w4 (unhide H4).2)
        rw [Sp.cnt_putK2 M (j : Int) x (-9223372036854775808)] at HL4
        go_wp2_with fail
        go_at_call 14
        refine (unhide HL4).mono ?_
        rintro e w' ⟨rfl, hw'⟩
        have := hw'.symm
        subst this
        have HPb := hide (hput_any _ b (j : Int) y w4 (unhide H4).2)
        rw [decide_eq_true (unhide HKK), Sp.putK_twice] at HPb
        go_wp2_with fail
        go_at_call 18
        refine (unhide HPb).mono ?_
        rintro e w5 ⟨rfl, hb5, hi5⟩
        have H5 : Hid (Below w.heap.size w w5 ∧ HpIs w5 b (Sp.putK M (j : Int) y)) := hide ⟨hb5.on (unhide H4).1 hwb (by omega), hi5⟩
        have hs5 := hb5.size
        clear hb5 hi5 H4 HPb HL4
        have HR5 := hide (hrank_any _ b (j : Int) w5 (unhide H5).2)
        rw [Sp.look_putK M (j : Int) y (unhide HKK)] at HR5
        go_wp2_with fail
        go_at_call 20
        refine (unhide HR5).mono ?_
        rintro e w' ⟨rfl, hw'⟩
        have := hw'.symm
        subst this
        have HPc := hide (hput_any _ b (j : Int) (-9223372036854775808) w5 (unhide H5).2)
        rw [decide_eq_true (unhide HKK), Sp.putK_twice] at HPc
        go_wp2_with fail
        go_at_call 18
        refine (unhide HPc).mono ?_
        rintro e w6 ⟨rfl, hb6, hi6⟩
        have H6 : Hid (Below w.heap.size w w6 ∧ HpIs w6 b (Sp.putK M (j : Int) (-9223372036854775808))) := hide ⟨hb6.on (unhide H5).1 hwb (by omega), hi6⟩
        have hs6 := hb6.size
        clear hb6 hi6 H5 HPc HR5
        go_wp2_with fail
        go_at_call 16
        refine (hleast_any _ b w6 (unhide H6).2).mono ?_
        rintro e w7 ⟨k7, r7, is7, rfl, hl7, hb7⟩
        obtain ⟨rfl, hor⟩ := Sp.least_low hl7 (unhide HMj) (unhide HLo)
        have H7 : Hid (∀ o, Below w.heap.size w (w7.alloc o) ∧ HpIs (w7.alloc o) b (Sp.putK M (j : Int) (-9223372036854775808))) := hide fun o => by
          have h1 := (unhide H6).1.trans (hb7.mono (by omega))
          have h2 := hb7.size
          exact ⟨h1.alloc (by omega) o, ((unhide H6).2.below hb7).below ((Below.refl _ w7).alloc (Nat.le_refl _) o)⟩
        have HL7 := hide (fun o => hlen_any _ b (w7.alloc o) (unhide H7 o).2)
        clear hl7 hb7 H6 HLo HMj
        generalize Sp.cnt (Sp.putK M (j : Int) (-9223372036854775808)) = n at *
        by_cases hkj : k7 = (j : Int)
        · subst hkj
          clear hor
          go_wp2_with fail
          go_at_call 14
          refine (unhide HL7 _).mono ?_
          rintro e w' ⟨rfl, hw'⟩
          have := hw'.symm
          subst this
          go_wp2
          rw [unhide HP]
          exact ⟨rfl, (unhide H7 _).1⟩
        · obtain ⟨rfl, hlt⟩ := hor.resolve_left hkj
          have hkjb : (k7 == (j : Int)) = false := beq_eq_false_iff_ne.2 hkj
          clear hor
          go_wp2_with fail
          go_at_call 14
          refine (unhide HL7 _).mono ?_
          rintro e w' ⟨rfl, hw'⟩
          have := hw'.symm
          subst this
          go_wp2
          rw [unhide HP]
          exact ⟨rfl, (unhide H7 _).1⟩
    · have hiI : ¬ (i : Int) < (ns.length : Int) := by omega
      have HV := hide (within5_any key 300 wr (by omega) (by omega))
      have hk0 : 0 ≤ key % 300 := Int.emod_nonneg _ (by omega)
      have hk1 : key % 300 < 300 := Int.emod_lt_of_pos _ (by omega)
      generalize key % 300 = k at *
      obtain ⟨j, rfl⟩ : ∃ j : Nat, k = (j : Int) := ⟨k.toNat, by omega⟩
      have hj : j < 300 := by omega
      have hkk : 0 ≤ (j : Int) ∧ (j : Int) < 300 := ⟨hk0, hk1⟩
      have HPa := hide (hput_any M b (j : Int) x wr (unhide HI).2.1)
      rw [decide_eq_true hkk] at HPa
      have HLo := hide (show ∀ i s, Sp.putK M (j : Int) (-9223372036854775808) i = some s → -9223372036854775808 ≤ s from fun i s h => by
        unfold Sp.putK Sp.put at h
        rw [if_pos hkk] at h
        split at h
        · cases h; exact Int.le_refl _
        · have := (unhide HI).2.2 i s h; omega)
      have HMj : Hid (Sp.putK M (j : Int) (-9223372036854775808) j = some (-9223372036854775808)) := hide (by rw [Sp.putK, if_pos hkk, Int.toNat_natCast, Sp.put_same])
      have HKK := hide hkk
      clear hkk
      go_wp2_with fail
      go_at_call 13
      refine (unhide HV).mono ?_
      rintro e w' ⟨rfl, hw'⟩
      have := hw'.symm
      subst this
      go_wp2_with fail
      go_at_call 18
      refine (unhide HPa).mono ?_
      rintro e w4 ⟨rfl, hb4, hi4⟩
      have H4 : Hid (Below w.heap.size w w4 ∧ HpIs w4 b (Sp.putK M (j : Int) x)) := hide ⟨hb4.on (unhide HI).1 hwb (by omega), hi4⟩
      have hs4 := hb4.size
      clear hb4 hi4 HI HPa HV
      have HL4 := hide (hlen_any _ b w4 (unhide H4).2)
      rw [Sp.cnt_putK2 M (j : Int) x (-9223372036854775808)] at HL4
      go_wp2_with fail
      go_at_call 14
      refine (unhide HL4).mono ?_
      rintro e w' ⟨rfl, hw'⟩
      have := hw'.symm
      subst this
      have HPb := hide (hput_any _ b (j : Int) y w4 (unhide H4).2)
      rw [decide_eq_true (unhide HKK), Sp.putK_twice] at HPb
      go_wp2_with fail
      go_at_call 18
      refine (unhide HPb).mono ?_
      rintro e w5 ⟨rfl, hb5, hi5⟩
      have H5 : Hid (Below w.heap.size w w5 ∧ HpIs w5 b (Sp.putK M (j : Int) y)) := hide ⟨hb5.on (unhide H4).1 hwb (by omega), hi5⟩
      have hs5 := hb5.size
      clear hb5 hi5 H4 HPb HL4
      have HR5 := hide (hrank_any _ b (j : Int) w5 (unhide H5).2)
      rw [Sp.look_putK M (j : Int) y (unhide HKK)] at HR5
      go_wp2_with fail
      go_at_call 20
      refine (unhide HR5).mono ?_
      rintro e w' ⟨rfl, hw'⟩
      have := hw'.symm
      subst this
      have HPc := hide (hput_any _ b (j : Int) (-9223372036854775808) w5 (unhide H5).2)
      rw [decide_eq_true (unhide HKK), Sp.putK_twice] at HPc
      go_wp2_with fail
      go_at_call 18
      refine (unhide HPc).mono ?_
      rintro e w6 ⟨rfl, hb6, hi6⟩
      have H6 : Hid (Below w.heap.size w w6 ∧ HpIs w6 b (Sp.putK M (j : Int) (-9223372036854775808))) := hide ⟨hb6.on (unhide H5).1 hwb (by omega), hi6⟩
      have hs6 := hb6.size
      clear hb6 hi6 H5 HPc HR5
      go_wp2_with fail
      go_at_call 16
      refine (hleast_any _ b w6 (unhide H6).2).mono ?_
      rintro e w7 ⟨k7, r7, is7, rfl, hl7, hb7⟩
      obtain ⟨rfl, hor⟩ := Sp.least_low hl7 (unhide HMj) (unhide HLo)
      have H7 : Hid (∀ o, Below w.heap.size w (w7.alloc o) ∧ HpIs (w7.alloc o) b (Sp.putK M (j : Int) (-9223372036854775808))) := hide fun o => by
        have h1 := (unhide H6).1.trans (hb7.mono (by omega))
        have h2 := hb7.size
        exact ⟨h1.alloc (by omega) o, ((unhide H6).2.below hb7).below ((Below.refl _ w7).alloc (Nat.le_refl _) o)⟩
      have HL7 := hide (fun o => hlen_any _ b (w7.alloc o) (unhide H7 o).2)
      clear hl7 hb7 H6 HLo HMj
      generalize Sp.cnt (Sp.putK M (j : Int) (-9223372036854775808)) = n at *
      by_cases hkj : k7 = (j : Int)
      · subst hkj
        clear hor
        go_wp2_with fail
        go_at_call 14
        refine (unhide HL7 _).mono ?_
        rintro e w' ⟨rfl, hw'⟩
        have := hw'.symm
        subst this
        go_wp2
        rw [unhide HP]
        exact ⟨rfl, (unhide H7 _).1⟩
      · obtain ⟨rfl, hlt⟩ := hor.resolve_left hkj
        have hkjb : (k7 == (j : Int)) = false := beq_eq_false_iff_ne.2 hkj
        clear hor
        go_wp2_with fail
        go_at_call 14
        refine (unhide HL7 _).mono ?_
        rintro e w' ⟨rfl, hw'⟩
        have := hw'.symm
        subst this
        go_wp2
        rw [unhide HP]
        exact ⟨rfl, (unhide H7 _).1⟩
end Go.Proofs.Ytfcknfodejnhnaa


