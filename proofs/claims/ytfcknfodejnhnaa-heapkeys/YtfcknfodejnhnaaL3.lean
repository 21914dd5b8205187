/- What the proof needs, part 3. -/
import Derived.Test.YtfcknfodejnhnaaL2
/- The law HeapKeys, walked. -/
namespace Go.Proofs.Ytfcknfodejnhnaa
open Go Go.RowKit

theorem HpIs.out {w : World} {b : Nat} {M : Nat → Option Int} (h : HpIs w b M) {k : Int} (hk : ¬ (0 ≤ k ∧ k < 300)) : Sp.look M k = none := by
  obtain ⟨z, -, h2, -⟩ := h
  unfold Sp.look
  split
  · exact h2.out _ (by omega)
  · rfl
theorem Sp.look_putK (M : Nat → Option Int) (k r : Int) (hk : 0 ≤ k ∧ k < 300) : Sp.look (Sp.putK M k r) k = some r := by
  rw [Sp.look, if_pos hk.1, Sp.putK, if_pos hk, Sp.put_same]
theorem Sp.cnt_putK_new (M : Nat → Option Int) (k r : Int) (hk : 0 ≤ k ∧ k < 300) (h : Sp.look M k = none) : Sp.cnt (Sp.putK M k r) = Sp.cnt M + 1 := by
  rw [Sp.look, if_pos hk.1] at h
  rw [Sp.putK, if_pos hk]
  exact Sp.cnt_add M _ r (by omega) h
theorem Sp.cnt_putK_anew (M : Nat → Option Int) (k r s : Int) (hk : 0 ≤ k ∧ k < 300) (h : Sp.look M k = some s) : Sp.cnt (Sp.putK M k r) = Sp.cnt M := by
  rw [Sp.look, if_pos hk.1] at h
  rw [Sp.putK, if_pos hk]
  exact Sp.cnt_anew M _ r s (by omega) h
set_option maxRecDepth 100000 in
set_option maxHeartbeats 8000000 in
theorem heapKeys_any (key rank : Int) (ns : List Int) (v : Value) (w : World) (hv : Ints w v ns) :
    Calls Try.prog 8 #[.int .i64 key, .int .i64 rank, v] w fun e w' => e = .returned (.bool true) ∧ Below w.heap.size w w' := by
  obtain ⟨P, hP⟩ : ∃ P : Ending → World → Prop, P = fun e w' => e = .returned (.bool true) ∧ Below w.heap.size w w' := ⟨_, rfl⟩
  rw [← hP]
  have HP := hide hP
  clear hP
  obtain ⟨a, c, rfl, hcl, hcm, HC⟩ := hv.allH
  clear hv
  go_enter Try.func8, Try.ntmps8
  go_wp2_with fail
  go_at_call 9
  refine (known5_any w).mono ?_
  rintro e w1 ⟨rfl, hb1⟩
  have HB1 := hide hb1
  clear hb1
  go_wp2_with fail
  go_at_call 10
  refine (hnew2_any w1).mono ?_
  rintro e w2 ⟨rfl, hb2, hi2, hs2⟩
  obtain ⟨b, hb⟩ : ∃ b, w1.heap.size = b := ⟨_, rfl⟩
  rw [hb] at hb2 hi2 hs2 ⊢
  have hwb : w.heap.size ≤ b := by rw [← hb]; exact (unhide HB1).size
  have H2 : Hid (Below w.heap.size w w2 ∧ HpIs w2 b (fun _ => none)) := hide ⟨(unhide HB1).trans (hb2.mono hwb), hi2⟩
  replace hs2 : b + 1 ≤ w2.heap.size := by omega
  clear hb2 hi2 hb HB1
  go_wp2
  go_loopg [8] (min ns.length 20) (fun g s8 wr => ∃ (i : Nat) (M : Nat → Option Int), i + g = min ns.length 20 ∧ s8 = .int .i64 (i : Int) ∧ b + 1 ≤ wr.heap.size ∧ Hid (Below w.heap.size w wr ∧ HpIs wr b M))
  case atStart => exact ⟨0, _, by omega, rfl, hs2, H2⟩
  case round =>
    clear H2 hs2
    obtain ⟨i, M, hig, rfl, hsr, HI⟩ := hrel
    by_cases hi : i < ns.length
    · have hiI : (i : Int) < (ns.length : Int) := by omega
      by_cases hi2 : i < 20
      · have hi2I : (i : Int) < 20 := by omega
        obtain ⟨g', rfl⟩ : ∃ g', gk = g' + 1 := ⟨gk - 1, by omega⟩
        obtain ⟨ba, o, rfl, -, hcx⟩ := unhide HC i hi
        have c1 := hcx _ (unhide HI).1
        clear hcx
        have HV := hide (within5_any (ns.getD i 0) 300 wr (by omega) (by omega))
        have HK := hide (hput_any M b (ns.getD i 0 % 300) 5 wr (unhide HI).2)
        generalize ns.getD i 0 = x at *
        generalize x % 300 = y at *
        go_wp2_with fail
        go_at_call 13
        refine (unhide HV).mono ?_
        rintro e w' ⟨rfl, hw'⟩
        have := hw'.symm
        subst this
        go_wp2_with fail
        go_at_call 18
        refine (unhide HK).mono ?_
        rintro e w4 ⟨rfl, hb4, hi4⟩
        have HF : Hid (Below w.heap.size w w4 ∧ HpIs w4 b (Sp.putK M y 5)) := hide ⟨hb4.on (unhide HI).1 hwb (by omega), hi4⟩
        have hs4 := hb4.size
        clear hb4 hi4 HI HV HK c1
        go_wp2
        go_roundg g'
        case rel => exact ⟨i + 1, _, by omega, rfl, by omega, HF⟩
        case measure => omega
      · have hi2I : ¬ (i : Int) < 20 := by omega
        have HL1 := hide (hlen_any M b wr (unhide HI).2)
        have HR1 := hide (hrank_any M b key wr (unhide HI).2)
        have HPu := hide (hput_any M b key rank wr (unhide HI).2)
        have HO := hide (fun hk => (unhide HI).2.out (k := key) hk)
        by_cases hk : 0 ≤ key ∧ key < 300
        · rw [decide_eq_true hk] at HPu
          have hk0 := hk.1
          have hk1 := hk.2
          have HLK := hide (Sp.look_putK M key rank hk)
          cases hl : Sp.look M key with
          | none =>
            rw [hl] at HR1
            have HCN := hide (Sp.cnt_putK_new M key rank hk hl)
            clear hl hk HO
            go_wp2_with fail
            go_at_call 14
            refine (unhide HL1).mono ?_
            rintro e w' ⟨rfl, hw'⟩
            have := hw'.symm
            subst this
            go_wp2_with fail
            go_at_call 20
            refine (unhide HR1).mono ?_
            rintro e w' ⟨rfl, hw'⟩
            have := hw'.symm
            subst this
            go_wp2_with fail
            go_at_call 18
            refine (unhide HPu).mono ?_
            rintro e w5 ⟨rfl, hb5, hi5⟩
            have HR2 := hide (hrank_any _ b key w5 hi5)
            have HL2 := hide (hlen_any _ b w5 hi5)
            rw [unhide HLK] at HR2
            rw [unhide HCN] at HL2
            have hcl := Sp.cnt_le M
            have HF := hide (hb5.on (unhide HI).1 hwb (by omega))
            clear hb5 hi5 HI HL1 HR1 HPu
            generalize Sp.cnt M = n at *
            have hne : ((n : Int) == (n : Int) + 1) = false := beq_eq_false_iff_ne.2 (by omega)
            have hwn : IntKind.i64.wrap ((n : Int) + 1) = (n : Int) + 1 := by rw [IntKind.wrap_i64]; omega
            go_wp2_with fail
            go_at_call 20
            refine (unhide HR2).mono ?_
            rintro e w' ⟨rfl, hw'⟩
            have := hw'.symm
            subst this
            go_wp2_with fail
            go_at_call 14
            refine (unhide HL2).mono ?_
            rintro e w' ⟨rfl, hw'⟩
            have := hw'.symm
            subst this
            go_wp2
            rw [unhide HP]
            exact ⟨rfl, unhide HF⟩
          | some s =>
            rw [hl] at HR1
            have HCN := hide (Sp.cnt_putK_anew M key rank s hk hl)
            clear hl hk HO
            go_wp2_with fail
            go_at_call 14
            refine (unhide HL1).mono ?_
            rintro e w' ⟨rfl, hw'⟩
            have := hw'.symm
            subst this
            go_wp2_with fail
            go_at_call 20
            refine (unhide HR1).mono ?_
            rintro e w' ⟨rfl, hw'⟩
            have := hw'.symm
            subst this
            go_wp2_with fail
            go_at_call 18
            refine (unhide HPu).mono ?_
            rintro e w5 ⟨rfl, hb5, hi5⟩
            have HR2 := hide (hrank_any _ b key w5 hi5)
            have HL2 := hide (hlen_any _ b w5 hi5)
            rw [unhide HLK] at HR2
            rw [unhide HCN] at HL2
            have hcl := Sp.cnt_le M
            have HF := hide (hb5.on (unhide HI).1 hwb (by omega))
            clear hb5 hi5 HI HL1 HR1 HPu
            generalize Sp.cnt M = n at *
            have hne : ((n : Int) == (n : Int) + 1) = false := beq_eq_false_iff_ne.2 (by omega)
            have hwn : IntKind.i64.wrap ((n : Int) + 1) = (n : Int) + 1 := by rw [IntKind.wrap_i64]; omega
            go_wp2_with fail
            go_at_call 20
            refine (unhide HR2).mono ?_
            rintro e w' ⟨rfl, hw'⟩
            have := hw'.symm
            subst this
            go_wp2_with fail
            go_at_call 14
            refine (unhide HL2).mono ?_
            rintro e w' ⟨rfl, hw'⟩
            have := hw'.symm
            subst this
            go_wp2
            rw [unhide HP]
            exact ⟨rfl, unhide HF⟩
        · rw [decide_eq_false hk] at HPu
          have hl := unhide HO hk
          rw [hl] at HR1
          have hk0 : 0 ≤ key → ¬ key < 300 := by omega
          have HPE : Hid (Sp.putK M key rank = M) := hide (if_neg hk)
          by_cases hk2 : 0 ≤ key
          · have hk3 : ¬ key < 300 := by omega
            clear hk hk0 HO
            go_wp2_with fail
            go_at_call 14
            refine (unhide HL1).mono ?_
            rintro e w' ⟨rfl, hw'⟩
            have := hw'.symm
            subst this
            go_wp2_with fail
            go_at_call 20
            refine (unhide HR1).mono ?_
            rintro e w' ⟨rfl, hw'⟩
            have := hw'.symm
            subst this
            go_wp2_with fail
            go_at_call 18
            refine (unhide HPu).mono ?_
            rintro e w5 ⟨rfl, hb5, hi5⟩
            have HR2 := hide (hrank_any _ b key w5 hi5)
            have HL2 := hide (hlen_any _ b w5 hi5)
            rw [unhide HPE, hl] at HR2
            rw [unhide HPE] at HL2
            clear hl
            have hcl := Sp.cnt_le M
            have HF := hide (hb5.on (unhide HI).1 hwb (by omega))
            clear hb5 hi5 HI HL1 HR1 HPu
            generalize Sp.cnt M = n at *
            have hne : ((n : Int) == (n : Int) + 1) = false := beq_eq_false_iff_ne.2 (by omega)
            have hwn : IntKind.i64.wrap ((n : Int) + 1) = (n : Int) + 1 := by rw [IntKind.wrap_i64]; omega
            go_wp2_with fail
            go_at_call 20
            refine (unhide HR2).mono ?_
            rintro e w' ⟨rfl, hw'⟩
            have := hw'.symm
            subst this
            go_wp2_with fail
            go_at_call 14
            refine (unhide HL2).mono ?_
            rintro e w' ⟨rfl, hw'⟩
            have := hw'.symm
            subst this
            go_wp2
            rw [unhide HP]
            exact ⟨rfl, unhide HF⟩
          · have hk3 : key < 0 := by omega
            clear hk hk0 HO
            go_wp2_with fail
            go_at_call 14
            refine (unhide HL1).mono ?_
            rintro e w' ⟨rfl, hw'⟩
            have := hw'.symm
            subst this
            go_wp2_with fail
            go_at_call 20
            refine (unhide HR1).mono ?_
            rintro e w' ⟨rfl, hw'⟩
            have := hw'.symm
            subst this
            go_wp2_with fail
            go_at_call 18
            refine (unhide HPu).mono ?_
            rintro e w5 ⟨rfl, hb5, hi5⟩
            have HR2 := hide (hrank_any _ b key w5 hi5)
            have HL2 := hide (hlen_any _ b w5 hi5)
            rw [unhide HPE, hl] at HR2
            rw [unhide HPE] at HL2
            clear hl
            have hcl := Sp.cnt_le M
            have HF := hide (hb5.on (unhide HI).1 hwb (by omega))
            clear hb5 hi5 HI HL1 HR1 HPu
            generalize Sp.cnt M = n at *
            have hne : ((n : Int) == (n : Int) + 1) = false := beq_eq_false_iff_ne.2 (by omega)
            have hwn : IntKind.i64.wrap ((n : Int) + 1) = (n : Int) + 1 := by rw [IntKind.wrap_i64]; omega
            go_wp2_with fail
            go_at_call 20
            refine (unhide HR2).mono ?_
            rintro e w' ⟨rfl, hw'⟩
            have := hw'.symm
            subst this
            go_wp2_with fail
            go_at_call 14
            refine (unhide HL2).mono ?_
            rintro e w' ⟨rfl, hw'⟩
            have := hw'.symm
            subst this
            go_wp2
            rw [unhide HP]
            exact ⟨rfl, unhide HF⟩
    · have hiI : ¬ (i : Int) < (ns.length : Int) := by omega
      have HL1 := hide (hlen_any M b wr (unhide HI).2)
      have HR1 := hide (hrank_any M b key wr (unhide HI).2)
      have HPu := hide (hput_any M b key rank wr (unhide HI).2)
      have HO := hide (fun hk => (unhide HI).2.out (k := key) hk)
      by_cases hk : 0 ≤ key ∧ key < 300
      · rw [decide_eq_true hk] at HPu
        have hk0 := hk.1
        have hk1 := hk.2
        have HLK := hide (Sp.look_putK M key rank hk)
        cases hl : Sp.look M key with
        | none =>
          rw [hl] at HR1
          have HCN := hide (Sp.cnt_putK_new M key rank hk hl)
          clear hl hk HO
          go_wp2_with fail
          go_at_call 14
          refine (unhide HL1).mono ?_
          rintro e w' ⟨rfl, hw'⟩
          have := hw'.symm
          subst this
          go_wp2_with fail
          go_at_call 20
          refine (unhide HR1).mono ?_
          rintro e w' ⟨rfl, hw'⟩
          have := hw'.symm
          subst this
          go_wp2_with fail
          go_at_call 18
          refine (unhide HPu).mono ?_
          rintro e w5 ⟨rfl, hb5, hi5⟩
          have HR2 := hide (hrank_any _ b key w5 hi5)
          have HL2 := hide (hlen_any _ b w5 hi5)
          rw [unhide HLK] at HR2
          rw [unhide HCN] at HL2
          have hcl := Sp.cnt_le M
          have HF := hide (hb5.on (unhide HI).1 hwb (by omega))
          clear hb5 hi5 HI HL1 HR1 HPu
          generalize Sp.cnt M = n at *
          have hne : ((n : Int) == (n : Int) + 1) = false := beq_eq_false_iff_ne.2 (by omega)
          have hwn : IntKind.i64.wrap ((n : Int) + 1) = (n : Int) + 1 := by rw [IntKind.wrap_i64]; omega
          go_wp2_with fail
          go_at_call 20
          refine (unhide HR2).mono ?_
          rintro e w' ⟨rfl, hw'⟩
          have := hw'.symm
          subst this
          go_wp2_with fail
          go_at_call 14
          refine (unhide HL2).mono ?_
          rintro e w' ⟨rfl, hw'⟩
          have := hw'.symm
          subst this
          go_wp2
          rw [unhide HP]
          exact ⟨rfl, unhide HF⟩
        | some s =>
          rw [hl] at HR1
          have HCN := hide (Sp.cnt_putK_anew M key rank s hk hl)
          clear hl hk HO
          go_wp2_with fail
          go_at_call 14
          refine (unhide HL1).mono ?_
          rintro e w' ⟨rfl, hw'⟩
          have := hw'.symm
          subst this
          go_wp2_with fail
          go_at_call 20
          refine (unhide HR1).mono ?_
          rintro e w' ⟨rfl, hw'⟩
          have := hw'.symm
          subst this
          go_wp2_with fail
          go_at_call 18
          refine (unhide HPu).mono ?_
          rintro e w5 ⟨rfl, hb5, hi5⟩
          have HR2 := hide (hrank_any _ b key w5 hi5)
          have HL2 := hide (hlen_any _ b w5 hi5)
          rw [unhide HLK] at HR2
          rw [unhide HCN] at HL2
          have hcl := Sp.cnt_le M
          have HF := hide (hb5.on (unhide HI).1 hwb (by omega))
          clear hb5 hi5 HI HL1 HR1 HPu
          generalize Sp.cnt M = n at *
          have hne : ((n : Int) == (n : Int) + 1) = false := beq_eq_false_iff_ne.2 (by omega)
          have hwn : IntKind.i64.wrap ((n : Int) + 1) = (n : Int) + 1 := by rw [IntKind.wrap_i64]; omega
          go_wp2_with fail
          go_at_call 20
          refine (unhide HR2).mono ?_
          rintro e w' ⟨rfl, hw'⟩
          have := hw'.symm
          subst this
          go_wp2_with fail
          go_at_call 14
          refine (unhide HL2).mono ?_
          rintro e w' ⟨rfl, hw'⟩
          have := hw'.symm
          subst this
          go_wp2
          rw [unhide HP]
          exact ⟨rfl, unhide HF⟩
      · rw [decide_eq_false hk] at HPu
        have hl := unhide HO hk
        rw [hl] at HR1
        have hk0 : 0 ≤ key → ¬ key < 300 := by omega
        have HPE : Hid (Sp.putK M key rank = M) := hide (if_neg hk)
        by_cases hk2 : 0 ≤ key
        · have hk3 : ¬ key < 300 := by omega
          clear hk hk0 HO
          go_wp2_with fail
          go_at_call 14
          refine (unhide HL1).mono ?_
          rintro e w' ⟨rfl, hw'⟩
          have := hw'.symm
          subst this
          go_wp2_with fail
          go_at_call 20
          refine (unhide HR1).mono ?_
          rintro e w' ⟨rfl, hw'⟩
          have := hw'.symm
          subst this
          go_wp2_with fail
          go_at_call 18
          refine (unhide HPu).mono ?_
          rintro e w5 ⟨rfl, hb5, hi5⟩
          have HR2 := hide (hrank_any _ b key w5 hi5)
          have HL2 := hide (hlen_any _ b w5 hi5)
          rw [unhide HPE, hl] at HR2
          rw [unhide HPE] at HL2
          clear hl
          have hcl := Sp.cnt_le M
          have HF := hide (hb5.on (unhide HI).1 hwb (by omega))
          clear hb5 hi5 HI HL1 HR1 HPu
          generalize Sp.cnt M = n at *
          have hne : ((n : Int) == (n : Int) + 1) = false := beq_eq_false_iff_ne.2 (by omega)
          have hwn : IntKind.i64.wrap ((n : Int) + 1) = (n : Int) + 1 := by rw [IntKind.wrap_i64]; omega
          go_wp2_with fail
          go_at_call 20
          refine (unhide HR2).mono ?_
          rintro e w' ⟨rfl, hw'⟩
          have := hw'.symm
          subst this
          go_wp2_with fail
          go_at_call 14
          refine (unhide HL2).mono ?_
          rintro e w' ⟨rfl, hw'⟩
          have := hw'.symm
          subst this
          go_wp2
          rw [unhide HP]
          exact ⟨rfl, unhide HF⟩
        · have hk3 : key < 0 := by omega
          clear hk hk0 HO
          go_wp2_with fail
          go_at_call 14
          refine (unhide HL1).mono ?_
          rintro e w' ⟨rfl, hw'⟩
          have := hw'.symm
          subst this
          go_wp2_with fail
          go_at_call 20
          refine (unhide HR1).mono ?_
          rintro e w' ⟨rfl, hw'⟩
          have := hw'.symm
          subst this
          go_wp2_with fail
          go_at_call 18
          refine (unhide HPu).mono ?_
          rintro e w5 ⟨rfl, hb5, hi5⟩
          have HR2 := hide (hrank_any _ b key w5 hi5)
          have HL2 := hide (hlen_any _ b w5 hi5)
          rw [unhide HPE, hl] at HR2
          rw [unhide HPE] at HL2
          clear hl
          have hcl := Sp.cnt_le M
          have HF := hide (hb5.on (unhide HI).1 hwb (by omega))
          clear hb5 hi5 HI HL1 HR1 HPu
          generalize Sp.cnt M = n at *
          have hne : ((n : Int) == (n : Int) + 1) = false := beq_eq_false_iff_ne.2 (by omega)
          have hwn : IntKind.i64.wrap ((n : Int) + 1) = (n : Int) + 1 := by rw [IntKind.wrap_i64]; omega
          go_wp2_with fail
          go_at_call 20
          refine (unhide HR2).mono ?_
          rintro e w' ⟨rfl, hw'⟩
          have := hw'.symm
          subst this
          go_wp2_with fail
          go_at_call 14
          refine (unhide HL2).mono ?_
          rintro e w' ⟨rfl, hw'⟩
          have := hw'.symm
          subst this
          go_wp2
          rw [unhide HP]
          exact ⟨rfl, unhide HF⟩
end Go.Proofs.Ytfcknfodejnhnaa


