/- What the proof needs, part 3. -/
import Derived.Test.YtfcknfodejnhnabL2
/- The laws HeapTies, HeapLeast, walked. -/
namespace Go.Proofs.Ytfcknfodejnhnab
open Go Go.RowKit

theorem Sp.LeastIs.pos {M : Nat → Option Int} {k r : Int} {is : Bool} (h : Sp.LeastIs M k r is) : (is = true ∧ ∃ j : Nat, k = (j : Int) ∧ M j = some r ∧ Sp.cnt (Sp.put M k.toNat none) + 1 = Sp.cnt M) ∨ (is = false ∧ k = 0 ∧ r = 0 ∧ Sp.cnt M = 0 ∧ Sp.put M k.toNat none = M) := by
  rcases h with ⟨a, b, c, d⟩ | ⟨a, j, b, hj, c, d⟩
  · exact .inr ⟨a, b, c, Sp.cnt_zero d, Sp.put_none _ _ (d _)⟩
  · exact .inl ⟨a, j, b, c, by rw [b, Int.toNat_natCast]; exact Sp.cnt_drop M j r hj c⟩
theorem Sp.putK_all {M : Nat → Option Int} {k r : Int} (Q : Nat → Int → Prop) (h : ∀ i s, M i = some s → Q i s) (hr : ∀ i : Nat, k = (i : Int) → Q i r) : ∀ i s, Sp.putK M k r i = some s → Q i s := by
  intro i s hs
  unfold Sp.putK Sp.put at hs
  split at hs
  · change (if i = k.toNat then some r else M i) = some s at hs
    split at hs
    · cases hs; exact hr i (by omega)
    · exact h i s hs
  · exact h i s hs
theorem Sp.put_less {M : Nat → Option Int} {j : Nat} {i : Nat} {s : Int} (h : Sp.put M j none i = some s) : i ≠ j ∧ M i = some s := by
  unfold Sp.put at h
  split at h
  · cases h
  · exact ⟨by assumption, h⟩
set_option maxRecDepth 100000 in
set_option maxHeartbeats 8000000 in
theorem heapTies_any (ns : List Int) (rank : Int) (v : Value) (w : World) (hv : Ints w v ns) :
    Calls Try.prog 3 #[v, .int .i64 rank] w fun e w' => e = .returned (.bool true) ∧ Below w.heap.size w w' := by
  obtain ⟨P, hP⟩ : ∃ P : Ending → World → Prop, P = fun e w' => e = .returned (.bool true) ∧ Below w.heap.size w w' := ⟨_, rfl⟩
  rw [← hP]
  have HP := hide hP
  clear hP
  obtain ⟨a, c, rfl, hcl, hcm, HC⟩ := hv.allH
  clear hv
  go_enter Try.func3, Try.ntmps3
  go_wp2_with fail
  go_at_call 6
  refine (known5_any w).mono ?_
  rintro e w1 ⟨rfl, hb1⟩
  have HB1 := hide hb1
  clear hb1
  go_wp2_with fail
  go_at_call 7
  refine (hnew2_any w1).mono ?_
  rintro e w2 ⟨rfl, hb2, hi2, hs2⟩
  obtain ⟨b, hb⟩ : ∃ b, w1.heap.size = b := ⟨_, rfl⟩
  rw [hb] at hb2 hi2 hs2 ⊢
  have hwb : w.heap.size ≤ b := by rw [← hb]; exact (unhide HB1).size
  have H2 : Hid (Below w.heap.size w w2 ∧ HpIs w2 b (fun _ => none)) := hide ⟨(unhide HB1).trans (hb2.mono hwb), hi2⟩
  replace hs2 : b + 1 ≤ w2.heap.size := by omega
  clear hb2 hi2 hb HB1
  go_wp2
  go_loopg [6] (min ns.length 100) (fun g s6 wr => ∃ (i : Nat) (M : Nat → Option Int), i + g = min ns.length 100 ∧ s6 = .int .i64 (i : Int) ∧ b + 1 ≤ wr.heap.size ∧ Hid (Below w.heap.size w wr ∧ HpIs wr b M ∧ ∀ i s, M i = some s → s = rank))
  case atStart => exact ⟨0, _, by omega, rfl, hs2, hide ⟨(unhide H2).1, (unhide H2).2, fun i s h => by cases h⟩⟩
  case round =>
    clear H2 hs2
    obtain ⟨i, M, hig, rfl, hsr, HI⟩ := hrel
    by_cases hi : i < ns.length
    · have hiI : (i : Int) < (ns.length : Int) := by omega
      by_cases hi2 : i < 100
      · have hi2I : (i : Int) < 100 := by omega
        obtain ⟨g', rfl⟩ : ∃ g', gk = g' + 1 := ⟨gk - 1, by omega⟩
        obtain ⟨ba, o, rfl, -, hcx⟩ := unhide HC i hi
        have c1 := hcx _ (unhide HI).1
        clear hcx
        have HV := hide (within5_any (ns.getD i 0) 300 wr (by omega) (by omega))
        have HK := hide (hput_any M b (ns.getD i 0 % 300) rank wr (unhide HI).2.1)
        generalize ns.getD i 0 = x at *
        generalize x % 300 = y at *
        go_wp2_with fail
        go_at_call 9
        refine (unhide HV).mono ?_
        rintro e w' ⟨rfl, hw'⟩
        have := hw'.symm
        subst this
        go_wp2_with fail
        go_at_call 8
        refine (unhide HK).mono ?_
        rintro e w4 ⟨rfl, hb4, hi4⟩
        have HF : Hid (Below w.heap.size w w4 ∧ HpIs w4 b (Sp.putK M y rank) ∧ ∀ i s, Sp.putK M y rank i = some s → s = rank) := hide ⟨hb4.on (unhide HI).1 hwb (by omega), hi4, Sp.putK_all (fun _ s => s = rank) (unhide HI).2.2 (fun _ _ => rfl)⟩
        have hs4 := hb4.size
        clear hb4 hi4 HI HV HK c1
        go_wp2
        go_roundg g'
        case rel => exact ⟨i + 1, _, by omega, rfl, by omega, HF⟩
        case measure => omega
      · have hi2I : ¬ (i : Int) < 100 := by omega
        have HI2 : Hid (Below w.heap.size w wr ∧ HpIs wr b M ∧ ∀ i s, M i = some s → s = rank ∧ -1 < (i : Int)) := hide ⟨(unhide HI).1, (unhide HI).2.1, fun i s h => ⟨(unhide HI).2.2 i s h, by omega⟩⟩
        clear HI
        go_wp2
        go_loopg [7] (Sp.cnt M) (fun g s7 wr => ∃ (l : Int) (M : Nat → Option Int), Sp.cnt M = g ∧ s7 = .int .i64 l ∧ b + 1 ≤ wr.heap.size ∧ Hid (Below w.heap.size w wr ∧ HpIs wr b M ∧ ∀ i s, M i = some s → s = rank ∧ l < (i : Int)))
        case atStart => exact ⟨-1, M, rfl, rfl, hsr, HI2⟩
        case round =>
          clear HI2
          clear hsr
          rename_i wr2
          obtain ⟨l, M2, hcg, rfl, hsr, HI⟩ := hrel
          have HL := hide (hlen_any M2 b _ (unhide HI).2.1)
          by_cases h0 : Sp.cnt M2 = 0
          · rw [h0] at HL
            have HF := hide (unhide HI).1
            clear HI
            go_wp2_with fail
            go_at_call 10
            refine (unhide HL).mono ?_
            rintro e w' ⟨rfl, hw'⟩
            have := hw'.symm
            subst this
            go_wp2
            rw [unhide HP]
            exact ⟨rfl, unhide HF⟩
          · have HT := hide (htake_any M2 b _ (unhide HI).2.1)
            generalize hn : Sp.cnt M2 = n at *
            have h0I : 0 < (n : Int) := by omega
            have HN := hide hn
            clear hn
            go_wp2_with fail
            go_at_call 10
            refine (unhide HL).mono ?_
            rintro e w' ⟨rfl, hw'⟩
            have := hw'.symm
            subst this
            go_wp2_with fail
            go_at_call 11
            refine (unhide HT).mono ?_
            rintro e w4 ⟨k, r, is, rfl, hl4, hb4, hi4⟩
            rcases hl4.pos with ⟨rfl, j, rfl, hM, hcnt⟩ | ⟨-, -, -, hz, -⟩
            · obtain ⟨rfl, hlt⟩ := (unhide HI).2.2 j r hM
              rw [Int.toNat_natCast] at hcnt hi4
              have HF : Hid (∀ o, Below w.heap.size w (w4.alloc o) ∧ HpIs (w4.alloc o) b (Sp.put M2 j none) ∧ ∀ i s, Sp.put M2 j none i = some s → s = r ∧ (j : Int) < (i : Int)) := hide fun o => by
                have h1 := hb4.on (unhide HI).1 hwb (by omega)
                have h2 := hb4.size
                refine ⟨h1.alloc (by omega) o, hi4.below ((Below.refl _ w4).alloc (Nat.le_refl _) o), fun i s h => ?_⟩
                obtain ⟨hij, hMi⟩ := Sp.put_less h
                have h3 := (unhide HI).2.2 i s hMi
                refine ⟨h3.1, ?_⟩
                rcases hl4 with ⟨a, -⟩ | ⟨-, j2, hj2, -, -, hmin⟩
                · cases a
                · have := hmin i s hMi
                  rw [Sp.ahead_no] at this
                  omega
              have hs4 := hb4.size
              have hgn : gk = n := by have := unhide HN; omega
              have hs5 : ∀ o, b + 1 ≤ (w4.alloc o).heap.size := fun o => by
                have := ((Below.refl w4.heap.size w4).alloc (Nat.le_refl _) o).size
                omega
              obtain ⟨g', rfl⟩ : ∃ g', gk = g' + 1 := ⟨gk - 1, by omega⟩
              have HCN := hide hcnt
              have HS5 := hide hs5
              have hltb : ¬ (j : Int) ≤ l := by omega
              clear hgn
              clear hb4 hi4 hl4 HI HL HT hcnt hs5 hM
              go_wp2
              go_roundg g'
              case rel => exact ⟨_, _, by have := unhide HN; have := unhide HCN; omega, rfl, unhide HS5 _, hide (unhide HF _)⟩
              case measure => omega
            · exfalso
              have := unhide HN
              omega
    · have hiI : ¬ (i : Int) < (ns.length : Int) := by omega
      have HI2 : Hid (Below w.heap.size w wr ∧ HpIs wr b M ∧ ∀ i s, M i = some s → s = rank ∧ -1 < (i : Int)) := hide ⟨(unhide HI).1, (unhide HI).2.1, fun i s h => ⟨(unhide HI).2.2 i s h, by omega⟩⟩
      clear HI
      go_wp2
      go_loopg [7] (Sp.cnt M) (fun g s7 wr => ∃ (l : Int) (M : Nat → Option Int), Sp.cnt M = g ∧ s7 = .int .i64 l ∧ b + 1 ≤ wr.heap.size ∧ Hid (Below w.heap.size w wr ∧ HpIs wr b M ∧ ∀ i s, M i = some s → s = rank ∧ l < (i : Int)))
      case atStart => exact ⟨-1, M, rfl, rfl, hsr, HI2⟩
      case round =>
        clear HI2
        clear hsr
        rename_i wr2
        obtain ⟨l, M2, hcg, rfl, hsr, HI⟩ := hrel
        have HL := hide (hlen_any M2 b _ (unhide HI).2.1)
        by_cases h0 : Sp.cnt M2 = 0
        · rw [h0] at HL
          have HF := hide (unhide HI).1
          clear HI
          go_wp2_with fail
          go_at_call 10
          refine (unhide HL).mono ?_
          rintro e w' ⟨rfl, hw'⟩
          have := hw'.symm
          subst this
          go_wp2
          rw [unhide HP]
          exact ⟨rfl, unhide HF⟩
        · have HT := hide (htake_any M2 b _ (unhide HI).2.1)
          generalize hn : Sp.cnt M2 = n at *
          have h0I : 0 < (n : Int) := by omega
          have HN := hide hn
          clear hn
          go_wp2_with fail
          go_at_call 10
          refine (unhide HL).mono ?_
          rintro e w' ⟨rfl, hw'⟩
          have := hw'.symm
          subst this
          go_wp2_with fail
          go_at_call 11
          refine (unhide HT).mono ?_
          rintro e w4 ⟨k, r, is, rfl, hl4, hb4, hi4⟩
          rcases hl4.pos with ⟨rfl, j, rfl, hM, hcnt⟩ | ⟨-, -, -, hz, -⟩
          · obtain ⟨rfl, hlt⟩ := (unhide HI).2.2 j r hM
            rw [Int.toNat_natCast] at hcnt hi4
            have HF : Hid (∀ o, Below w.heap.size w (w4.alloc o) ∧ HpIs (w4.alloc o) b (Sp.put M2 j none) ∧ ∀ i s, Sp.put M2 j none i = some s → s = r ∧ (j : Int) < (i : Int)) := hide fun o => by
              have h1 := hb4.on (unhide HI).1 hwb (by omega)
              have h2 := hb4.size
              refine ⟨h1.alloc (by omega) o, hi4.below ((Below.refl _ w4).alloc (Nat.le_refl _) o), fun i s h => ?_⟩
              obtain ⟨hij, hMi⟩ := Sp.put_less h
              have h3 := (unhide HI).2.2 i s hMi
              refine ⟨h3.1, ?_⟩
              rcases hl4 with ⟨a, -⟩ | ⟨-, j2, hj2, -, -, hmin⟩
              · cases a
              · have := hmin i s hMi
                rw [Sp.ahead_no] at this
                omega
            have hs4 := hb4.size
            have hgn : gk = n := by have := unhide HN; omega
            have hs5 : ∀ o, b + 1 ≤ (w4.alloc o).heap.size := fun o => by
              have := ((Below.refl w4.heap.size w4).alloc (Nat.le_refl _) o).size
              omega
            obtain ⟨g', rfl⟩ : ∃ g', gk = g' + 1 := ⟨gk - 1, by omega⟩
            have HCN := hide hcnt
            have HS5 := hide hs5
            have hltb : ¬ (j : Int) ≤ l := by omega
            clear hgn
            clear hb4 hi4 hl4 HI HL HT hcnt hs5 hM
            go_wp2
            go_roundg g'
            case rel => exact ⟨_, _, by have := unhide HN; have := unhide HCN; omega, rfl, unhide HS5 _, hide (unhide HF _)⟩
            case measure => omega
          · exfalso
            have := unhide HN
            omega
set_option maxRecDepth 100000 in
set_option maxHeartbeats 8000000 in
theorem heapLeast_any (ns : List Int) (v : Value) (w : World) (hv : Ints w v ns) :
    Calls Try.prog 4 #[v] w fun e w' => e = .returned (.bool true) ∧ Below w.heap.size w w' := by
  obtain ⟨P, hP⟩ : ∃ P : Ending → World → Prop, P = fun e w' => e = .returned (.bool true) ∧ Below w.heap.size w w' := ⟨_, rfl⟩
  rw [← hP]
  have HP := hide hP
  clear hP
  obtain ⟨a, c, rfl, hcl, hcm, HC⟩ := hv.allH
  clear hv
  go_enter Try.func4, Try.ntmps4
  go_wp2_with fail
  go_at_call 6
  refine (known5_any w).mono ?_
  rintro e w1 ⟨rfl, hb1⟩
  have HB1 := hide hb1
  clear hb1
  go_wp2_with fail
  go_at_call 7
  refine (hnew2_any w1).mono ?_
  rintro e w2 ⟨rfl, hb2, hi2, hs2⟩
  obtain ⟨b, hb⟩ : ∃ b, w1.heap.size = b := ⟨_, rfl⟩
  rw [hb] at hb2 hi2 hs2 ⊢
  have hwb : w.heap.size ≤ b := by rw [← hb]; exact (unhide HB1).size
  have H2 : Hid (Below w.heap.size w w2 ∧ HpIs w2 b (fun _ => none)) := hide ⟨(unhide HB1).trans (hb2.mono hwb), hi2⟩
  replace hs2 : b + 1 ≤ w2.heap.size := by omega
  clear hb2 hi2 hb HB1
  go_wp2
  go_loopg [4] (min ns.length 60) (fun g s4 wr => ∃ (i : Nat) (M : Nat → Option Int), i + g = min ns.length 60 ∧ s4 = .int .i64 (i : Int) ∧ b + 1 ≤ wr.heap.size ∧ Hid (Below w.heap.size w wr ∧ HpIs wr b M))
  case atStart => exact ⟨0, _, by omega, rfl, hs2, H2⟩
  case round =>
    clear H2 hs2
    obtain ⟨i, M, hig, rfl, hsr, HI⟩ := hrel
    by_cases hi : i < ns.length
    · have hiI : (i : Int) < (ns.length : Int) := by omega
      by_cases hi2 : i < 60
      · have hi2I : (i : Int) < 60 := by omega
        obtain ⟨g', rfl⟩ : ∃ g', gk = g' + 1 := ⟨gk - 1, by omega⟩
        obtain ⟨ba, o, rfl, -, hcx⟩ := unhide HC i hi
        have c1 := hcx _ (unhide HI).1
        clear hcx
        have HV := hide (within5_any (ns.getD i 0) 1073741824 wr (by omega) (by omega))
        generalize ns.getD i 0 = x at *
        generalize x % 1073741824 = y at *
        go_wp2_with fail
        go_at_call 9
        refine (unhide HV).mono ?_
        rintro e w' ⟨rfl, hw'⟩
        have := hw'.symm
        subst this
        go_wp2_with fail
        go_at_call 8
        refine (hput_any M b _ _ wr (unhide HI).2).mono ?_
        rintro e w4 ⟨rfl, hb4, hi4⟩
        have HF := hide (And.intro (hb4.on (unhide HI).1 hwb (by omega)) hi4)
        have hs4 := hb4.size
        clear hb4 hi4 HI HV c1
        go_wp2
        go_roundg g'
        case rel => exact ⟨i + 1, _, by omega, rfl, by omega, HF⟩
        case measure => omega
      · have hi2I : ¬ (i : Int) < 60 := by omega
        have HL1 := hide (hlen_any M b wr (unhide HI).2)
        go_wp2_with fail
        go_at_call 10
        refine (unhide HL1).mono ?_
        rintro e w' ⟨rfl, hw'⟩
        have := hw'.symm
        subst this
        go_wp2_with fail
        go_at_call 12
        refine (hleast_any M b wr (unhide HI).2).mono ?_
        rintro e w4 ⟨k, r, is, rfl, hl4, hb4⟩
        have H4 : Hid (Below w.heap.size w (w4.alloc (.cells #[.int .i64 k, .int .i64 r] 30)) ∧ HpIs (w4.alloc (.cells #[.int .i64 k, .int .i64 r] 30)) b M ∧ (w4.alloc (.cells #[.int .i64 k, .int .i64 r] 30)).heap[w4.heap.size]? = some (.cells #[.int .i64 k, .int .i64 r] 30) ∧ (w4.alloc (.cells #[.int .i64 k, .int .i64 r] 30)).heap.size = w4.heap.size + 1) := hide ⟨((unhide HI).1.trans (hb4.mono (by omega))).alloc (by have := hb4.size; omega) _, ((unhide HI).2.below hb4).below ((Below.refl _ w4).alloc (Nat.le_refl _) _), by
          show (w4.heap.push _)[w4.heap.size]? = _
          rw [Array.getElem?_push, if_pos rfl], by show (w4.heap.push _).size = _; exact Array.size_push _⟩
        have hs4 := hb4.size
        have HLe := hide hl4
        obtain ⟨B1, hB1⟩ : ∃ B1, B1 = w4.heap.size := ⟨_, rfl⟩
        clear hb4 hl4 HI HL1
        go_wp2_with fail
        rw [← hB1] at H4 ⊢
        generalize w4.alloc (.cells #[.int .i64 k, .int .i64 r] 30) = W4 at *
        go_at_call 12
        refine (hleast_any M b W4 (unhide H4).2.1).mono ?_
        rintro e w5 ⟨k5, r5, is5, rfl, hl5, hb5⟩
        obtain ⟨rfl, rfl, rfl⟩ := hl5.uniq (unhide HLe)
        have hz4 := (unhide H4).2.2.2
        have H5 : Hid (Below w.heap.size w (w5.alloc (.cells #[.int .i64 k5, .int .i64 r5] 30)) ∧ HpIs (w5.alloc (.cells #[.int .i64 k5, .int .i64 r5] 30)) b M ∧ (w5.alloc (.cells #[.int .i64 k5, .int .i64 r5] 30)).heap[w5.heap.size]? = some (.cells #[.int .i64 k5, .int .i64 r5] 30) ∧ (w5.alloc (.cells #[.int .i64 k5, .int .i64 r5] 30)).heap[B1]? = some (.cells #[.int .i64 k5, .int .i64 r5] 30) ∧ (w5.alloc (.cells #[.int .i64 k5, .int .i64 r5] 30)).heap.size = w5.heap.size + 1 ∧ B1 < w5.heap.size ∧ b < B1) := hide ⟨((unhide H4).1.trans (hb5.mono (by omega))).alloc (by have := hb5.size; omega) _, ((unhide H4).2.1.below hb5).below ((Below.refl _ w5).alloc (Nat.le_refl _) _), by
          show (w5.heap.push _)[w5.heap.size]? = _
          rw [Array.getElem?_push, if_pos rfl], by
          have := hb5.size
          rw [Below.heap_alloc _ _ _ (by omega), hb5.block _ (by omega)]; exact (unhide H4).2.2.1, by show (w5.heap.push _).size = _; exact Array.size_push _, by have := hb5.size; omega, by omega⟩
        obtain ⟨B2, hB2⟩ : ∃ B2, B2 = w5.heap.size := ⟨_, rfl⟩
        clear hb5 hl5 H4 hz4 hs4 hB1
        go_wp2_with fail
        rw [← hB2] at H5 ⊢
        generalize w5.alloc (.cells #[.int .i64 k5, .int .i64 r5] 30) = W5 at *
        go_at_call 11
        refine (htake_any M b W5 (unhide H5).2.1).mono ?_
        rintro e w6 ⟨k6, r6, is6, rfl, hl6, hb6, hi6⟩
        obtain ⟨rfl, rfl, rfl⟩ := hl6.uniq (unhide HLe)
        have hz5 := (unhide H5).2.2.2.2
        have hg6 := hb6.size
        have hx1 := (hb6.block B2 (by omega) (by omega)).trans (unhide H5).2.2.1
        have hx2 := (hb6.block B1 (by omega) (by omega)).trans (unhide H5).2.2.2.1
        have H6 : Hid (∀ o, Below w.heap.size w (w6.alloc o) ∧ HpIs (w6.alloc o) b (Sp.put M k6.toNat none)) := hide fun o => ⟨(hb6.on (unhide H5).1 hwb (by omega)).alloc (by omega) o, hi6.below ((Below.refl _ w6).alloc (Nat.le_refl _) o)⟩
        have HL6 := hide (fun o => hlen_any _ b (w6.alloc o) (unhide H6 o).2)
        have y := fun o => item_at (w := w6.alloc o) (B := B2) ((Below.heap_alloc _ _ _ (by omega)).trans hx1)
        have x := fun o => item_at (w := w6.alloc o) (B := B1) ((Below.heap_alloc _ _ _ (by omega)).trans hx2)
        have y0 := fun o => (y o).1
        have y1 := fun o => (y o).2.1
        have x0 := fun o => (x o).1
        have x1 := fun o => (x o).2.1
        clear hb6 hi6 hl6 H5 hz5 hx1 hx2 hg6 x y hB2
        have hcl := Sp.cnt_le M
        rcases (unhide HLe).pos with ⟨rfl, j, rfl, -, hcnt⟩ | ⟨rfl, rfl, rfl, hz, he⟩
        · generalize Sp.cnt M = n at *
          generalize Sp.cnt (Sp.put M ((j : Int)).toNat none) = m at *
          obtain rfl : n = m + 1 := hcnt.symm
          clear HLe
          go_wp2_with fail
          go_at_call 10
          refine (unhide HL6 _).mono ?_
          rintro e w' ⟨rfl, hw'⟩
          have := hw'.symm
          subst this
          go_wp2
          rw [unhide HP]
          exact ⟨rfl, (unhide H6 _).1⟩
        · rw [he, hz] at HL6
          rw [hz]
          clear HLe
          go_wp2_with fail
          go_at_call 10
          refine (unhide HL6 _).mono ?_
          rintro e w' ⟨rfl, hw'⟩
          have := hw'.symm
          subst this
          go_wp2
          rw [unhide HP]
          exact ⟨rfl, (unhide H6 _).1⟩
    · have hiI : ¬ (i : Int) < (ns.length : Int) := by omega
      have HL1 := hide (hlen_any M b wr (unhide HI).2)
      go_wp2_with fail
      go_at_call 10
      refine (unhide HL1).mono ?_
      rintro e w' ⟨rfl, hw'⟩
      have := hw'.symm
      subst this
      go_wp2_with fail
      go_at_call 12
      refine (hleast_any M b wr (unhide HI).2).mono ?_
      rintro e w4 ⟨k, r, is, rfl, hl4, hb4⟩
      have H4 : Hid (Below w.heap.size w (w4.alloc (.cells #[.int .i64 k, .int .i64 r] 30)) ∧ HpIs (w4.alloc (.cells #[.int .i64 k, .int .i64 r] 30)) b M ∧ (w4.alloc (.cells #[.int .i64 k, .int .i64 r] 30)).heap[w4.heap.size]? = some (.cells #[.int .i64 k, .int .i64 r] 30) ∧ (w4.alloc (.cells #[.int .i64 k, .int .i64 r] 30)).heap.size = w4.heap.size + 1) := hide ⟨((unhide HI).1.trans (hb4.mono (by omega))).alloc (by have := hb4.size; omega) _, ((unhide HI).2.below hb4).below ((Below.refl _ w4).alloc (Nat.le_refl _) _), by
        show (w4.heap.push _)[w4.heap.size]? = _
        rw [Array.getElem?_push, if_pos rfl], by show (w4.heap.push _).size = _; exact Array.size_push _⟩
      have hs4 := hb4.size
      have HLe := hide hl4
      obtain ⟨B1, hB1⟩ : ∃ B1, B1 = w4.heap.size := ⟨_, rfl⟩
      clear hb4 hl4 HI HL1
      go_wp2_with fail
      rw [← hB1] at H4 ⊢
      generalize w4.alloc (.cells #[.int .i64 k, .int .i64 r] 30) = W4 at *
      go_at_call 12
      refine (hleast_any M b W4 (unhide H4).2.1).mono ?_
      rintro e w5 ⟨k5, r5, is5, rfl, hl5, hb5⟩
      obtain ⟨rfl, rfl, rfl⟩ := hl5.uniq (unhide HLe)
      have hz4 := (unhide H4).2.2.2
      have H5 : Hid (Below w.heap.size w (w5.alloc (.cells #[.int .i64 k5, .int .i64 r5] 30)) ∧ HpIs (w5.alloc (.cells #[.int .i64 k5, .int .i64 r5] 30)) b M ∧ (w5.alloc (.cells #[.int .i64 k5, .int .i64 r5] 30)).heap[w5.heap.size]? = some (.cells #[.int .i64 k5, .int .i64 r5] 30) ∧ (w5.alloc (.cells #[.int .i64 k5, .int .i64 r5] 30)).heap[B1]? = some (.cells #[.int .i64 k5, .int .i64 r5] 30) ∧ (w5.alloc (.cells #[.int .i64 k5, .int .i64 r5] 30)).heap.size = w5.heap.size + 1 ∧ B1 < w5.heap.size ∧ b < B1) := hide ⟨((unhide H4).1.trans (hb5.mono (by omega))).alloc (by have := hb5.size; omega) _, ((unhide H4).2.1.below hb5).below ((Below.refl _ w5).alloc (Nat.le_refl _) _), by
        show (w5.heap.push _)[w5.heap.size]? = _
        rw [Array.getElem?_push, if_pos rfl], by
        have := hb5.size
        rw [Below.heap_alloc _ _ _ (by omega), hb5.block _ (by omega)]; exact (unhide H4).2.2.1, by show (w5.heap.push _).size = _; exact Array.size_push _, by have := hb5.size; omega, by omega⟩
      obtain ⟨B2, hB2⟩ : ∃ B2, B2 = w5.heap.size := ⟨_, rfl⟩
      clear hb5 hl5 H4 hz4 hs4 hB1
      go_wp2_with fail
      rw [← hB2] at H5 ⊢
      generalize w5.alloc (.cells #[.int .i64 k5, .int .i64 r5] 30) = W5 at *
      go_at_call 11
      refine (htake_any M b W5 (unhide H5).2.1).mono ?_
      rintro e w6 ⟨k6, r6, is6, rfl, hl6, hb6, hi6⟩
      obtain ⟨rfl, rfl, rfl⟩ := hl6.uniq (unhide HLe)
      have hz5 := (unhide H5).2.2.2.2
      have hg6 := hb6.size
      have hx1 := (hb6.block B2 (by omega) (by omega)).trans (unhide H5).2.2.1
      have hx2 := (hb6.block B1 (by omega) (by omega)).trans (unhide H5).2.2.2.1
      have H6 : Hid (∀ o, Below w.heap.size w (w6.alloc o) ∧ HpIs (w6.alloc o) b (Sp.put M k6.toNat none)) := hide fun o => ⟨(hb6.on (unhide H5).1 hwb (by omega)).alloc (by omega) o, hi6.below ((Below.refl _ w6).alloc (Nat.le_refl _) o)⟩
      have HL6 := hide (fun o => hlen_any _ b (w6.alloc o) (unhide H6 o).2)
      have y := fun o => item_at (w := w6.alloc o) (B := B2) ((Below.heap_alloc _ _ _ (by omega)).trans hx1)
      have x := fun o => item_at (w := w6.alloc o) (B := B1) ((Below.heap_alloc _ _ _ (by omega)).trans hx2)
      have y0 := fun o => (y o).1
      have y1 := fun o => (y o).2.1
      have x0 := fun o => (x o).1
      have x1 := fun o => (x o).2.1
      clear hb6 hi6 hl6 H5 hz5 hx1 hx2 hg6 x y hB2
      have hcl := Sp.cnt_le M
      rcases (unhide HLe).pos with ⟨rfl, j, rfl, -, hcnt⟩ | ⟨rfl, rfl, rfl, hz, he⟩
      · generalize Sp.cnt M = n at *
        generalize Sp.cnt (Sp.put M ((j : Int)).toNat none) = m at *
        obtain rfl : n = m + 1 := hcnt.symm
        clear HLe
        go_wp2_with fail
        go_at_call 10
        refine (unhide HL6 _).mono ?_
        rintro e w' ⟨rfl, hw'⟩
        have := hw'.symm
        subst this
        go_wp2
        rw [unhide HP]
        exact ⟨rfl, (unhide H6 _).1⟩
      · rw [he, hz] at HL6
        rw [hz]
        clear HLe
        go_wp2_with fail
        go_at_call 10
        refine (unhide HL6 _).mono ?_
        rintro e w' ⟨rfl, hw'⟩
        have := hw'.symm
        subst this
        go_wp2
        rw [unhide HP]
        exact ⟨rfl, (unhide H6 _).1⟩
end Go.Proofs.Ytfcknfodejnhnab


