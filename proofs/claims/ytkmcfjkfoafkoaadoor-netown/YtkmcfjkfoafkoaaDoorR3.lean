/- The walks of the reference's number. -/
import Derived.Test.YtkmcfjkfoafkoaaDoorR2
namespace Go.Proofs.YtkmcfjkfoafkoaaDoor
open Go Go.RowKit

set_option maxRecDepth 100000 in
set_option maxHeartbeats 2000000 in
theorem rnumber_pos (s : ByteArray) (w : World) (hs : s.size ≤ 4294967280) (hneg : ∀ h : 0 < s.size, ¬ (s[0].toNat : Int) = 45) :
    Calls Tryd.prog 44 #[.string s] w fun e w' => ∃ x, e = .returned (.tuple #[.int .i64 x, .bool (rnum s.data.toList).isSome]) ∧ (∀ y, rnum s.data.toList = some y → x = y) ∧ w' = w := by
  have hpre : Lib.hasPrefix s.data.toList [45] = false := by
    cases hs0 : s.data.toList with
    | nil => rfl
    | cons c r =>
      have hp : 0 < s.size := by rw [Lib.size_eq, hs0]; simp
      have h2 : s.data.toList[0]? = some s[0] := by rw [List.getElem?_eq_getElem (by rw [hs0]; simp)]; rfl
      rw [hs0] at h2
      have h3 : c = s[0] := by simpa using h2
      have h4 := hneg hp
      have : c ≠ 45 := by intro e; rw [← h3, e] at h4; exact h4 rfl
      simp [Lib.hasPrefix, List.isPrefixOf]; exact fun e => this e.symm
  have htp : s.data.toList = Lib.trimPrefix s.data.toList [45] := by unfold Lib.trimPrefix; rw [hpre]; rfl
  have hlt1 : ¬ (s.size : Int) < s.size := by omega
  have Hpre := hide hpre; clear hpre
  have Htp := hide htp; clear htp
  by_cases h1 : s.data.toList = []
  · have h1' : s.toList.isEmpty = true := by rw [Lib.toList_data, h1]; rfl
    have Hf := hide (rnum_no (num_empty (unhide Htp) h1)); clear h1
    clear hneg
    generalize rnum s.data.toList = R at *
    go_enter Tryd.func44, Tryd.ntmps44
    go_wp2
    go_ret2
    exact ⟨0, by rw [unhide Hf]; rfl, fun y hy => (by rw [unhide Hf] at hy; cases hy), rfl⟩
  · have h1' : s.toList.isEmpty = false := by rw [Lib.toList_data]; simpa using h1
    have hp : 0 < s.size := by rw [Lib.size_eq]; exact List.length_pos_iff.2 h1
    have hsne : s.toList.isEmpty = false := by
      rw [Lib.toList_data, List.isEmpty_eq_false_iff]
      intro e
      have h := Lib.size_eq s
      rw [e] at h
      have h' : s.size = 0 := h
      omega
    have hn0 := hneg hp
    clear hneg
    have hh : s.data.toList.head? = some s[0] := by
      rw [List.head?_eq_getElem?, List.getElem?_eq_getElem (by rw [← Lib.size_eq]; exact hp)]; rfl
    have Hh := hide hh; clear hh
    have H1 := hide h1; clear h1
    by_cases h2 : (s[0].toNat : Int) = 48 ∧ 1 < s.size
    · obtain ⟨h2, h3⟩ := h2
      have h3' : (1 : Int) < s.size := by omega
      have Hf := hide (rnum_no (num_lead (unhide Htp) (unhide H1) ((unhide Hh).trans (congrArg some (UInt8.toNat_inj.1 (by show s[0].toNat = 48; omega)))) (by intro e; rw [Lib.size_eq, e] at h3; simp at h3)))
      generalize rnum s.data.toList = R at *
      go_enter Tryd.func44, Tryd.ntmps44
      go_wp2
      go_ret2
      exact ⟨0, by rw [unhide Hf]; rfl, fun y hy => (by rw [unhide Hf] at hy; cases hy), rfl⟩
    · have H2 : Hid (¬ (s.data.toList.head? = some 48 ∧ s.data.toList ≠ [48])) := by
        refine hide ?_
        rw [unhide Hh]
        rintro ⟨ha, hb⟩
        injection ha with ha
        refine h2 ⟨by rw [ha]; rfl, ?_⟩
        refine Nat.lt_of_not_le fun hle => hb ?_
        have hl : s.data.toList.length = 1 := by rw [← Lib.size_eq]; omega
        obtain ⟨c, hc⟩ := List.length_eq_one_iff.1 hl
        have hdd := unhide Htp
        have hh2 := unhide Hh
        rw [hdd, hc] at hh2
        rw [ha] at hh2
        by_cases hcc : c = 45
        · subst hcc; simp [Lib.trimPrefix, Lib.hasPrefix, List.isPrefixOf] at hh2
        · have : Lib.trimPrefix [c] [45] = [c] := by unfold Lib.trimPrefix Lib.hasPrefix; simp [List.isPrefixOf]; intro e; exact absurd e.symm hcc
          rw [this] at hh2
          simp at hh2
          rw [hc, hh2]
      have HN := hide (rnum_of (unhide Htp) (unhide Hpre) (unhide H1) (unhide H2))
      generalize rnum s.data.toList = R at *
      have h2' : ¬ (s[0].toNat : Int) = 48 ∨ ((s[0].toNat : Int) = 48 ∧ ¬ (1 : Int) < s.size) := by omega
      clear h2
      rcases h2' with h2 | ⟨h2, h3⟩
      all_goals
        go_enter Tryd.func44, Tryd.ntmps44
        go_wp2
        go_loop [5, 6] (fun x i => ∃ (k : Nat) (n : Int), k ≤ s.size ∧ i = .int .i64 k ∧ x = .int .i64 n ∧ 0 ≤ n ∧ n ≤ 10000000000000000 ∧ Hid ((s.data.toList.take k).foldl rstep (some 0) = some n)) (fun _ i => s.size - (intOf i).toNat)
        case atStart => exact ⟨0, 0, Nat.zero_le _, rfl, rfl, by omega, by omega, hide rfl⟩
        case round =>
          obtain ⟨k, n, hk, rfl, rfl, hn0, hn1, hf⟩ := hrel
          by_cases hlt : k < s.size
          · have HR := hide (rfold_snoc s k hlt)
            by_cases hg : 1000000000000000 ≤ n
            · have Hf : Hid (R = none) := hide ((unhide HN).1 (rfold_stop (k := k + 1) (by rw [unhide HR, unhide hf]; simp [rstep, hg])))
              go_wp2
              all_goals
                go_ret2
                exact ⟨0, by rw [unhide Hf]; rfl, fun y hy => (by rw [unhide Hf] at hy; cases hy), rfl⟩
            · go_wp2
              all_goals first
                | (go_round
                   case rel =>
                     have hdig : Sp.isDig s[k] = true := by simp only [Sp.isDig, Bool.and_eq_true, decide_eq_true_eq]; omega
                     have hb : (s[k].toNat : Int) ≤ 57 := by omega
                     have hb0 : 48 ≤ (s[k].toNat : Int) := by omega
                     exact ⟨k + 1, _, by omega, by go_num, rfl, by omega, by omega, hide (by rw [unhide HR, unhide hf]; simp only [rstep, Option.bind_some]; rw [if_neg (by simp [hdig]; omega)])⟩
                   case measure => simp [intOf]; omega)
                | (go_ret2
                   have hdig : Sp.isDig s[k] = false := by
                     rw [Bool.eq_false_iff]; intro hx; simp only [Sp.isDig, Bool.and_eq_true, decide_eq_true_eq] at hx; omega
                   have Hf : R = none := (unhide HN).1 (rfold_stop (k := k + 1) (by rw [unhide HR, unhide hf]; simp [rstep, hdig]))
                   exact ⟨0, by rw [Hf]; rfl, fun y hy => (by rw [Hf] at hy; cases hy), rfl⟩)
          · obtain rfl : k = s.size := by omega
            have hts : s.data.toList.take s.size = s.data.toList := List.take_of_length_le (by rw [Lib.size_eq]; exact Nat.le_refl _)
            rw [hts] at hf
            have hE := ((unhide HN).2 n (unhide hf)).2
            clear hts hf HN
            by_cases hg : n < 1000000000000000
            · rw [if_pos hg] at hE
              have HE : Hid (R = some (n)) := hide hE
              clear hE
              have hgn : (-1000000000000000 : Int) < n := by omega
              go_wp2
              go_ret2
              exact ⟨n, by rw [unhide HE]; rfl, fun y hy => (by rw [unhide HE] at hy; injection hy), rfl⟩
            · rw [if_neg hg] at hE
              have HE := hide hE
              clear hE
              have hgn : (-1000000000000000 : Int) < n := by omega
              go_wp2
              go_ret2
              exact ⟨n, by rw [unhide HE]; rfl, fun y hy => (by rw [unhide HE] at hy; cases hy), rfl⟩
end Go.Proofs.YtkmcfjkfoafkoaaDoor
