/- The walk of the reference's number at a word that opens with a sign. -/
import Derived.Test.YtkmcfjkfoafkoaaDoorR3
namespace Go.Proofs.YtkmcfjkfoafkoaaDoor
open Go Go.RowKit

set_option maxRecDepth 100000 in
set_option maxHeartbeats 2000000 in
theorem rnumber_neg (s : ByteArray) (w : World) (hs : s.size ≤ 4294967280) (hneg : ∃ h : 0 < s.size, (s[0].toNat : Int) = 45) :
    Calls Tryd.prog 44 #[.string s] w fun e w' => ∃ x, e = .returned (.tuple #[.int .i64 x, .bool (rnum s.data.toList).isSome]) ∧ (∀ y, rnum s.data.toList = some y → x = y) ∧ w' = w := by
  obtain ⟨hp0, hm0⟩ := hneg
  obtain ⟨d, hd⟩ : ∃ d, s.extract 1 s.size = d := ⟨_, rfl⟩
  have hdl : d.data.toList = s.data.toList.drop 1 := by rw [← hd]; exact Lib.extract_to_end s 1
  have hpre : Lib.hasPrefix s.data.toList [45] = true := by
    have hp1 : 0 < s.data.toList.length := by rw [← Lib.size_eq]; exact hp0
    obtain ⟨c, r, hc⟩ : ∃ c r, s.data.toList = c :: r := List.exists_cons_of_length_pos hp1
    have : s[0] = c := by
      have h1 : s.data.toList[0]? = some c := by rw [hc]; rfl
      have h2 : s.data.toList[0]? = some s[0] := by rw [List.getElem?_eq_getElem hp1]; rfl
      rw [h1] at h2; injection h2 with h2; exact h2.symm
    have hc45 : c = 45 := UInt8.toNat_inj.1 (by rw [← this]; show s[0].toNat = 45; omega)
    rw [hc, hc45]; simp [Lib.hasPrefix, List.isPrefixOf]
  have htp : d.data.toList = Lib.trimPrefix s.data.toList [45] := by rw [hdl]; unfold Lib.trimPrefix; rw [hpre]; rfl
  have hdz : d.size + 1 = s.size := by
    have h1 := Lib.size_eq d
    have h2 := Lib.size_eq s
    rw [hdl, List.length_drop] at h1
    omega
  have hlt1 : (d.size : Int) < s.size := by omega
  have hsz2 : s.size - 1 = d.size := by omega
  have Hpre := hide hpre; clear hpre
  have Htp := hide htp; clear htp
  clear hdl
  have hsne : s.toList.isEmpty = false := by
    rw [Lib.toList_data, List.isEmpty_eq_false_iff]
    intro e
    have h := Lib.size_eq s
    rw [e] at h
    have h' : s.size = 0 := h
    omega
  by_cases h1 : d.data.toList = []
  · have h1' : d.toList.isEmpty = true := by rw [Lib.toList_data, h1]; rfl
    have Hf := hide (rnum_no (num_empty (unhide Htp) h1)); clear h1
    generalize rnum s.data.toList = R at *
    go_enter Tryd.func44, Tryd.ntmps44
    go_wp2
    go_ret2
    exact ⟨0, by rw [unhide Hf]; rfl, fun y hy => (by rw [unhide Hf] at hy; cases hy), rfl⟩
  · have h1' : d.toList.isEmpty = false := by rw [Lib.toList_data]; simpa using h1
    have hp : 0 < d.size := by rw [Lib.size_eq]; exact List.length_pos_iff.2 h1
    have hh : d.data.toList.head? = some d[0] := by
      rw [List.head?_eq_getElem?, List.getElem?_eq_getElem (by rw [← Lib.size_eq]; exact hp)]; rfl
    have Hh := hide hh; clear hh
    have H1 := hide h1; clear h1
    by_cases h2 : (d[0].toNat : Int) = 48 ∧ 1 < s.size
    · obtain ⟨h2, h3⟩ := h2
      have h3' : (1 : Int) < s.size := by omega
      have Hf := hide (rnum_no (num_lead (unhide Htp) (unhide H1) ((unhide Hh).trans (congrArg some (UInt8.toNat_inj.1 (by show d[0].toNat = 48; omega)))) (by intro e; rw [Lib.size_eq, e] at h3; simp at h3)))
      generalize rnum s.data.toList = R at *
      go_enter Tryd.func44, Tryd.ntmps44
      go_wp2
      go_ret2
      exact ⟨0, by rw [unhide Hf]; rfl, fun y hy => (by rw [unhide Hf] at hy; cases hy), rfl⟩
    · have H2 : Hid (¬ (d.data.toList.head? = some 48 ∧ s.data.toList ≠ [48])) := by
        refine hide ?_
        rw [unhide Hh]
        rintro ⟨ha, hb⟩
        injection ha with ha
        refine h2 ⟨by rw [ha]; rfl, ?_⟩
        refine Nat.lt_of_not_le fun hle => hb ?_
        have hl : s.data.toList.length = 1 := by rw [← Lib.size_eq]; omega
        obtain ⟨c, hc⟩ := List.length_eq_one_iff.1 hl
        have hdd := unhide Htp
        have hh2 := unhide Hh
        rw [hdd, hc] at hh2
        rw [ha] at hh2
        by_cases hcc : c = 45
        · subst hcc; simp [Lib.trimPrefix, Lib.hasPrefix, List.isPrefixOf] at hh2
        · have : Lib.trimPrefix [c] [45] = [c] := by unfold Lib.trimPrefix Lib.hasPrefix; simp [List.isPrefixOf]; intro e; exact absurd e.symm hcc
          rw [this] at hh2
          simp at hh2
          rw [hc, hh2]
      have HN := hide (rnum_of (unhide Htp) (unhide Hpre) (unhide H1) (unhide H2))
      generalize rnum s.data.toList = R at *
      have h2' : ¬ (d[0].toNat : Int) = 48 ∨ ((d[0].toNat : Int) = 48 ∧ ¬ (1 : Int) < s.size) := by omega
      clear h2
      have h2 : ¬ (d[0].toNat : Int) = 48 := by
        rcases h2' with h2 | ⟨h2, h3⟩
        · exact h2
        · omega
      clear h2'
      all_goals
        go_enter Tryd.func44, Tryd.ntmps44
        go_wp2
        go_loop [5, 6] (fun x i => ∃ (k : Nat) (n : Int), k ≤ d.size ∧ i = .int .i64 k ∧ x = .int .i64 n ∧ 0 ≤ n ∧ n ≤ 10000000000000000 ∧ Hid ((d.data.toList.take k).foldl rstep (some 0) = some n)) (fun _ i => d.size - (intOf i).toNat)
        case atStart => exact ⟨0, 0, Nat.zero_le _, rfl, rfl, by omega, by omega, hide rfl⟩
        case round =>
          obtain ⟨k, n, hk, rfl, rfl, hn0, hn1, hf⟩ := hrel
          by_cases hlt : k < d.size
          · have HR := hide (rfold_snoc d k hlt)
            by_cases hg : 1000000000000000 ≤ n
            · have Hf : Hid (R = none) := hide ((unhide HN).1 (rfold_stop (k := k + 1) (by rw [unhide HR, unhide hf]; simp [rstep, hg])))
              go_wp2
              all_goals
                go_ret2
                exact ⟨0, by rw [unhide Hf]; rfl, fun y hy => (by rw [unhide Hf] at hy; cases hy), rfl⟩
            · go_wp2
              all_goals first
                | (go_round
                   case rel =>
                     have hdig : Sp.isDig d[k] = true := by simp only [Sp.isDig, Bool.and_eq_true, decide_eq_true_eq]; omega
                     have hb : (d[k].toNat : Int) ≤ 57 := by omega
                     have hb0 : 48 ≤ (d[k].toNat : Int) := by omega
                     exact ⟨k + 1, _, by omega, by go_num, rfl, by omega, by omega, hide (by rw [unhide HR, unhide hf]; simp only [rstep, Option.bind_some]; rw [if_neg (by simp [hdig]; omega)])⟩
                   case measure => simp [intOf]; omega)
                | (go_ret2
                   have hdig : Sp.isDig d[k] = false := by
                     rw [Bool.eq_false_iff]; intro hx; simp only [Sp.isDig, Bool.and_eq_true, decide_eq_true_eq] at hx; omega
                   have Hf : R = none := (unhide HN).1 (rfold_stop (k := k + 1) (by rw [unhide HR, unhide hf]; simp [rstep, hdig]))
                   exact ⟨0, by rw [Hf]; rfl, fun y hy => (by rw [Hf] at hy; cases hy), rfl⟩)
          · obtain rfl : k = d.size := by omega
            have hts : d.data.toList.take d.size = d.data.toList := List.take_of_length_le (by rw [Lib.size_eq]; exact Nat.le_refl _)
            rw [hts] at hf
            have hE := ((unhide HN).2 n (unhide hf)).2
            clear hts hf HN
            by_cases hg : n < 1000000000000000
            · rw [if_pos hg] at hE
              have HE : Hid (R = some (-n)) := hide hE
              clear hE
              have hgn : (-1000000000000000 : Int) < n := by omega
              go_wp2
              go_ret2
              exact ⟨-n, by rw [unhide HE]; rfl, fun y hy => (by rw [unhide HE] at hy; injection hy), rfl⟩
            · rw [if_neg hg] at hE
              have HE := hide hE
              clear hE
              have hgn : (-1000000000000000 : Int) < n := by omega
              go_wp2
              go_ret2
              exact ⟨-n, by rw [unhide HE]; rfl, fun y hy => (by rw [unhide HE] at hy; cases hy), rfl⟩
theorem rnumber_any (s : ByteArray) (w : World) (hs : s.size ≤ 4294967280) :
    Calls Tryd.prog 44 #[.string s] w fun e w' => ∃ x, e = .returned (.tuple #[.int .i64 x, .bool (rnum s.data.toList).isSome]) ∧ (∀ y, rnum s.data.toList = some y → x = y) ∧ w' = w := by
  by_cases h : ∃ h : 0 < s.size, (s[0].toNat : Int) = 45
  · exact rnumber_neg s w hs h
  · exact rnumber_pos s w hs fun hp e => h ⟨hp, e⟩
end Go.Proofs.YtkmcfjkfoafkoaaDoor
