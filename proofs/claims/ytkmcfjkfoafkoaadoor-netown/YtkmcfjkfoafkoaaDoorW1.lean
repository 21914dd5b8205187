/- The walks of net.number and its kin. -/
import Derived.Test.YtkmcfjkfoafkoaaDoorBase
namespace Go.Proofs.YtkmcfjkfoafkoaaDoor
open Go.RowKit

theorem tmod_cases (a n : Int) (hn : 0 < n) : (a.tmod n < 0 ∧ a.tmod n + n = a % n) ∨ (0 ≤ a.tmod n ∧ a.tmod n = a % n) := by
  have h0 : 0 ≤ a % n := Int.emod_nonneg a (by omega)
  have h1 : a % n < n := Int.emod_lt_of_pos a hn
  have e := Int.tmod_eq_emod (a := a) (b := n)
  split at e
  · right; omega
  · left
    have : ((n.natAbs : Nat) : Int) = n := by omega
    omega
theorem ret_int {k : IntKind} {a b : Int} (h : a = b) : Ending.returned (.int k a) = .returned (.int k b) := by rw [h]
set_option maxHeartbeats 400000 in
theorem within_any (a n : Int) (w : World) (hn : 0 < n) (hn1 : n ≤ 4611686018427387904) :
    Calls Tryd.prog 7 #[.int .i64 a, .int .i64 n] w fun e w' => e = .returned (.int .i64 (a % n)) ∧ w' = w := by
  have h0 : 0 ≤ a % n := Int.emod_nonneg a (by omega)
  have h1 : a % n < n := Int.emod_lt_of_pos a hn
  rcases tmod_cases a n hn with ⟨ha, hb⟩ | ⟨ha, hb⟩
  · have hc : -n ≤ a.tmod n := by omega
    have Hb := hide hb; clear hb h0 h1
    go_enter Tryd.func7, Tryd.ntmps7
    go_wp2
    go_ret
    exact ⟨ret_int (unhide Hb), rfl⟩
  · have Hb := hide hb; clear hb h0 h1
    go_enter Tryd.func7, Tryd.ntmps7
    go_wp2
    go_ret
    exact ⟨ret_int (unhide Hb), rfl⟩

theorem num_empty {l d : List UInt8} (hd : d = Lib.trimPrefix l [45]) (h : d = []) : Sp.number l = none := by
  unfold Sp.number; rw [← hd, if_pos h]
theorem num_lead {l d : List UInt8} (hd : d = Lib.trimPrefix l [45]) (h0 : d ≠ []) (h : d.head? = some 48) (h1 : l ≠ [48]) : Sp.number l = none := by
  unfold Sp.number; rw [← hd, if_neg h0, if_pos ⟨h, h1⟩]
theorem num_bad {l d : List UInt8} (hd : d = Lib.trimPrefix l [45]) (h0 : d ≠ []) (h : ¬ (d.head? = some 48 ∧ l ≠ [48])) (h1 : d.all Sp.isDig = false) : Sp.number l = none := by
  unfold Sp.number; rw [← hd, if_neg h0, if_neg h, if_neg (by simp [h1])]
theorem num_good {l d : List UInt8} {neg : Bool} (hd : d = Lib.trimPrefix l [45]) (hn : Lib.hasPrefix l [45] = neg) (h0 : d ≠ []) (h : ¬ (d.head? = some 48 ∧ l ≠ [48])) (h1 : d.all Sp.isDig = true) : Sp.number l = some (if neg then - Sp.readTo d else Sp.readTo d) := by
  unfold Sp.number; rw [← hd, if_neg h0, if_neg h, if_pos h1, hn]
theorem all_snoc (s : ByteArray) (k : Nat) (h : k < s.size) : (s.data.toList.take (k + 1)).all Sp.isDig = ((s.data.toList.take k).all Sp.isDig && Sp.isDig s[k]) := by
  rw [take_snoc s k h]; simp
theorem read_snoc (s : ByteArray) (k : Nat) (h : k < s.size) : Sp.readTo (s.data.toList.take (k + 1)) = Sp.step (Sp.readTo (s.data.toList.take k)) s[k] := by
  rw [take_snoc s k h]; simp [Sp.readTo]
theorem not_all (s : ByteArray) (k : Nat) (h : k < s.size) (hb : Sp.isDig s[k] = false) : s.data.toList.all Sp.isDig = false := by
  rw [List.all_eq_false]
  exact ⟨s[k], by simp [ByteArray.getElem_eq_getElem_data], by simp [hb]⟩
theorem tuple_nb {a b : Int} {c d : Bool} (h : a = b) (h' : c = d) : Ending.returned (.tuple #[.int .i64 a, .bool c]) = .returned (.tuple #[.int .i64 b, .bool d]) := by rw [h, h']

set_option maxHeartbeats 800000 in
theorem number_any (s : ByteArray) (w : World) (hs : s.size ≤ 4294967280) :
    Calls Tryd.prog 43 #[.string s] w fun e w' => e = .returned (.tuple #[.int .i64 ((Sp.number s.data.toList).getD 0), .bool (Sp.number s.data.toList).isSome]) ∧ w' = w := by
  obtain ⟨d, hd, hcp⟩ : ∃ d : ByteArray, d.data.toList = Lib.trimPrefix s.data.toList [45] ∧ Calls Tryd.prog 53 #[.string s, .string ⟨#[45]⟩] w fun e w' => e = .returned (.tuple #[.string d, .bool (Lib.hasPrefix s.data.toList [45])]) ∧ w' = w :=
    ⟨⟨(Lib.trimPrefix s.data.toList [45]).toArray⟩, by simp, Tryd.strings_CutPrefix s ⟨#[45]⟩ w⟩
  have hds : d.size ≤ 4294967280 := by
    have e1 : d.size = d.data.toList.length := Lib.size_eq d
    have e2 : s.size = s.data.toList.length := Lib.size_eq s
    rw [e1, hd]; unfold Lib.trimPrefix; split
    · simp; omega
    · omega
  have Hd := hide hd; clear hd
  have Hc := hide hcp; clear hcp
  generalize hneg : Lib.hasPrefix s.data.toList [45] = neg at *
  have Hn := hide hneg; clear hneg
  by_cases h1 : d.data.toList = []
  · have h1' : d.toList.isEmpty = true := by rw [Lib.toList_data, h1]; rfl
    have Hf := hide (num_empty (unhide Hd) h1); clear h1
    go_enter Tryd.func43, Tryd.ntmps43
    go_wp2_with fail
    refine (unhide Hc).mono ?_
    rintro e w' ⟨rfl, rfl⟩
    go_wp2
    go_ret2
    exact ⟨tuple_nb (by rw [unhide Hf]; rfl) (by rw [unhide Hf]; rfl), rfl⟩
  · have h1' : d.toList.isEmpty = false := by rw [Lib.toList_data]; simpa using h1
    have hp : 0 < d.size := by rw [Lib.size_eq]; exact List.length_pos_iff.2 h1
    have hh : d.data.toList.head? = some d[0] := by
      rw [List.head?_eq_getElem?, List.getElem?_eq_getElem (by rw [← Lib.size_eq]; exact hp)]; rfl
    have Hh := hide hh; clear hh
    have H1 := hide h1; clear h1
    by_cases h2 : (d[0].toNat : Int) = 48 ∧ s.data.toList ≠ [48]
    · obtain ⟨h2, h3⟩ := h2
      have h3' : (s.toList == [48]) = false := by rw [Lib.toList_data]; simpa using h3
      have Hf := hide (num_lead (unhide Hd) (unhide H1) ((unhide Hh).trans (congrArg some (UInt8.toNat_inj.1 (by show d[0].toNat = 48; omega)))) h3); clear h3
      go_enter Tryd.func43, Tryd.ntmps43
      go_wp2_with fail
      refine (unhide Hc).mono ?_
      rintro e w' ⟨rfl, rfl⟩
      go_wp2
      go_ret2
      exact ⟨tuple_nb (by rw [unhide Hf]; rfl) (by rw [unhide Hf]; rfl), rfl⟩
    · have H2 : Hid (¬ (d.data.toList.head? = some 48 ∧ s.data.toList ≠ [48])) := by
        refine hide ?_
        rw [unhide Hh]
        rintro ⟨ha, hb⟩
        injection ha with ha
        exact h2 ⟨by rw [ha]; rfl, hb⟩
      by_cases h4 : (d[0].toNat : Int) = 48
      all_goals
        have h3' : (d[0].toNat : Int) = 48 → (s.toList == [48]) = true := fun h => by
          rw [Lib.toList_data]; simpa using fun hx => h2 ⟨h, hx⟩
        clear h2
        first | have h5 := h3' h4 | skip
        clear h3'
        go_enter Tryd.func43, Tryd.ntmps43
        go_wp2_with fail
        refine (unhide Hc).mono ?_
        rintro e w' ⟨rfl, rfl⟩
        go_wp2
        go_loop [6, 26] (fun x i => ∃ k : Nat, k ≤ d.size ∧ i = .int .i64 k ∧ (d.data.toList.take k).all Sp.isDig = true ∧ x = .int .i64 (Sp.readTo (d.data.toList.take k))) (fun _ i => d.size - (intOf i).toNat)
        case atStart => exact ⟨0, Nat.zero_le _, rfl, rfl, rfl⟩
        case round =>
          obtain ⟨k, hk, rfl, hall, rfl⟩ := hrel
          have hb := Sp.readTo_bd _ hall
          have Hall := hide hall; clear hall
          by_cases hlt : k < d.size
          · have HA := hide (all_snoc d k hlt)
            have HR := hide (read_snoc d k hlt)
            have HB := hide (not_all d k hlt)
            generalize Sp.readTo (d.data.toList.take k) = x at *
            go_wp2
            all_goals first
              | (go_round
                 case rel =>
                   have hdig : Sp.isDig d[k] = true := by simp only [Sp.isDig, Bool.and_eq_true, decide_eq_true_eq]; omega
                   exact ⟨k + 1, by omega, by go_num, by rw [unhide HA, unhide Hall, hdig]; rfl, by rw [unhide HR]; rfl⟩
                 case measure => simp [intOf]; omega)
              | (go_ret2
                 have hdig : Sp.isDig d[k] = false := by
                   rw [Bool.eq_false_iff]; intro hx; simp only [Sp.isDig, Bool.and_eq_true, decide_eq_true_eq] at hx; omega
                 have Hf := num_bad (unhide Hd) (unhide H1) (unhide H2) (unhide HB hdig)
                 exact ⟨tuple_nb (by rw [Hf]; rfl) (by rw [Hf]; rfl), rfl⟩)
          · obtain rfl : k = d.size := by omega
            have hts : d.data.toList.take d.size = d.data.toList := List.take_of_length_le (by rw [Lib.size_eq]; exact Nat.le_refl _)
            rw [hts] at Hall hb ⊢
            have Hf := hide (num_good (unhide Hd) (unhide Hn) (unhide H1) (unhide H2) (unhide Hall))
            clear hts Hall
            generalize Sp.readTo d.data.toList = x at *
            cases neg
            all_goals
              go_wp2
              go_ret2
              exact ⟨tuple_nb (by rw [unhide Hf]; rfl) (by rw [unhide Hf]; rfl), rfl⟩
end Go.Proofs.YtkmcfjkfoafkoaaDoor
