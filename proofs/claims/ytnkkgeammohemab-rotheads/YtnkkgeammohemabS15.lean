/- The walk of package rot: roundOf. -/
import Derived.Test.YtnkkgeammohemabS14
namespace Go.Proofs.Ytnkkgeammohemab
open Go Go.RowKit

set_option maxRecDepth 100000 in
set_option maxHeartbeats 2000000 in
theorem roundOf_any (st : List Int) (sv : Value) (d : Int) (w : World) (hv : Ints w sv st) (hn : st.length ≤ 240) (hx : ∀ x ∈ st, 0 ≤ x ∧ x < (st.length : Int)) :
    Calls Try.prog 33 #[sv, .int .i64 d] w fun e w' => ∃ rv, e = .returned rv ∧ Mine w' w.heap.size rv (Sp.roundOf st d) ∧ Below w.heap.size w w' := by
  have HC := hide (rounds_any st sv w hv hn hx)
  have HX := hide hx
  obtain ⟨sa, sc, rfl, hsc, hsm⟩ := hv.form
  have HR : Hid (Sp.roundOf st d = Sp.ofGo (Sp.rndsD st).1 d (Sp.rndsD st).2) := hide rfl
  generalize Sp.roundOf st d = R at *
  obtain ⟨P, hP⟩ : ∃ P : Ending → World → Prop, P = fun e w' => ∃ rv, e = .returned rv ∧ Mine w' w.heap.size rv R ∧ Below w.heap.size w w' := ⟨_, rfl⟩
  rw [← hP]
  have HP := hide hP
  clear hP hx hv
  go_enter Try.func33, Try.ntmps33
  go_wp2_with fail
  go_at_call 35
  refine (unhide HC).mono ?_
  clear HC
  intro e w2 hpost
  obtain ⟨lv, rfl, hb2, hpl, hpo, hls, hcells⟩ := hpost.one (unhide HX)
  clear hpost
  generalize (Sp.rndsD st).1 = row at *
  generalize (Sp.rndsD st).2 = ps at *
  generalize (Sp.rnds st).isSome = is at *
  have Hb2 := hide hb2
  obtain ⟨la, lc, rfl, hlc, hlm, HL⟩ := owns_all hls
  have HPO := hide hpo
  have HCE := hide hcells
  clear hls hpo hcells hb2
  go_wp2
  go_loop [17] (fun i => ∃ k : Nat, k ≤ ps.length ∧ i = .int .i64 (k : Int) ∧ Hid (R = Sp.ofGo row d (ps.drop k))) (fun i => ps.length - (intOf i).toNat)
  case atStart => exact ⟨0, by omega, rfl, HR⟩
  case round =>
    obtain ⟨k, hk, rfl, HI⟩ := hrel
    by_cases hlt : k < ps.length
    · have hltI : (k : Int) < (ps.length : Int) := by omega
      have hpk := (unhide HPO).ok ps[k] (List.getElem_mem hlt)
      have HTG : Hid (R = if d ∈ Sp.piece row ps[k] then Sp.rot2 (Sp.piece row ps[k]) ((Sp.piece row ps[k]).idxOf d) else Sp.ofGo row d (ps.drop (k + 1))) := hide (by
        have h := unhide HI
        rw [List.drop_eq_getElem_cons hlt, Sp.ofGo] at h
        exact h)
      obtain ⟨lb, hla, hlbs, -, hlcell⟩ := unhide HL k (by simpa using hlt)
      subst hla
      have hlc1 := hlcell w2 (Below.refl _ _)
      rw [List.getElem_map] at hlc1
      generalize ps[k] = pp at *
      obtain ⟨b, e⟩ := pp
      obtain ⟨hbe, herow⟩ := hpk
      simp only at hbe herow
      have hlc2 : w2.cell? ⟨lb, k, none⟩ = some (.slice (some ⟨w.heap.size, b, none⟩) (e - b) (e - b)) := hlc1
      have he240 : e ≤ 240 := by have := (unhide HPO).fit.le; omega
      have HPL : Hid ((Sp.piece row (b, e)).length = e - b) := hide (Sp.piece_len herow)
      have HPC : Hid (∀ w', Below w2.heap.size w2 w' → ∀ j, (hj : j < (Sp.piece row (b, e)).length) → w'.cell? ⟨w.heap.size, b + j, none⟩ = some (.int .i64 (Sp.piece row (b, e))[j]) ∧ w'.frozen? ⟨w.heap.size, b + j, none⟩ = false) := hide fun w' hb' j hj => by
        rw [Sp.piece_get herow]
        exact unhide HCE (b + j) (by rw [unhide HPL] at hj; omega) w' hb'
      have HC5 := hide (index_any (Sp.piece row (b, e)) w.heap.size b (e - b) (e - b) d w2 (unhide HPL) (by omega) fun j hj => (unhide HPC w2 (Below.refl _ _) j hj).1)
      generalize Sp.piece row (b, e) = pc at *
      clear hlc1 hlcell
      go_wp2_with fail
      go_at_call 44
      refine (unhide HC5).mono ?_
      clear HC5
      rintro e5 w5 ⟨⟨i, hi, rfl, hid, hbef⟩ | ⟨rfl, hnm⟩, rfl⟩
      · have HI5 : Hid (R = Sp.rot2 pc i) := by
          have h := unhide HTG
          rw [if_pos (hid ▸ List.getElem_mem hi), idxOf_of pc d i hi hid hbef] at h
          exact hide h
        have hi2 : i < e - b := by rw [← unhide HPL]; exact hi
        have h0i : (0 : Int) ≤ (i : Int) := by omega
        clear hid hbef hi HTG
        by_cases hi0 : i = 0
        · subst hi0
          have hrun := run_app_none w5.drew w.heap.size b (e - b) w.heap.size b (e - b)
          go_wp2
          go_region
          go_wp2
          rw [unhide HP]
          refine ⟨_, rfl, ?_, (unhide Hb2).trans ((Below.refl _ _).drew.mono (unhide Hb2).size)⟩
          rw [unhide HI5]
          show Mine _ _ (.slice (some ⟨w.heap.size, b, none⟩) (e - b) (e - b)) (Sp.rot2 pc 0)
          have hr0 : Sp.rot2 pc 0 = pc := by simp [Sp.rot2]
          rw [hr0]
          refine .inr ⟨w.heap.size, b, e - b, by rw [unhide HPL], Nat.le_refl _, ?_, by rw [unhide HPL]; exact Nat.le_refl _, by unfold maxLen; omega, fun j hj => unhide HPC _ (Below.refl _ _).drew j hj⟩
          exact cell_lt (a := ⟨w.heap.size, b + 0, none⟩) (unhide HPC w5.drew (Below.refl _ _).drew 0 (by rw [unhide HPL]; omega)).1
        · have HD1 : Hid ((pc.drop i).length = e - b - i) := hide (by rw [List.length_drop, unhide HPL])
          have HD2 : Hid ((pc.take i).length = i) := hide (by rw [List.length_take, unhide HPL]; omega)
          obtain ⟨c6, w6, hrun, hown6, hb6⟩ := run_app_grow w5.drew w.heap.size (b + i) (e - b - i) i (e - b) w.heap.size b (pc.drop i) (pc.take i) (unhide HD1) (unhide HD2) (by omega) (by omega)
            (fun j hj => by rw [List.getElem_drop, Nat.add_assoc]; exact (unhide HPC w5.drew (Below.refl _ _).drew (i + j) (by rw [List.length_drop] at hj; omega)).1)
            (fun j hj => by rw [List.getElem_take]; exact (unhide HPC w5.drew (Below.refl _ _).drew j (by rw [List.length_take] at hj; omega)).1)
          have hsum : e - b - i + i = e - b := by omega
          rw [hsum] at hrun hown6
          have Hrun := hide hrun
          have hne1 : ¬ e - b = i := by omega
          have hle1 : i ≤ e - b := by omega
          have hle2 : (i : Int) ≤ ((e - b : Nat) : Int) := by omega
          clear hrun
          go_wp2
          go_region_law (refine step_run rfl (.tmp 28) (.tmp 31) rfl _ _ _ _ rfl rfl (unhide Hrun) ?_)
          go_wp2
          go_ret
          rw [unhide HP]
          have hl6 : e - b = (Sp.rot2 pc i).length := by
            unfold Sp.rot2
            rw [List.length_append, unhide HD1, unhide HD2, hsum]
          have hb7 : Below w.heap.size w w6 := (unhide Hb2).trans (((Below.refl _ w5).drew.trans hb6).mono (unhide Hb2).size)
          refine ⟨_, rfl, ?_, hb7⟩
          rw [unhide HI5]
          have hown7 : OwnI w6 w5.heap.size (.slice (some ⟨w5.heap.size, 0, none⟩) (e - b) c6) (Sp.rot2 pc i) := hown6
          show Mine _ _ (.slice (some ⟨w5.heap.size, 0, none⟩) (e - b) c6) (Sp.rot2 pc i)
          exact own_mine hown7 hl6 (unhide Hb2).size
      · have HN : Hid (R = Sp.ofGo row d (ps.drop (k + 1))) := by
          have h := unhide HTG
          rw [if_neg hnm] at h
          exact hide h
        clear hnm
        go_wp2
        go_round
        case rel => exact ⟨k + 1, by omega, by go_num, HN⟩
        case measure => simp [intOf]; omega
    · have HF : Hid (R = []) := by
        have h := unhide HI
        rw [List.drop_eq_nil_of_le (by omega), Sp.ofGo] at h
        exact hide h
      go_wp2
      rw [unhide HP]
      exact ⟨_, rfl, .inl ⟨rfl, unhide HF⟩, unhide Hb2⟩
end Go.Proofs.Ytnkkgeammohemab


