/- What the proof needs, part 6. -/
import Derived.Lib.SliceRun
import Derived.Test.YtoegjnolccabjaaL5
/- rim: rise, each. -/
namespace Go.Proofs.Ytoegjnolccabjaa
open Go Go.RowKit

/-- How much higher it is behind a dart. -/
def Sp.rise (F P : List Int) (d : Nat) : Int := P.getD (F.getD (Sp.oth d) 0).toNat 0 - P.getD (F.getD d 0).toNat 0
theorem land_new (w : World) (a b c : Value) : ∀ w', Below (w.heap.size + 1) (w.alloc (.cells #[a, b, c] 54)) w' → Below w.heap.size w w' ∧ w'.cell? ⟨w.heap.size, 0, none⟩ = some a ∧ w'.cell? ⟨w.heap.size, 1, none⟩ = some b ∧ w'.cell? ⟨w.heap.size, 2, none⟩ = some c := fun w' hb => by
  have hs : (w.alloc (.cells #[a, b, c] 54)).heap.size = w.heap.size + 1 := by simp
  refine ⟨((Below.refl _ w).alloc (Nat.le_refl _) _).trans (hb.mono (by omega)), ?_, ?_, ?_⟩
  · exact (hb.cell (p := ⟨w.heap.size, 0, none⟩) (by show w.heap.size < _; omega)).trans (by rw [cell_of_row _ _ _ _ _ _ (heap_alloc_new w _)]; rfl)
  · exact (hb.cell (p := ⟨w.heap.size, 1, none⟩) (by show w.heap.size < _; omega)).trans (by rw [cell_of_row _ _ _ _ _ _ (heap_alloc_new w _)]; rfl)
  · exact (hb.cell (p := ⟨w.heap.size, 2, none⟩) (by show w.heap.size < _; omega)).trans (by rw [cell_of_row _ _ _ _ _ _ (heap_alloc_new w _)]; rfl)
set_option maxRecDepth 100000 in
set_option maxHeartbeats 4000000 in
theorem rmrise_any (F P : List Int) (fv pv : Value) (b0 : Int) (m k d : Nat) (w : World) (hF : Ints w fv F) (hP : Ints w pv P) (hFl : F.length = m) (hPl : P.length = k) (hev : m % 2 = 0) (hm : m ≤ 999) (hd : d < m) (hFn : ∀ d, d < m → 0 ≤ F.getD d 0 ∧ F.getD d 0 < k) (hPb : ∀ j, j < k → 0 ≤ P.getD j 0 ∧ P.getD j 0 ≤ 1152921504606846976) :
    Calls Try.prog 30 #[.agg #[fv, pv, .int .i64 b0], .int .i64 (d : Int)] w fun e w' => e = .returned (.int .i64 (Sp.rise F P d)) ∧ Below w.heap.size w w' := by
  obtain ⟨fa, fc, hfe, -, -, HFa⟩ := hF.allA
  obtain ⟨pa, pc, hpe, -, -, HPa⟩ := hP.allA
  rw [hFl] at hfe HFa
  rw [hPl] at hpe HPa
  subst hfe hpe
  have ho := oth_lt hd hev
  have hoI : ((Sp.oth d : Nat) : Int) < (m : Int) := by omega
  have hdI : (d : Int) < (m : Int) := by omega
  have HO := hide (fun w' => rmother_any d w' (by omega))
  have h1 := hFn d hd
  have h2 := hFn _ ho
  have hRi : Sp.rise F P d = P.getD (F.getD (Sp.oth d) 0).toNat 0 - P.getD (F.getD d 0).toNat 0 := rfl
  obtain ⟨x, hx⟩ : ∃ x : Nat, F.getD d 0 = (x : Int) := ⟨_, (Int.toNat_of_nonneg h1.1).symm⟩
  obtain ⟨y, hy⟩ : ∃ y : Nat, F.getD (Sp.oth d) 0 = (y : Int) := ⟨_, (Int.toNat_of_nonneg h2.1).symm⟩
  rw [hx] at h1
  rw [hy] at h2
  have hxk : x < k := by omega
  have hyk : y < k := by omega
  have hxI : (x : Int) < (k : Int) := by omega
  have hyI : (y : Int) < (k : Int) := by omega
  obtain ⟨b1, o1, rfl, -, hc1⟩ := unhide HFa d hd
  obtain ⟨b2, o2, e2, -, hc2⟩ := unhide HFa _ ho
  injection e2 with e2
  injection e2 with q1 q2
  subst q1 q2
  obtain ⟨b3, o3, rfl, -, hc3⟩ := unhide HPa x hxk
  obtain ⟨b4, o4, e4, -, hc4⟩ := unhide HPa y hyk
  injection e4 with e4
  injection e4 with q3 q4
  subst q3 q4
  have p1 := hPb x hxk
  have p2 := hPb y hyk
  rw [hx] at hc1 hRi
  rw [hy] at hc2 hRi
  rw [Int.toNat_natCast, Int.toNat_natCast] at hRi
  generalize P.getD x 0 = px at *
  generalize P.getD y 0 = py at *
  obtain ⟨W1, hW1⟩ : ∃ W1, W1 = w.alloc (.cells #[.slice (some ⟨b1, o1, none⟩) m fc, .slice (some ⟨b3, o3, none⟩) k pc, .int .i64 b0] 54) := ⟨_, rfl⟩
  have HB : Hid (∀ w', Below W1.heap.size W1 w' → Below w.heap.size w w') := hide fun w' hb => by
    have hs : W1.heap.size = w.heap.size + 1 := by rw [hW1]; simp
    rw [hs] at hb
    rw [hW1] at hb
    exact (land_new w _ _ _ w' hb).1
  obtain ⟨hbw, x0, x1, -⟩ := land_new w (.slice (some ⟨b1, o1, none⟩) m fc) (.slice (some ⟨b3, o3, none⟩) k pc) (.int .i64 b0) W1 (by rw [hW1]; exact Below.refl _ _)
  have k1 := hc1 _ hbw
  have k2 := hc2 _ hbw
  have k3 := hc3 _ hbw
  have k4 := hc4 _ hbw
  have HR := hide hRi
  clear hRi hx hy h1 h2 ho hev hFn hPb hc1 hc2 hc3 hc4 HFa HPa hF hP hFl hPl hbw hd
  generalize Sp.rise F P d = R at *
  generalize Sp.oth d = od at *
  go_enter Try.func30, Try.ntmps30
  go_upto_region 1 with fail
  rw [← hW1]
  clear hW1
  go_quiet ((go_at_call 43; exact Calls.quiet_of_same (unhide HO _)))
  go_wp2
  go_ret
  refine ⟨?_, unhide HB _ (below_dn (Below.refl _ _) _)⟩
  rw [unhide HR]
  go_num
set_option maxRecDepth 100000 in
set_option maxHeartbeats 4000000 in
theorem rmeach_any (F P : List Int) (fv pv : Value) (b0 : Int) (m k : Nat) (w : World) (hF : Ints w fv F) (hP : Ints w pv P) (hFl : F.length = m) (hPl : P.length = k) (hev : m % 2 = 0) (hm : m ≤ 240) (hFn : ∀ d, d < m → 0 ≤ F.getD d 0 ∧ F.getD d 0 < k) (hPb : ∀ j, j < k → 0 ≤ P.getD j 0 ∧ P.getD j 0 ≤ 1152921504606846976) :
    Calls Try.prog 29 #[.agg #[fv, pv, .int .i64 b0], .func (.func 30) #[.agg #[fv, pv, .int .i64 b0]] #[]] w fun e w' => ∃ lv, e = .returned lv ∧ OwnI w' w.heap.size lv ((List.range m).map (Sp.rise F P)) ∧ Below w.heap.size w w' := by
  have HG : Hid (∀ (w' : World) (d : Nat), Below w.heap.size w w' → d < m → Calls Try.prog 30 #[.agg #[fv, pv, .int .i64 b0], .int .i64 (d : Int)] w' fun e w'' => e = .returned (.int .i64 (Sp.rise F P d)) ∧ Below w'.heap.size w' w'') := hide fun w' d hb hd => rmrise_any F P fv pv b0 m k d w' (hF.below hb) (hP.below hb) hFl hPl hev (by omega) hd hFn hPb
  obtain ⟨fa, fc, hfe, -, -⟩ := hF.form
  obtain ⟨pa, pc, hpe, -, -⟩ := hP.form
  rw [hFl] at hfe
  rw [hPl] at hpe
  subst hfe hpe
  generalize Sp.rise F P = G at *
  obtain ⟨W1, hW1⟩ : ∃ W1, W1 = w.alloc (.cells #[.slice fa m fc, .slice pa k pc, .int .i64 b0] 54) := ⟨_, rfl⟩
  have HBX : Hid (∀ w', Below (w.heap.size + 1) W1 w' → Below w.heap.size w w' ∧ w'.cell? ⟨w.heap.size, 0, none⟩ = some (.slice fa m fc)) := hide fun w' hb => by
    rw [hW1] at hb
    have h := land_new w _ _ _ w' hb
    exact ⟨h.1, h.2.1⟩
  have hs1 : W1.heap.size = w.heap.size + 1 := by rw [hW1]; simp
  obtain ⟨Q, hQ⟩ : ∃ Q : Ending → World → Prop, Q = fun e w' => ∃ lv, e = .returned lv ∧ OwnI w' w.heap.size lv ((List.range m).map G) ∧ Below w.heap.size w w' := ⟨_, rfl⟩
  rw [← hQ]
  have HQ := hide hQ
  obtain ⟨-, x0⟩ := unhide HBX W1 (Below.refl _ _)
  clear hs1 hQ hF hP hFl hPl hFn hPb
  subst hW1
  go_enter Try.func29, Try.ntmps29
  go_wp2_with (at_make; refine wpList_mk rfl _ _ rfl (w.heap.size + 1) m rfl rfl (by omega) (by simp) ?_)
  intro w5 hown5 hb5 hlt5
  clear x0
  generalize w.alloc (.cells #[.slice fa m fc, .slice pa k pc, .int .i64 b0] 54) = W1 at *
  have HK0 : Hid (PKeep (w.heap.size + 1) (w.heap.size + 1) m W1 w5 (List.replicate m 0)) := hide ⟨List.length_replicate, hown5, hb5, by have := (hown5.lt (w.heap.size + 1) rfl).2; exact this, Nat.le_refl _⟩
  clear hown5 hb5 hlt5
  go_wp2
  go_loopg [13] m (fun g i wr => ∃ j : Nat, j + g = m ∧ i = .int .i64 (j : Int) ∧ Hid (PKeep (w.heap.size + 1) (w.heap.size + 1) m W1 wr ((List.range j).map G ++ List.replicate (m - j) 0)))
  case atStart => exact ⟨0, by omega, rfl, by simpa using HK0⟩
  case round =>
    clear HK0
    obtain ⟨j, hjg, rfl, HI⟩ := hrel
    cases gk with
    | succ g' =>
      have hlt : j < m := by omega
      have hltI : (j : Int) < (m : Int) := by omega
      go_wp2_with fail
      go_at_call 30
      refine (unhide HG wr j (unhide HBX _ (unhide HI).bel).1 hlt).mono ?_
      rintro e w6 ⟨rfl, hl6⟩
      have HI6 := hide ((unhide HI).below hl6)
      have c1 := own_cell (unhide HI6).own j (by rw [(unhide HI6).len]; exact hlt)
      have f1 := own_frozen (unhide HI6).own j
      have HN : Hid (PKeep (w.heap.size + 1) (w.heap.size + 1) m W1 (w6.setCell ⟨w.heap.size + 1, j, none⟩ (.int .i64 (G j))) ((List.range (j + 1)).map G ++ List.replicate (m - (j + 1)) 0)) := by
        have h := (unhide HI6).set j (G j)
        rw [map_fill G m j hlt] at h
        exact hide h
      generalize ((List.range j).map G ++ List.replicate (m - j) 0)[j]'_ = z at *
      clear HI HI6 hl6
      go_wp2
      go_roundg g'
      case rel => exact ⟨j + 1, by omega, by go_num, HN⟩
      case measure => omega
    | zero =>
      obtain rfl : j = m := by omega
      have HK1 : Hid (PKeep (w.heap.size + 1) (w.heap.size + 1) j W1 wr ((List.range j).map G)) := by simpa using HI
      clear HI
      go_wp2
      rw [unhide HQ]
      exact ⟨_, rfl, own_base (unhide HK1).own (by omega), (unhide HBX _ (unhide HK1).bel).1⟩
end Go.Proofs.Ytoegjnolccabjaa


/- The walk of package rot: roundOf. -/
namespace Go.Proofs.Ytoegjnolccabjaa
open Go Go.RowKit

set_option maxRecDepth 100000 in
set_option maxHeartbeats 2000000 in
theorem roundOf_any (st : List Int) (sv : Value) (d : Int) (w : World) (hv : Ints w sv st) (hn : st.length ≤ 240) (hx : ∀ x ∈ st, 0 ≤ x ∧ x < (st.length : Int)) :
    Calls Try.prog 84 #[sv, .int .i64 d] w fun e w' => ∃ rv, e = .returned rv ∧ Mine w' w.heap.size rv (Sp.roundOf st d) ∧ Below w.heap.size w w' := by
  have HC := hide (rounds_any st sv w hv hn hx)
  have HX := hide hx
  obtain ⟨sa, sc, rfl, hsc, hsm⟩ := hv.form
  have HR : Hid (Sp.roundOf st d = Sp.ofGo (Sp.rndsD st).1 d (Sp.rndsD st).2) := hide rfl
  generalize Sp.roundOf st d = R at *
  obtain ⟨P, hP⟩ : ∃ P : Ending → World → Prop, P = fun e w' => ∃ rv, e = .returned rv ∧ Mine w' w.heap.size rv R ∧ Below w.heap.size w w' := ⟨_, rfl⟩
  rw [← hP]
  have HP := hide hP
  clear hP hx hv
  go_enter Try.func84, Try.ntmps84
  go_wp2_with fail
  go_at_call 92
  refine (unhide HC).mono ?_
  clear HC
  intro e w2 hpost
  obtain ⟨lv, rfl, hb2, hpl, hpo, hls, hcells⟩ := hpost.one (unhide HX)
  clear hpost
  generalize (Sp.rndsD st).1 = row at *
  generalize (Sp.rndsD st).2 = ps at *
  generalize (Sp.rnds st).isSome = is at *
  have Hb2 := hide hb2
  obtain ⟨la, lc, rfl, hlc, hlm, HL⟩ := owns_all hls
  have HPO := hide hpo
  have HCE := hide hcells
  clear hls hpo hcells hb2
  go_wp2
  go_loop [17] (fun i => ∃ k : Nat, k ≤ ps.length ∧ i = .int .i64 (k : Int) ∧ Hid (R = Sp.ofGo row d (ps.drop k))) (fun i => ps.length - (intOf i).toNat)
  case atStart => exact ⟨0, by omega, rfl, HR⟩
  case round =>
    obtain ⟨k, hk, rfl, HI⟩ := hrel
    by_cases hlt : k < ps.length
    · have hltI : (k : Int) < (ps.length : Int) := by omega
      have hpk := (unhide HPO).ok ps[k] (List.getElem_mem hlt)
      have HTG : Hid (R = if d ∈ Sp.piece row ps[k] then Sp.rot2 (Sp.piece row ps[k]) ((Sp.piece row ps[k]).idxOf d) else Sp.ofGo row d (ps.drop (k + 1))) := hide (by
        have h := unhide HI
        rw [List.drop_eq_getElem_cons hlt, Sp.ofGo] at h
        exact h)
      obtain ⟨lb, hla, hlbs, -, hlcell⟩ := unhide HL k (by simpa using hlt)
      subst hla
      have hlc1 := hlcell w2 (Below.refl _ _)
      rw [List.getElem_map] at hlc1
      generalize ps[k] = pp at *
      obtain ⟨b, e⟩ := pp
      obtain ⟨hbe, herow⟩ := hpk
      simp only at hbe herow
      have hlc2 : w2.cell? ⟨lb, k, none⟩ = some (.slice (some ⟨w.heap.size, b, none⟩) (e - b) (e - b)) := hlc1
      have he240 : e ≤ 240 := by have := (unhide HPO).fit.le; omega
      have HPL : Hid ((Sp.piece row (b, e)).length = e - b) := hide (Sp.piece_len herow)
      have HPC : Hid (∀ w', Below w2.heap.size w2 w' → ∀ j, (hj : j < (Sp.piece row (b, e)).length) → w'.cell? ⟨w.heap.size, b + j, none⟩ = some (.int .i64 (Sp.piece row (b, e))[j]) ∧ w'.frozen? ⟨w.heap.size, b + j, none⟩ = false) := hide fun w' hb' j hj => by
        rw [Sp.piece_get herow]
        exact unhide HCE (b + j) (by rw [unhide HPL] at hj; omega) w' hb'
      have HC5 := hide (index_any (Sp.piece row (b, e)) w.heap.size b (e - b) (e - b) d w2 (unhide HPL) (by omega) fun j hj => (unhide HPC w2 (Below.refl _ _) j hj).1)
      generalize Sp.piece row (b, e) = pc at *
      clear hlc1 hlcell
      go_wp2_with fail
      go_at_call 57
      refine (unhide HC5).mono ?_
      clear HC5
      rintro e5 w5 ⟨⟨i, hi, rfl, hid, hbef⟩ | ⟨rfl, hnm⟩, rfl⟩
      · have HI5 : Hid (R = Sp.rot2 pc i) := by
          have h := unhide HTG
          rw [if_pos (hid ▸ List.getElem_mem hi), idxOf_of pc d i hi hid hbef] at h
          exact hide h
        have hi2 : i < e - b := by rw [← unhide HPL]; exact hi
        have h0i : (0 : Int) ≤ (i : Int) := by omega
        clear hid hbef hi HTG
        by_cases hi0 : i = 0
        · subst hi0
          have hrun := run_app_none w5.drew w.heap.size b (e - b) w.heap.size b (e - b)
          go_wp2
          go_region
          go_wp2
          rw [unhide HP]
          refine ⟨_, rfl, ?_, (unhide Hb2).trans ((Below.refl _ _).drew.mono (unhide Hb2).size)⟩
          rw [unhide HI5]
          show Mine _ _ (.slice (some ⟨w.heap.size, b, none⟩) (e - b) (e - b)) (Sp.rot2 pc 0)
          have hr0 : Sp.rot2 pc 0 = pc := by simp [Sp.rot2]
          rw [hr0]
          refine .inr ⟨w.heap.size, b, e - b, by rw [unhide HPL], Nat.le_refl _, ?_, by rw [unhide HPL]; exact Nat.le_refl _, by unfold maxLen; omega, fun j hj => unhide HPC _ (Below.refl _ _).drew j hj⟩
          exact cell_lt (a := ⟨w.heap.size, b + 0, none⟩) (unhide HPC w5.drew (Below.refl _ _).drew 0 (by rw [unhide HPL]; omega)).1
        · have HD1 : Hid ((pc.drop i).length = e - b - i) := hide (by rw [List.length_drop, unhide HPL])
          have HD2 : Hid ((pc.take i).length = i) := hide (by rw [List.length_take, unhide HPL]; omega)
          obtain ⟨c6, w6, hrun, hown6, hb6⟩ := run_app_grow w5.drew w.heap.size (b + i) (e - b - i) i (e - b) w.heap.size b (pc.drop i) (pc.take i) (unhide HD1) (unhide HD2) (by omega) (by omega)
            (fun j hj => by rw [List.getElem_drop, Nat.add_assoc]; exact (unhide HPC w5.drew (Below.refl _ _).drew (i + j) (by rw [List.length_drop] at hj; omega)).1)
            (fun j hj => by rw [List.getElem_take]; exact (unhide HPC w5.drew (Below.refl _ _).drew j (by rw [List.length_take] at hj; omega)).1)
          have hsum : e - b - i + i = e - b := by omega
          rw [hsum] at hrun hown6
          have Hrun := hide hrun
          have hne1 : ¬ e - b = i := by omega
          have hle1 : i ≤ e - b := by omega
          have hle2 : (i : Int) ≤ ((e - b : Nat) : Int) := by omega
          clear hrun
          go_wp2
          go_region_law (refine step_run rfl (.tmp 28) (.tmp 31) rfl _ _ _ _ rfl rfl (unhide Hrun) ?_)
          go_wp2
          go_ret
          rw [unhide HP]
          have hl6 : e - b = (Sp.rot2 pc i).length := by
            unfold Sp.rot2
            rw [List.length_append, unhide HD1, unhide HD2, hsum]
          have hb7 : Below w.heap.size w w6 := (unhide Hb2).trans (((Below.refl _ w5).drew.trans hb6).mono (unhide Hb2).size)
          refine ⟨_, rfl, ?_, hb7⟩
          rw [unhide HI5]
          have hown7 : OwnI w6 w5.heap.size (.slice (some ⟨w5.heap.size, 0, none⟩) (e - b) c6) (Sp.rot2 pc i) := hown6
          show Mine _ _ (.slice (some ⟨w5.heap.size, 0, none⟩) (e - b) c6) (Sp.rot2 pc i)
          exact own_mine hown7 hl6 (unhide Hb2).size
      · have HN : Hid (R = Sp.ofGo row d (ps.drop (k + 1))) := by
          have h := unhide HTG
          rw [if_neg hnm] at h
          exact hide h
        clear hnm
        go_wp2
        go_round
        case rel => exact ⟨k + 1, by omega, by go_num, HN⟩
        case measure => simp [intOf]; omega
    · have HF : Hid (R = []) := by
        have h := unhide HI
        rw [List.drop_eq_nil_of_le (by omega), Sp.ofGo] at h
        exact hide h
      go_wp2
      rw [unhide HP]
      exact ⟨_, rfl, .inl ⟨rfl, unhide HF⟩, unhide Hb2⟩
end Go.Proofs.Ytoegjnolccabjaa


/- The walks of package rot: About, Face. -/
namespace Go.Proofs.Ytoegjnolccabjaa
open Go Go.RowKit

set_option maxRecDepth 100000 in
set_option maxHeartbeats 1000000 in
theorem face_any (q : Sp.Net) (v tv nv cv : Value) (d : Int) (w : World) (hv : NetI w v q tv nv cv) (hw : Sp.walkB q = true) :
    Calls Try.prog 56 #[v, .int .i64 d] w fun e w' => ∃ rv, e = .returned rv ∧ Mine w' w.heap.size rv (Sp.roundOf (Sp.behindL q.next) d) ∧ Below w.heap.size w w' := by
  have hq := walkQ hw
  have hv' := hv
  obtain ⟨rfl, h1, h2, h3⟩ := hv
  obtain ⟨ta, tc, rfl, -, -⟩ := h1.form
  obtain ⟨na, nc, rfl, -, -⟩ := h2.form
  obtain ⟨ca, cc, rfl, -, -⟩ := h3.form
  clear h1 h2 h3
  have HBX := hide (box_new w q.n (.slice ta q.tail.length tc) (.slice na q.next.length nc) (.slice ca q.cap.length cc))
  obtain ⟨W1, hW1⟩ : ∃ W1, W1 = w.alloc (.cells #[.int .i64 q.n, .slice ta q.tail.length tc, .slice na q.next.length nc, .slice ca q.cap.length cc] 25) := ⟨_, rfl⟩
  rw [← hW1] at HBX
  have hb1 : Below w.heap.size w W1 := by rw [hW1]; exact (Below.refl _ w).alloc (Nat.le_refl _) _
  have hs1 : W1.heap.size = w.heap.size + 1 := by rw [hW1]; simp
  have HW : Hid (∀ w', Below (w.heap.size + 1) W1 w' → Below w.heap.size w w') := hide fun w' hb => hb1.trans (hb.mono (by omega))
  have HS1 := hide hs1
  have HV : Hid (∀ w', Below (w.heap.size + 1) W1 w' → NetI w' (.agg #[.int .i64 q.n, .slice ta q.tail.length tc, .slice na q.next.length nc, .slice ca q.cap.length cc]) q (.slice ta q.tail.length tc) (.slice na q.next.length nc) (.slice ca q.cap.length cc)) := hide fun w' hb => hv'.below (unhide HW _ hb)
  have HC1 := hide (rwalkable_any q _ _ _ _ W1 (unhide HV W1 (Below.refl _ _)))
  rw [hw] at HC1
  have HQ := hide hq
  generalize hR : Sp.roundOf (Sp.behindL q.next) d = R
  have HR := hide hR
  obtain ⟨P, hP⟩ : ∃ P : Ending → World → Prop, P = fun e w' => ∃ rv, e = .returned rv ∧ Mine w' w.heap.size rv R ∧ Below w.heap.size w w' := ⟨_, rfl⟩
  rw [← hP]
  have HP := hide hP
  obtain ⟨x0, x1, x2, x3, -⟩ := unhide HBX W1 (Below.refl _ _)
  clear hb1 hs1 hv' hw hq hP hR
  subst hW1
  go_enter Try.func56, Try.ntmps56
  go_wp2_with fail
  go_at_call 83
  refine (unhide HC1).mono ?_
  clear HC1 x0 x1 x2 x3
  generalize w.alloc (.cells #[.int .i64 q.n, .slice ta q.tail.length tc, .slice na q.next.length nc, .slice ca q.cap.length cc] 25) = W1 at *
  rintro e w2 ⟨rfl, hb2⟩
  rw [unhide HS1] at hb2
  obtain ⟨x0, x1, x2, x3, hsz2⟩ := unhide HBX w2 hb2
  have HC2 := hide (behind_any q _ _ _ _ w2 (unhide HV w2 hb2) (by rw [(unhide HQ).nx]; exact (unhide HQ).ev) (by rw [(unhide HQ).nx]; exact (unhide HQ).big))
  have Hb2 := hide hb2
  clear hb2
  go_wp2_with fail
  go_at_call 85
  refine (unhide HC2).mono ?_
  clear HC2
  rintro e w3 ⟨sv, rfl, hown3, hb3⟩
  have hown3' : OwnI w3 w2.heap.size sv (Sp.behindL q.next) := hown3
  have HC3 := hide (roundOf_any (Sp.behindL q.next) sv d w3 hown3'.ints (by rw [Sp.behindL_len, (unhide HQ).nx]; exact (unhide HQ).big) (by rw [Sp.behindL_len]; exact Sp.behindL_bd q.next (by rw [(unhide HQ).nx]; exact (unhide HQ).ev) (unhide HQ).nb))
  rw [unhide HR] at HC3
  have Hb3 : Hid (Below (w.heap.size + 1) W1 w3) := hide ((unhide Hb2).trans (hb3.mono hsz2))
  have hsz3 := Nat.le_trans hsz2 hb3.size
  clear hown3 hown3' hb3 x0 x1 x2 x3
  go_wp2_with fail
  go_at_call 84
  refine (unhide HC3).mono ?_
  clear HC3
  rintro e w4 ⟨rv, rfl, hm4, hb4⟩
  have HM : Hid (Mine w4 w.heap.size rv R) := hide (hm4.base (by omega))
  have HB : Hid (Below w.heap.size w w4) := hide (unhide HW _ ((unhide Hb3).trans (hb4.mono hsz3)))
  clear hm4 hb4
  go_wp2
  rw [unhide HP]
  exact ⟨_, rfl, unhide HM, unhide HB⟩
end Go.Proofs.Ytoegjnolccabjaa


/- The walks of slices.Clone and of package rot: Turn. -/
namespace Go.Proofs.Ytoegjnolccabjaa
open Go Go.RowKit

def Sp.invGo (nx : List Int) : Nat → Nat → List Int → List Int
  | 0, _, L => L
  | c + 1, d, L => Sp.invGo nx c (d + 1) (L.set (nx.getD d 0).toNat (d : Int))
/-- The next ones seen from behind. -/
def Sp.turnL (nx : List Int) : List Int := Sp.invGo nx nx.length 0 (List.replicate nx.length 0)
/-- The net that Turn builds, in a block of its own; its result's block is still empty. -/
structure TurnAt (w wx : World) (g gn : Nat) (q : Sp.Net) (tv nv cv vT vC : Value) (L : List Int) : Prop where
  box : BoxAt w wx q.n tv nv cv
  ob : wx.heap[g]? = some (.cells #[.int .i64 q.n, vT, .slice (some ⟨gn, 0, none⟩) q.next.length q.next.length, vC] 25 (0, 0))
  far : w.heap.size + 2 ≤ g
  own : OwnI wx (w.heap.size + 2) (.slice (some ⟨gn, 0, none⟩) q.next.length q.next.length) L
  ne : gn ≠ g
  ot : OwnI wx (w.heap.size + 2) vT q.tail
  oc : OwnI wx (w.heap.size + 2) vC q.cap
  nt : vT.ownBlock ≠ some gn
  nc : vC.ownBlock ≠ some gn
theorem own_but {w w' : World} {B g : Nat} {v : Value} {l : List Int} (h : OwnI w B v l) (hb : ButRow g w w') (hne : v.ownBlock ≠ some g) : OwnI w' B v l := by
  obtain ⟨hx, hv | ⟨k, cap, cur, hv, hg, hh, r⟩⟩ := h
  · exact ⟨hx, .inl hv⟩
  · refine ⟨hx, .inr ⟨k, cap, cur, hv, hg, ?_, r⟩⟩
    rw [hb.block k (fun e => hne (by rw [hv, e]; rfl))]
    exact hh
theorem TurnAt.put {w wx : World} {g gn : Nat} {q : Sp.Net} {tv nv cv vT vC : Value} {L : List Int} (h : TurnAt w wx g gn q tv nv cv vT vC L) (x : Nat) (d : Int) : TurnAt w (wx.setCell ⟨gn, x, none⟩ (.int .i64 d)) g gn q tv nv cv vT vC (L.set x d) := by
  have hbut : ButRow gn wx (wx.setCell ⟨gn, x, none⟩ (.int .i64 d)) := (ButRow.refl gn wx).setCell x _
  have hgn := (h.own.lt gn rfl).1
  exact ⟨h.box.other gn x (by omega) _, (hbut.block g (Ne.symm h.ne)).trans h.ob, h.far, own_setCell h.own x d, h.ne, own_but h.ot hbut h.nt, own_but h.oc hbut h.nc, h.nt, h.nc⟩
end Go.Proofs.Ytoegjnolccabjaa


/- Rounds of a function, by labels: how many there are; what a new place, and two images exchanged, do to them. -/
namespace Go.Proofs.Ytoegjnolccabjaa
open Go Go.RowKit

def itf (f : Nat → Nat) (i : Nat) : Nat → Nat
  | 0 => i
  | m + 1 => f (itf f i m)
theorem itf_add (f : Nat → Nat) (i m : Nat) : ∀ n, itf f i (m + n) = itf f (itf f i m) n
  | 0 => rfl
  | n + 1 => by show f (itf f i (m + n)) = f (itf f (itf f i m) n); rw [itf_add f i m n]
theorem itf_one (f : Nat → Nat) (i n : Nat) : itf f i (n + 1) = itf f (f i) n := by
  rw [Nat.add_comm, itf_add]; rfl
def OrbF (f : Nat → Nat) (i j : Nat) : Prop := ∃ m, itf f i m = j
theorem OrbF.refl (f : Nat → Nat) (i : Nat) : OrbF f i i := ⟨0, rfl⟩
theorem OrbF.trans {f : Nat → Nat} {i j k : Nat} (h1 : OrbF f i j) (h2 : OrbF f j k) : OrbF f i k := by
  obtain ⟨a, rfl⟩ := h1
  obtain ⟨b, rfl⟩ := h2
  exact ⟨a + b, itf_add f i a b⟩
theorem OrbF.one (f : Nat → Nat) (i : Nat) : OrbF f i (f i) := ⟨1, rfl⟩
structure PermF (L : Nat) (f : Nat → Nat) : Prop where
  mp : ∀ i, i < L → f i < L
  inj : ∀ i j, i < L → j < L → f i = f j → i = j
theorem PermF.it {L : Nat} {f : Nat → Nat} (h : PermF L f) {i : Nat} (hi : i < L) : ∀ m, itf f i m < L
  | 0 => hi
  | m + 1 => h.mp _ (h.it hi m)
/-- Labels that tell a function's rounds apart, k of them. -/
structure Cls (L : Nat) (f lab : Nat → Nat) (k : Nat) : Prop where
  lt : ∀ i, i < L → lab i < k
  on : ∀ c, c < k → ∃ i, i < L ∧ lab i = c
  inv : ∀ i, i < L → lab (f i) = lab i
  sep : ∀ i j, i < L → j < L → lab i = lab j → OrbF f i j
theorem Cls.along {L : Nat} {f lab : Nat → Nat} {k : Nat} (h : Cls L f lab k) (hp : ∀ i, i < L → f i < L) {i : Nat} (hi : i < L) : ∀ m, itf f i m < L ∧ lab (itf f i m) = lab i
  | 0 => ⟨hi, rfl⟩
  | m + 1 => by
    obtain ⟨h1, h2⟩ := h.along hp hi m
    exact ⟨hp _ h1, by show lab (f (itf f i m)) = _; rw [h.inv _ h1, h2]⟩
theorem Cls.orb {L : Nat} {f lab : Nat → Nat} {k : Nat} (h : Cls L f lab k) (hp : ∀ i, i < L → f i < L) {i j : Nat} (hi : i < L) (ho : OrbF f i j) : lab i = lab j := by
  obtain ⟨m, rfl⟩ := ho
  exact (h.along hp hi m).2.symm
theorem Cls.le {L : Nat} {f lab lab' : Nat → Nat} {k k' : Nat} (hp : ∀ i, i < L → f i < L) (h : Cls L f lab k) (h' : Cls L f lab' k') : k ≤ k' := by
  have hc : ∀ c, ∃ i, c < k → i < L ∧ lab i = c := fun c => by
    by_cases h0 : c < k
    · obtain ⟨i, h1⟩ := h.on c h0
      exact ⟨i, fun _ => h1⟩
    · exact ⟨0, fun h1 => absurd h1 h0⟩
  obtain ⟨g, hg⟩ := Classical.axiomOfChoice hc
  have := nodup_le k' ((List.range k).map fun c => ((lab' (g c) : Nat) : Int)) (by
    unfold List.Nodup
    rw [List.pairwise_map, List.pairwise_iff_getElem]
    intro i j hi hj hij e
    rw [List.length_range] at hi hj
    rw [List.getElem_range, List.getElem_range] at e
    obtain ⟨a1, a2⟩ := hg i hi
    obtain ⟨b1, b2⟩ := hg j hj
    have h3 := h.orb hp a1 (h'.sep _ _ a1 b1 (by omega))
    omega) (fun x hx => by
    obtain ⟨c, h1, rfl⟩ := List.mem_map.1 hx
    have h2 := h'.lt _ (hg c (List.mem_range.1 h1)).1
    exact ⟨by omega, by omega⟩)
  rw [List.length_map, List.length_range] at this
  exact this
theorem Cls.count {L : Nat} {f lab lab' : Nat → Nat} {k k' : Nat} (hp : ∀ i, i < L → f i < L) (h : Cls L f lab k) (h' : Cls L f lab' k') : k = k' := Nat.le_antisymm (h.le hp h') (h'.le hp h)
theorem Cls.congr {L : Nat} {f f' lab lab' : Nat → Nat} {k : Nat} (h : Cls L f lab k) (hp : ∀ i, i < L → f i < L) (hf : ∀ i, i < L → f' i = f i) (hl : ∀ i, i < L → lab' i = lab i) : Cls L f' lab' k := by
  refine ⟨fun i hi => by rw [hl i hi]; exact h.lt i hi, fun c hc => ?_, fun i hi => by rw [hf i hi, hl i hi, hl _ (hp i hi)]; exact h.inv i hi, fun i j hi hj e => ?_⟩
  · obtain ⟨i, h1, h2⟩ := h.on c hc
    exact ⟨i, h1, by rw [hl i h1]; exact h2⟩
  · rw [hl i hi, hl j hj] at e
    obtain ⟨m, hm⟩ := h.sep i j hi hj e
    refine ⟨m, ?_⟩
    rw [← hm]
    clear hm
    induction m with
    | zero => rfl
    | succ m ih =>
      show f' (itf f' i m) = f (itf f i m)
      rw [ih]
      exact hf _ (h.along hp hi m).1
/-- A new place behind u. -/
def insF (L u : Nat) (f : Nat → Nat) (x : Nat) : Nat := if x = u then L else if x = L then f u else f x
theorem insF_perm {L u : Nat} {f : Nat → Nat} (h : PermF L f) (hu : u < L) : PermF (L + 1) (insF L u f) := by
  refine ⟨fun i hi => ?_, fun i j hi hj e => ?_⟩
  · unfold insF
    have := h.mp u hu
    split
    · omega
    · split
      · omega
      · have := h.mp i (by omega); omega
  · unfold insF at e
    have h0 := h.mp u hu
    by_cases h1 : i = u <;> by_cases h2 : j = u
    · omega
    · rw [if_pos h1, if_neg h2] at e
      by_cases h3 : j = L
      · rw [if_pos h3] at e; omega
      · rw [if_neg h3] at e; have := h.mp j (by omega); omega
    · rw [if_neg h1, if_pos h2] at e
      by_cases h3 : i = L
      · rw [if_pos h3] at e; omega
      · rw [if_neg h3] at e; have := h.mp i (by omega); omega
    · rw [if_neg h1, if_neg h2] at e
      by_cases h3 : i = L <;> by_cases h4 : j = L
      · omega
      · rw [if_pos h3, if_neg h4] at e; have := h.inj u j hu (by omega) e; omega
      · rw [if_neg h3, if_pos h4] at e; have := h.inj i u (by omega) hu e; omega
      · rw [if_neg h3, if_neg h4] at e; exact h.inj i j (by omega) (by omega) e
theorem insF_orb {L u : Nat} {f : Nat → Nat} (hp : ∀ i, i < L → f i < L) (hu : u < L) {i : Nat} (hi : i < L) : ∀ m, OrbF (insF L u f) i (itf f i m)
  | 0 => OrbF.refl _ _
  | m + 1 => by
    refine (insF_orb hp hu hi m).trans ?_
    have hb : itf f i m < L := by
      induction m with
      | zero => exact hi
      | succ m ih => exact hp _ ih
    show OrbF _ _ (f (itf f i m))
    generalize itf f i m = x at *
    by_cases hx : x = u
    · refine ⟨2, ?_⟩
      show insF L u f (insF L u f x) = f x
      have e1 : insF L u f x = L := by unfold insF; rw [if_pos hx]
      rw [e1]
      unfold insF
      rw [if_neg (by omega), if_pos rfl, hx]
    · refine ⟨1, ?_⟩
      show insF L u f x = f x
      unfold insF
      rw [if_neg hx, if_neg (by omega)]
theorem Cls.ins {L u : Nat} {f lab : Nat → Nat} {k : Nat} (h : Cls L f lab k) (hp : ∀ i, i < L → f i < L) (hu : u < L) : Cls (L + 1) (insF L u f) (fun x => if x = L then lab u else lab x) k := by
  have hlab : ∀ x, x < L → (if x = L then lab u else lab x) = lab x := fun x hx => if_neg (by omega)
  have o1 : ∀ i j, i < L → j < L → lab i = lab j → OrbF (insF L u f) i j := fun i j hi hj e => by
    obtain ⟨m, rfl⟩ := h.sep i j hi hj e
    exact insF_orb hp hu hi m
  have oL : OrbF (insF L u f) L (f u) := ⟨1, by show insF L u f L = _; unfold insF; rw [if_neg (by omega), if_pos rfl]⟩
  have ou : OrbF (insF L u f) u L := ⟨1, by show insF L u f u = _; unfold insF; rw [if_pos rfl]⟩
  have hfu := hp u hu
  refine ⟨fun i hi => ?_, fun c hc => ?_, fun i hi => ?_, fun i j hi hj e => ?_⟩
  · show (if i = L then lab u else lab i) < k
    split
    · exact h.lt u hu
    · exact h.lt i (by omega)
  · obtain ⟨i, h1, h2⟩ := h.on c hc
    exact ⟨i, by omega, (hlab i h1).trans h2⟩
  · show (if insF L u f i = L then lab u else lab (insF L u f i)) = if i = L then lab u else lab i
    by_cases h1 : i = u
    · have e1 : insF L u f i = L := by unfold insF; rw [if_pos h1]
      rw [e1, if_pos rfl, if_neg (by omega), h1]
    · by_cases h2 : i = L
      · have e1 : insF L u f i = f u := by unfold insF; rw [if_neg h1, if_pos h2]
        rw [e1, if_neg (by omega), if_pos h2, h.inv u hu]
      · have e1 : insF L u f i = f i := by unfold insF; rw [if_neg h1, if_neg h2]
        have := hp i (by omega)
        rw [e1, if_neg (by omega), if_neg h2, h.inv i (by omega)]
  · have e' : (if i = L then lab u else lab i) = if j = L then lab u else lab j := e
    by_cases h1 : i = L <;> by_cases h2 : j = L
    · rw [h1, h2]; exact OrbF.refl _ _
    · rw [if_pos h1, if_neg h2] at e'
      rw [h1]
      exact oL.trans (o1 _ _ hfu (by omega) (by rw [h.inv u hu]; exact e'))
    · rw [if_neg h1, if_pos h2] at e'
      rw [h2]
      exact (o1 _ _ (by omega) hu e').trans ou
    · rw [if_neg h1, if_neg h2] at e'
      exact o1 _ _ (by omega) (by omega) e'
/-- A new place that is its own next one. -/
def fixF (L : Nat) (f : Nat → Nat) (x : Nat) : Nat := if x = L then L else f x
theorem Cls.fix {L : Nat} {f lab : Nat → Nat} {k : Nat} (h : Cls L f lab k) (hp : ∀ i, i < L → f i < L) : Cls (L + 1) (fixF L f) (fun x => if x = L then k else lab x) (k + 1) := by
  have it : ∀ i, i < L → ∀ m, itf (fixF L f) i m = itf f i m := by
    intro i hi m
    induction m with
    | zero => rfl
    | succ m ih =>
      show fixF L f (itf (fixF L f) i m) = f (itf f i m)
      rw [ih]
      unfold fixF
      rw [if_neg (by have := (h.along hp hi m).1; omega)]
  refine ⟨fun i hi => ?_, fun c hc => ?_, fun i hi => ?_, fun i j hi hj e => ?_⟩
  · show (if i = L then k else lab i) < k + 1
    split
    · omega
    · have := h.lt i (by omega); omega
  · by_cases hk : c = k
    · exact ⟨L, by omega, by show (if L = L then k else lab L) = c; rw [if_pos rfl, hk]⟩
    · obtain ⟨i, h1, h2⟩ := h.on c (by omega)
      exact ⟨i, by omega, by show (if i = L then k else lab i) = c; rw [if_neg (by omega)]; exact h2⟩
  · show (if fixF L f i = L then k else lab (fixF L f i)) = if i = L then k else lab i
    by_cases h2 : i = L
    · have e1 : fixF L f i = L := by unfold fixF; rw [if_pos h2]
      rw [e1, if_pos rfl, if_pos h2]
    · have e1 : fixF L f i = f i := by unfold fixF; rw [if_neg h2]
      have := hp i (by omega)
      rw [e1, if_neg (by omega), if_neg h2, h.inv i (by omega)]
  · have e' : (if i = L then k else lab i) = if j = L then k else lab j := e
    by_cases h1 : i = L <;> by_cases h2 : j = L
    · rw [h1, h2]; exact OrbF.refl _ _
    · rw [if_pos h1, if_neg h2] at e'; have := h.lt j (by omega); omega
    · rw [if_neg h1, if_pos h2] at e'; have := h.lt i (by omega); omega
    · rw [if_neg h1, if_neg h2] at e'
      obtain ⟨m, hm⟩ := h.sep i j (by omega) (by omega) e'
      exact ⟨m, by rw [it i (by omega)]; exact hm⟩
end Go.Proofs.Ytoegjnolccabjaa


/- Two images of one round exchanged: the round falls in two. -/
namespace Go.Proofs.Ytoegjnolccabjaa
open Go Go.RowKit

def swpF (u v : Nat) (f : Nat → Nat) (x : Nat) : Nat := if x = u then f v else if x = v then f u else f x
theorem swpF_perm {L u v : Nat} {f : Nat → Nat} (h : PermF L f) (hu : u < L) (hv : v < L) : PermF L (swpF u v f) := by
  have key : ∀ x, swpF u v f x = f (if x = u then v else if x = v then u else x) := fun x => by
    unfold swpF
    by_cases h1 : x = u
    · rw [if_pos h1, if_pos h1]
    · rw [if_neg h1, if_neg h1]
      by_cases h2 : x = v
      · rw [if_pos h2, if_pos h2]
      · rw [if_neg h2, if_neg h2]
  have kb : ∀ x, x < L → (if x = u then v else if x = v then u else x) < L := fun x hx => by split <;> (try split) <;> assumption
  refine ⟨fun i hi => by rw [key]; exact h.mp _ (kb i hi), fun i j hi hj e => ?_⟩
  rw [key, key] at e
  have := h.inj _ _ (kb i hi) (kb j hj) e
  split at this <;> split at this <;> (try split at this) <;> (try split at this) <;> omega
theorem Cls.split {L u v : Nat} {f lab : Nat → Nat} {k : Nat} (h : Cls L f lab k) (hp : PermF L f) (hu : u < L) (hv : v < L) (huv : u ≠ v) (ho : OrbF f u v) :
    ∃ lab', Cls L (swpF u v f) lab' (k + 1) := by
  obtain ⟨m, hm⟩ := ho
  obtain ⟨m1, hm1⟩ : ∃ m1, itf f (f u) m1 = v := by
    cases m with
    | zero => exact absurd hm huv
    | succ m => exact ⟨m, by rw [← itf_one]; exact hm⟩
  obtain ⟨m0, h0, hmin⟩ := least_of (p := fun m => itf f (f u) m = v) ⟨m1, hm1⟩
  clear hm hm1 m m1
  have hfu := hp.mp u hu
  have hfv := hp.mp v hv
  -- u is not on the way
  have huB : ∀ m, m ≤ m0 → itf f (f u) m ≠ u := fun m hm e => by
    have hlt : m < m0 := by
      rcases Nat.lt_or_ge m m0 with h1 | h1
      · exact h1
      · have : m = m0 := by omega
        rw [this, h0] at e; omega
    have e2 : itf f (f u) (m + 1) = f u := by show f (itf f (f u) m) = _; rw [e]
    have e3 : itf f (f u) (m0 - m - 1) = v := by
      rw [← h0]
      have : m0 = (m + 1) + (m0 - m - 1) := by omega
      conv => rhs; rw [this, itf_add, e2]
    have := hmin _ e3
    omega
  have hvB : ∀ m, m < m0 → itf f (f u) m ≠ v := fun m hm e => by have := hmin _ e; omega
  let B : Nat → Prop := fun x => ∃ m, m ≤ m0 ∧ itf f (f u) m = x
  have bu : ¬ B u := fun ⟨m, h1, h2⟩ => huB m h1 h2
  have bv : B v := ⟨m0, Nat.le_refl _, h0⟩
  have bfu : B (f u) := ⟨0, Nat.zero_le _, rfl⟩
  have bL : ∀ x, B x → x < L := fun x ⟨m, _, h2⟩ => by rw [← h2]; exact hp.it hfu m
  have bfwd : ∀ x, B x → x ≠ v → B (f x) := fun x ⟨m, h1, h2⟩ hx => by
    have : m ≠ m0 := fun e => by rw [e, h0] at h2; exact hx h2.symm
    exact ⟨m + 1, by omega, by show f (itf f (f u) m) = _; rw [h2]⟩
  have bback : ∀ x, x < L → x ≠ u → B (f x) → B x ∧ x ≠ v := fun x hx hxu ⟨m, h1, h2⟩ => by
    cases m with
    | zero => exact absurd (hp.inj x u hx hu h2.symm) hxu
    | succ m =>
      have e : itf f (f u) m = x := hp.inj _ _ (hp.it hfu m) hx h2
      exact ⟨⟨m, by omega, e⟩, fun ex => hvB m (by omega) (by rw [e, ex])⟩
  have bfv : ¬ B (f v) := fun hb => (bback v hv huv.symm hb).2 rfl
  have blab : ∀ x, B x → lab x = lab u := fun x ⟨m, _, h2⟩ => by
    rw [← h2, (h.along hp.mp hfu m).2, h.inv u hu]
  have su : swpF u v f u = f v := by unfold swpF; rw [if_pos rfl]
  have sv : swpF u v f v = f u := by unfold swpF; rw [if_neg huv.symm, if_pos rfl]
  have so : ∀ x, x ≠ u → x ≠ v → swpF u v f x = f x := fun x h1 h2 => by unfold swpF; rw [if_neg h1, if_neg h2]
  -- along B the two functions go the same way
  have same : ∀ m, m ≤ m0 → itf (swpF u v f) (f u) m = itf f (f u) m := by
    intro m
    induction m with
    | zero => intro _; rfl
    | succ m ih =>
      intro hm
      show swpF u v f (itf (swpF u v f) (f u) m) = f (itf f (f u) m)
      rw [ih (by omega)]
      exact so _ (huB m (by omega)) (hvB m (by omega))
  have inB : ∀ x y, B x → B y → OrbF (swpF u v f) x y := fun x y ⟨a, ha, hx⟩ ⟨b, hb, hy⟩ => by
    have o1 : OrbF (swpF u v f) x v := ⟨m0 - a, by
      have e1 : itf (swpF u v f) (f u) a = x := by rw [same a ha, hx]
      rw [← e1, ← itf_add, show a + (m0 - a) = m0 by omega, same m0 (Nat.le_refl _), h0]⟩
    have o2 : OrbF (swpF u v f) v (f u) := ⟨1, sv⟩
    have o3 : OrbF (swpF u v f) (f u) y := ⟨b, by rw [same b hb, hy]⟩
    exact (o1.trans o2).trans o3
  have outB : ∀ n x, x < L → ¬ B x → ¬ B (itf f x n) → OrbF (swpF u v f) x (itf f x n) := by
    intro n
    induction n using Nat.strongRecOn with
    | _ n ih =>
      intro x hx hbx hbn
      cases n with
      | zero => exact OrbF.refl _ _
      | succ n =>
        rw [itf_one] at hbn ⊢
        have hxv : x ≠ v := fun e => hbx (e ▸ bv)
        by_cases hxu : x = u
        · subst hxu
          have hn : m0 < n := by
            rcases Nat.lt_or_ge m0 n with h1 | h1
            · exact h1
            · exact absurd ⟨n, h1, rfl⟩ hbn
          have e1 : itf f (f x) n = itf f (f v) (n - m0 - 1) := by
            have : n = (m0 + 1) + (n - m0 - 1) := by omega
            conv => lhs; rw [this, itf_add]
            show itf f (f (itf f (f x) m0)) (n - m0 - 1) = _
            rw [h0]
          rw [e1] at hbn ⊢
          exact OrbF.trans ⟨1, su⟩ (ih (n - m0 - 1) (by omega) (f v) hfv bfv hbn)
        · have hbf : ¬ B (f x) := fun hb => hbx (bback x hx hxu hb).1
          exact OrbF.trans ⟨1, so x hxu hxv⟩ (ih n (by omega) (f x) (hp.mp x hx) hbf hbn)
  classical
  refine ⟨fun x => if B x then k else lab x, fun i hi => ?_, fun c hc => ?_, fun i hi => ?_, fun i j hi hj e => ?_⟩
  · show (if B i then k else lab i) < k + 1
    split
    · omega
    · have := h.lt i hi; omega
  · by_cases hk : c = k
    · exact ⟨v, hv, by show (if B v then k else lab v) = c; rw [if_pos bv, hk]⟩
    · obtain ⟨i, h1, h2⟩ := h.on c (by omega)
      by_cases hb : B i
      · exact ⟨u, hu, by show (if B u then k else lab u) = c; rw [if_neg bu, ← blab i hb]; exact h2⟩
      · exact ⟨i, h1, by show (if B i then k else lab i) = c; rw [if_neg hb]; exact h2⟩
  · show (if B (swpF u v f i) then k else lab (swpF u v f i)) = if B i then k else lab i
    by_cases h1 : i = u
    · rw [h1, su, if_neg bfv, if_neg bu, h.inv v hv, blab v bv]
    · by_cases h2 : i = v
      · rw [h2, sv, if_pos bfu, if_pos bv]
      · rw [so i h1 h2]
        by_cases hb : B i
        · rw [if_pos hb, if_pos (bfwd i hb h2)]
        · rw [if_neg hb, if_neg (fun hb' => hb (bback i hi h1 hb').1), h.inv i hi]
  · have e' : (if B i then k else lab i) = if B j then k else lab j := e
    by_cases h1 : B i <;> by_cases h2 : B j
    · exact inB i j h1 h2
    · rw [if_pos h1, if_neg h2] at e'; have := h.lt j hj; omega
    · rw [if_neg h1, if_pos h2] at e'; have := h.lt i hi; omega
    · rw [if_neg h1, if_neg h2] at e'
      obtain ⟨n, rfl⟩ := h.sep i j hi hj e'
      exact outB n i hi h1 h2
end Go.Proofs.Ytoegjnolccabjaa


/- Rows of labels numbered by their first ones; the rounds of a row of next ones; what the reference's Faces tells. -/
namespace Go.Proofs.Ytoegjnolccabjaa
open Go Go.RowKit

/-- Labels from 0 on, each new one behind all lesser ones. -/
structure Sp.RG (l : List Int) : Prop where
  nn : ∀ i, i < l.length → 0 ≤ l.getD i 0
  sm : ∀ i, i < l.length → ∀ c, 0 ≤ c → c < l.getD i 0 → ∃ j, j < i ∧ l.getD j 0 = c
structure Sp.Num (l : List Int) (k : Nat) : Prop where
  rg : Sp.RG l
  lt : ∀ i, i < l.length → l.getD i 0 < (k : Int)
  on : ∀ c : Nat, c < k → ∃ i, i < l.length ∧ l.getD i 0 = (c : Int)
theorem Sp.RG.uniq {l1 l2 : List Int} (h1 : Sp.RG l1) (h2 : Sp.RG l2) (hl : l1.length = l2.length) (he : ∀ i j, i < l1.length → j < l1.length → (l1.getD i 0 = l1.getD j 0 ↔ l2.getD i 0 = l2.getD j 0)) : l1 = l2 := by
  have key : ∀ i, i < l1.length → l1.getD i 0 = l2.getD i 0 := by
    intro i
    induction i using Nat.strongRecOn with
    | _ i ih =>
      intro hi
      rcases Int.lt_trichotomy (l1.getD i 0) (l2.getD i 0) with h | h | h
      · obtain ⟨j, hj, e⟩ := h2.sm i (by omega) _ (h1.nn i hi) h
        have e2 := ih j hj (by omega)
        have e3 := (he j i (by omega) hi).1 (by rw [e2, e])
        omega
      · exact h
      · obtain ⟨j, hj, e⟩ := h1.sm i hi _ (h2.nn i (by omega)) h
        have e2 := ih j hj (by omega)
        have e3 := (he j i (by omega) hi).2 (by rw [← e2, e])
        omega
  apply List.ext_getElem hl
  intro i hi hi'
  have := key i hi
  rw [Sp.getD_eq _ _ hi, Sp.getD_eq _ _ hi'] at this
  exact this
theorem Sp.Num.count {l : List Int} {k k' : Nat} (h : Sp.Num l k) (h' : Sp.Num l k') : k = k' := by
  rcases Nat.lt_trichotomy k k' with h1 | h1 | h1
  · obtain ⟨i, a, b⟩ := h'.on k h1
    have := h.lt i a
    omega
  · exact h1
  · obtain ⟨i, a, b⟩ := h.on k' h1
    have := h'.lt i a
    omega
/-- A row of next ones as a function. -/
def Sp.fn (st : List Int) (i : Nat) : Nat := (st.getD i 0).toNat
theorem Sp.Perm.fnP {st : List Int} (h : Sp.Perm st) : PermF st.length (Sp.fn st) := by
  have hb : ∀ i, i < st.length → 0 ≤ st.getD i 0 ∧ st.getD i 0 < (st.length : Int) := fun i hi => h.bd _ (Sp.getD_mem hi)
  refine ⟨fun i hi => ?_, fun i j hi hj e => ?_⟩
  · have := hb i hi
    unfold Sp.fn
    omega
  · have h1 := hb i hi
    have h2 := hb j hj
    unfold Sp.fn at e
    exact h.inj i j hi hj (by omega)
theorem Sp.Perm.nth_it {st : List Int} (h : Sp.Perm st) {i : Nat} (hi : i < st.length) : ∀ m, Sp.nth st i m = ((itf (Sp.fn st) i m : Nat) : Int)
  | 0 => rfl
  | m + 1 => by
    have h1 := h.nth_it hi m
    have h2 := h.fnP.it hi m
    show st.getD (Sp.nth st i m).toNat 0 = ((Sp.fn st (itf (Sp.fn st) i m) : Nat) : Int)
    rw [h1, Int.toNat_natCast]
    have := h.bd _ (Sp.getD_mem h2)
    show _ = (((st.getD (itf (Sp.fn st) i m) 0).toNat : Nat) : Int)
    omega
theorem Sp.Perm.mem_rounds {st : List Int} (h : Sp.Perm st) {d : Nat} (hd : d < st.length) (x : Int) : x ∈ Sp.rounds st d (Sp.per st d) ↔ ∃ j : Nat, x = (j : Int) ∧ OrbF (Sp.fn st) d j := by
  obtain ⟨p1, p2, p3, p4⟩ := h.per hd
  have hper : itf (Sp.fn st) d (Sp.per st d) = d := by have := h.nth_it hd (Sp.per st d); omega
  constructor
  · intro hx
    obtain ⟨m, hm, rfl⟩ := List.mem_map.1 hx
    exact ⟨_, h.nth_it hd m, m, rfl⟩
  · rintro ⟨j, rfl, m, rfl⟩
    have hm : ∀ m, ∃ m', m' < Sp.per st d ∧ itf (Sp.fn st) d m = itf (Sp.fn st) d m' := by
      intro m
      induction m using Nat.strongRecOn with
      | _ m ih =>
        rcases Nat.lt_or_ge m (Sp.per st d) with h1 | h1
        · exact ⟨m, h1, rfl⟩
        · obtain ⟨m', h2, h3⟩ := ih (m - Sp.per st d) (by omega)
          refine ⟨m', h2, ?_⟩
          rw [← h3]
          conv => lhs; rw [show m = Sp.per st d + (m - Sp.per st d) by omega, itf_add, hper]
    obtain ⟨m', h1, h2⟩ := hm m
    rw [h2]
    exact List.mem_map.2 ⟨m', List.mem_range.2 h1, h.nth_it hd m'⟩
theorem PermF.back {L : Nat} {f : Nat → Nat} (h : PermF L f) {st : List Int} (hs : Sp.Perm st) (hL : st.length = L) (hf : f = Sp.fn st) {i j : Nat} (hi : i < L) (ho : OrbF f i j) : OrbF f j i := by
  subst hf
  obtain ⟨m, rfl⟩ := ho
  obtain ⟨p1, p2, p3, p4⟩ := hs.per (d := i) (by omega)
  have hper : itf (Sp.fn st) i (Sp.per st i) = i := by have := hs.nth_it (i := i) (by omega) (Sp.per st i); omega
  have hmul : ∀ n, itf (Sp.fn st) i (n * Sp.per st i) = i := by
    intro n
    induction n with
    | zero => rw [Nat.zero_mul]; rfl
    | succ n ih => rw [Nat.succ_mul, itf_add, ih, hper]
  refine ⟨m * Sp.per st i - m, ?_⟩
  have hle : m ≤ m * Sp.per st i := Nat.le_mul_of_pos_right m p1
  rw [← itf_add, show m + (m * Sp.per st i - m) = m * Sp.per st i by omega, hmul]
theorem Sp.Perm.sym {st : List Int} (h : Sp.Perm st) {i j : Nat} (hi : i < st.length) (ho : OrbF (Sp.fn st) i j) : OrbF (Sp.fn st) j i := PermF.back h.fnP h rfl rfl hi ho
theorem Sp.paint_get (k : Int) : ∀ (ds of : List Int) (i : Nat), (∀ x ∈ ds, 0 ≤ x) → i < of.length → (Sp.paint k of ds).getD i 0 = if (i : Int) ∈ ds then k else of.getD i 0
  | [], of, i, _, _ => by rw [if_neg (by simp)]; rfl
  | d :: r, of, i, h, hi => by
    show (Sp.paint k (of.set d.toNat k) r).getD i 0 = _
    rw [Sp.paint_get k r (of.set d.toNat k) i (fun x hx => h x (by simp [hx])) (by rw [List.length_set]; exact hi)]
    have hd := h d (by simp)
    by_cases h1 : (i : Int) ∈ r
    · rw [if_pos h1, if_pos (List.mem_cons_of_mem _ h1)]
    · rw [if_neg h1]
      by_cases h2 : d.toNat < of.length
      · rw [getD_set_eq of i d.toNat k h2]
        by_cases h3 : i = d.toNat
        · rw [if_pos h3, if_pos (by rw [show (i : Int) = d by omega]; simp)]
        · rw [if_neg h3, if_neg (by
            intro hm
            rcases List.mem_cons.1 hm with e | e
            · omega
            · exact h1 e)]
      · rw [List.set_eq_of_length_le (by omega), if_neg (by
          intro hm
          rcases List.mem_cons.1 hm with e | e
          · omega
          · exact h1 e)]
/-- What Faces has laid so far. -/
structure Sp.FSt (st : List Int) (d : Nat) (of : List Int) (k : Nat) : Prop where
  len : of.length = st.length
  bd : ∀ i, i < st.length → of.getD i 0 = -1 ∨ (0 ≤ of.getD i 0 ∧ of.getD i 0 < (k : Int))
  done : ∀ i, i < d → 0 ≤ of.getD i 0
  inv : ∀ i, i < st.length → of.getD (Sp.fn st i) 0 = of.getD i 0
  sep : ∀ i j, i < st.length → j < st.length → 0 ≤ of.getD i 0 → of.getD i 0 = of.getD j 0 → OrbF (Sp.fn st) i j
  rg : ∀ i, i < d → ∀ c, 0 ≤ c → c < of.getD i 0 → ∃ j, j < i ∧ of.getD j 0 = c
  on : ∀ c : Nat, c < k → ∃ i, i < d ∧ of.getD i 0 = (c : Int)
theorem getD_rep (n i : Nat) (x : Int) (h : i < n) : (List.replicate n x).getD i 0 = x := by
  rw [List.getD_eq_getElem?_getD, List.getElem?_replicate, if_pos h]; rfl
theorem Sp.FSt.first (st : List Int) (hp : Sp.Perm st) : Sp.FSt st 0 (List.replicate st.length (-1)) 0 := by
  refine ⟨by simp, fun i hi => .inl (getD_rep _ _ _ hi), fun i hi => by omega, fun i hi => by rw [getD_rep _ _ _ hi, getD_rep _ _ _ (hp.fnP.mp i hi)], fun i j hi hj h => ?_, fun i hi => by omega, fun c hc => by omega⟩
  rw [getD_rep _ _ _ hi] at h
  omega
theorem Sp.FSt.old {st : List Int} {d k : Nat} {of : List Int} (h : Sp.FSt st d of k) (hd : d < st.length) (h0 : 0 ≤ of.getD d 0) : Sp.FSt st (d + 1) of k := by
  refine ⟨h.len, h.bd, fun i hi => ?_, h.inv, h.sep, fun i hi c c0 c1 => ?_, fun c hc => ?_⟩
  · rcases Nat.lt_or_ge i d with h1 | h1
    · exact h.done i h1
    · rw [show i = d by omega]; exact h0
  · rcases Nat.lt_or_ge i d with h1 | h1
    · exact h.rg i h1 c c0 c1
    · rw [show i = d by omega] at c1 ⊢
      have hk : of.getD d 0 < (k : Int) := by rcases h.bd d hd with e | e <;> omega
      obtain ⟨j, h2, h3⟩ := h.on c.toNat (by omega)
      exact ⟨j, h2, by rw [h3]; omega⟩
  · obtain ⟨i, h1, h2⟩ := h.on c hc
    exact ⟨i, by omega, h2⟩
theorem Sp.FSt.orb {st : List Int} {d k : Nat} {of : List Int} (h : Sp.FSt st d of k) (hp : Sp.Perm st) {i : Nat} (hi : i < st.length) : ∀ m, of.getD (itf (Sp.fn st) i m) 0 = of.getD i 0
  | 0 => rfl
  | m + 1 => by
    show of.getD (Sp.fn st (itf (Sp.fn st) i m)) 0 = _
    rw [h.inv _ (hp.fnP.it hi m), h.orb hp hi m]
theorem Sp.FSt.new {st : List Int} {d k : Nat} {of : List Int} (h : Sp.FSt st d of k) (hp : Sp.Perm st) (hd : d < st.length) (h0 : ¬ 0 ≤ of.getD d 0) : Sp.FSt st (d + 1) (Sp.paint k of (Sp.rounds st d (Sp.per st d))) (k + 1) := by
  have hpos : ∀ x ∈ Sp.rounds st d (Sp.per st d), 0 ≤ x := fun x hx => by
    obtain ⟨j, rfl, -⟩ := (hp.mem_rounds hd x).1 hx
    omega
  have hget : ∀ i, i < st.length → (OrbF (Sp.fn st) d i ∧ (Sp.paint k of (Sp.rounds st d (Sp.per st d))).getD i 0 = (k : Int) ∧ of.getD i 0 = -1) ∨ (¬ OrbF (Sp.fn st) d i ∧ (Sp.paint k of (Sp.rounds st d (Sp.per st d))).getD i 0 = of.getD i 0) := by
    intro i hi
    rw [Sp.paint_get k _ of i hpos (by rw [h.len]; exact hi)]
    by_cases ho : OrbF (Sp.fn st) d i
    · left
      refine ⟨ho, ?_, ?_⟩
      · rw [if_pos ((hp.mem_rounds hd _).2 ⟨i, rfl, ho⟩)]
      · have e : of.getD i 0 = of.getD d 0 := by obtain ⟨m, rfl⟩ := ho; exact h.orb hp hd m
        rcases h.bd d hd with e1 | e1
        · rw [e, e1]
        · omega
    · right
      refine ⟨ho, ?_⟩
      rw [if_neg (fun hm => by
        obtain ⟨j, e, o⟩ := (hp.mem_rounds hd _).1 hm
        have : i = j := by omega
        exact ho (this ▸ o))]
  have hdd := hget d hd
  have hdk : (Sp.paint k of (Sp.rounds st d (Sp.per st d))).getD d 0 = (k : Int) := by
    rcases hdd with e | e
    · exact e.2.1
    · exact absurd (OrbF.refl _ _) e.1
  refine ⟨by rw [Sp.paint_len]; exact h.len, fun i hi => ?_, fun i hi => ?_, fun i hi => ?_, fun i j hi hj hn e => ?_, fun i hi c c0 c1 => ?_, fun c hc => ?_⟩
  · rcases hget i hi with ⟨-, e, -⟩ | ⟨-, e⟩
    · right; rw [e]; omega
    · rw [e]; rcases h.bd i hi with e1 | e1
      · exact .inl e1
      · exact .inr ⟨e1.1, by omega⟩
  · rcases Nat.lt_or_ge i d with h1 | h1
    · rcases hget i (by omega) with ⟨-, e, -⟩ | ⟨-, e⟩
      · rw [e]; omega
      · rw [e]; exact h.done i h1
    · rw [show i = d by omega, hdk]; omega
  · have hfi := hp.fnP.mp i hi
    rcases hget i hi with ⟨o, e, -⟩ | ⟨o, e⟩
    · rcases hget _ hfi with ⟨-, e', -⟩ | ⟨o', -⟩
      · rw [e, e']
      · exact absurd (o.trans (OrbF.one _ i)) o'
    · rcases hget _ hfi with ⟨o', -, -⟩ | ⟨-, e'⟩
      · exact absurd (o'.trans (hp.sym hi (OrbF.one _ i))) o
      · rw [e, e']; exact h.inv i hi
  · rcases hget i hi with ⟨o, e1, -⟩ | ⟨o, e1⟩ <;> rcases hget j hj with ⟨o', e2, -⟩ | ⟨o', e2⟩
    · exact (hp.sym hd o).trans o'
    · rw [e1, e2] at e
      rcases h.bd j hj with e3 | e3 <;> omega
    · rw [e1, e2] at e
      rcases h.bd i hi with e3 | e3 <;> omega
    · rw [e1, e2] at e
      rw [e1] at hn
      exact h.sep i j hi hj hn e
  · rcases Nat.lt_or_ge i d with h1 | h1
    · rcases hget i (by omega) with ⟨-, -, e⟩ | ⟨-, e⟩
      · have := h.done i h1; omega
      · rw [e] at c1
        obtain ⟨j, h2, h3⟩ := h.rg i h1 c c0 c1
        refine ⟨j, h2, ?_⟩
        rcases hget j (by omega) with ⟨-, -, e'⟩ | ⟨-, e'⟩
        · omega
        · rw [e', h3]
    · rw [show i = d by omega] at c1 ⊢
      rw [hdk] at c1
      obtain ⟨j, h2, h3⟩ := h.on c.toNat (by omega)
      refine ⟨j, h2, ?_⟩
      rcases hget j (by omega) with ⟨-, -, e'⟩ | ⟨-, e'⟩
      · omega
      · rw [e', h3]; omega
  · by_cases hk : c = k
    · exact ⟨d, by omega, by rw [hdk, hk]⟩
    · obtain ⟨i, h1, h2⟩ := h.on c (by omega)
      refine ⟨i, by omega, ?_⟩
      rcases hget i (by omega) with ⟨-, -, e'⟩ | ⟨-, e'⟩
      · omega
      · rw [e', h2]
theorem Sp.faces2Go_st {st : List Int} (hp : Sp.Perm st) : ∀ f d of k, d + f = st.length → Sp.FSt st d of k → Sp.FSt st st.length (Sp.faces2Go st f d of k).1 (Sp.faces2Go st f d of k).2
  | 0, d, of, k, hd, h => by rw [show st.length = d by omega] ; exact h
  | f + 1, d, of, k, hd, h => by
    rw [Sp.faces2Go]
    by_cases h0 : 0 ≤ of.getD d 0
    · rw [if_pos h0]
      exact Sp.faces2Go_st hp f (d + 1) of k (by omega) (h.old (by omega) h0)
    · rw [if_neg h0]
      exact Sp.faces2Go_st hp f (d + 1) _ (k + 1) (by omega) (h.new hp (by omega) h0)
/-- What the reference's Faces tells: labels numbered by their first ones, that tell the rounds apart. -/
theorem Sp.faces2_st {q : Sp.Net} (hp : Sp.Perm q.next) (hl : q.next.length = q.tail.length) (hev : q.tail.length % 2 = 0) : Sp.FSt (Sp.behindL q.next) (Sp.behindL q.next).length (Sp.faces2 q).1 (Sp.faces2 q).2 := by
  have hb := hp.behind (by rw [hl]; exact hev)
  have hlb : (Sp.behindL q.next).length = q.tail.length := by rw [Sp.behindL_len, hl]
  unfold Sp.faces2
  refine Sp.faces2Go_st hb _ 0 _ 0 (by rw [hlb]; omega) ?_
  rw [← hlb]
  exact Sp.FSt.first _ hb
theorem Sp.FSt.num {st : List Int} {of : List Int} {k : Nat} (h : Sp.FSt st st.length of k) : Sp.Num of k := by
  refine ⟨⟨fun i hi => h.done i (by rw [← h.len]; exact hi), fun i hi => h.rg i (by rw [← h.len]; exact hi)⟩, fun i hi => ?_, fun c hc => ?_⟩
  · rw [h.len] at hi
    have := h.done i hi
    rcases h.bd i hi with e | e <;> omega
  · obtain ⟨i, h1, h2⟩ := h.on c hc
    exact ⟨i, by rw [h.len]; exact h1, h2⟩
theorem Sp.FSt.cls {st : List Int} {of : List Int} {k : Nat} (h : Sp.FSt st st.length of k) : Cls st.length (Sp.fn st) (fun i => (of.getD i 0).toNat) k := by
  have hb : ∀ i, i < st.length → 0 ≤ of.getD i 0 ∧ of.getD i 0 < (k : Int) := fun i hi => by
    have := h.done i hi
    rcases h.bd i hi with e | e <;> omega
  refine ⟨fun i hi => ?_, fun c hc => ?_, fun i hi => ?_, fun i j hi hj e => ?_⟩
  · have := hb i hi
    show (of.getD i 0).toNat < k
    omega
  · obtain ⟨i, h1, h2⟩ := h.on c hc
    exact ⟨i, h1, by show (of.getD i 0).toNat = c; omega⟩
  · show (of.getD (Sp.fn st i) 0).toNat = (of.getD i 0).toNat
    rw [h.inv i hi]
  · have e' : (of.getD i 0).toNat = (of.getD j 0).toNat := e
    have h1 := hb i hi
    have h2 := hb j hj
    exact h.sep i j hi hj h1.1 (by omega)
end Go.Proofs.Ytoegjnolccabjaa


