/- The walk of package rot: turning. -/
import Derived.Test.YtnkkgeammohemabS9
namespace Go.Proofs.Ytnkkgeammohemab
open Go Go.RowKit

theorem all_take_snoc' {α : Type} (p : α → Bool) (L : List α) (k : Nat) (h : k < L.length) : (L.take (k + 1)).all p = ((L.take k).all p && p L[k]) := by
  rw [List.take_succ_eq_append_getElem h, List.all_append]; simp
theorem owns_bool {w : World} {base g n : Nat} {l : List Bool} (h : OwnB w base (.slice (some ⟨g, 0, none⟩) n n) l) (hl : l.length = n) (d : Nat) (hd : d < n) : w.cell? ⟨g, d, none⟩ = some (.bool (l[d]'(by omega))) := by
  unfold OwnB at h
  rw [hl] at h
  rw [World.ownsRow.cellAt h d (by omega), List.getElem?_eq_getElem (by simp; omega)]
  simp
set_option maxRecDepth 100000 in
set_option maxHeartbeats 2000000 in
theorem turning_any (q : Sp.Net) (v tv nv cv : Value) (w : World) (hv : NetI w v q tv nv cv) (hq1 : q.tail.length = q.next.length) (hn : q.next.length ≤ 240) (hx : ∀ x ∈ q.next, 0 ≤ x ∧ x < (q.next.length : Int)) (hN0 : 0 ≤ q.n) (hN1 : q.n ≤ 60) (ht : ∀ x ∈ q.tail, 0 ≤ x ∧ x < q.n) :
    Calls Try.prog 27 #[v] w fun e w' => e = .returned (.bool (Sp.turningB q)) ∧ Below w.heap.size w w' := by
  obtain ⟨rfl, h1, h2, h3⟩ := hv
  obtain ⟨ta, tc, rfl, htc, htm, HT⟩ := h1.all
  have h2' := h2
  obtain ⟨na, nc, rfl, -, -⟩ := h2.form
  obtain ⟨ca, cc, rfl, -, -⟩ := h3.form
  clear h1 h2 h3
  obtain ⟨iB, hiB, hB0, hB1, hB2⟩ := info_parts infoB
  obtain ⟨N, hN⟩ : ∃ N : Nat, q.n = (N : Int) := ⟨q.n.toNat, by omega⟩
  rw [hN] at hN0 hN1 ht ⊢
  have HBX := hide (box_new w (N : Int) (.slice ta q.tail.length tc) (.slice na q.next.length nc) (.slice ca q.cap.length cc))
  obtain ⟨W1, hW1⟩ : ∃ W1, W1 = w.alloc (.cells #[.int .i64 (N : Int), .slice ta q.tail.length tc, .slice na q.next.length nc, .slice ca q.cap.length cc] 25) := ⟨_, rfl⟩
  rw [← hW1] at HBX
  have hb1 : Below w.heap.size w W1 := by rw [hW1]; exact (Below.refl _ w).alloc (Nat.le_refl _) _
  have hs1 : W1.heap.size = w.heap.size + 1 := by rw [hW1]; simp
  have HW : Hid (∀ w', Below (w.heap.size + 1) W1 w' → Below w.heap.size w w') := hide fun w' hb => hb1.trans (hb.mono (by omega))
  have HS1 := hide hs1
  have HN1 := hide (h2'.below hb1)
  have HX := hide hx
  have Ht := hide ht
  have Hq1 := hide hq1
  have hx2 := (unhide HBX W1 (Below.refl _ _)).2.2.1
  have Hq : Hid (Sp.turningB q = (Sp.turnGo q.tail (Sp.rndsD q.next).1 (Sp.rndsD q.next).2 [] && (Sp.rnds q.next).isSome)) := hide rfl
  generalize Sp.turningB q = R at *
  clear hb1 hs1 h2' hx ht hq1 hN
  subst hW1
  have HC := hide (rounds_any q.next _ (w.alloc (.cells #[.int .i64 (N : Int), .slice ta q.tail.length tc, .slice na q.next.length nc, .slice ca q.cap.length cc] 25)) (unhide HN1) hn (unhide HX))
  go_enter Try.func27, Try.ntmps27
  go_wp2_with fail
  go_at_call 35
  refine (unhide HC).mono ?_
  clear HC
  generalize w.alloc (.cells #[.int .i64 (N : Int), .slice ta q.tail.length tc, .slice na q.next.length nc, .slice ca q.cap.length cc] 25) = W1 at *
  intro e w2 hpost
  obtain ⟨lv, rfl, hb2, hpl, hpo, hls, hcells⟩ := hpost.one (unhide HX)
  clear hpost
  generalize (Sp.rndsD q.next).1 = row at *
  generalize (Sp.rndsD q.next).2 = ps at *
  generalize (Sp.rnds q.next).isSome = is at *
  rw [unhide HS1] at hb2 hls hcells
  have hle2 := hb2.size
  rw [unhide HS1] at hle2
  have Hb2 := hide hb2
  obtain ⟨la, lc, rfl, hlc, hlm, HL⟩ := owns_all hls
  have HPO := hide hpo
  have HCE := hide hcells
  obtain ⟨y0, y1, y2, y3, -⟩ := unhide HBX _ hb2
  clear hls hpo hcells hx2 y3 y2 y1
  go_wp2_with (at_make; refine wpList_make_full _ rfl _ _ 56 rfl w2.heap.size 4 iB (.bool false) 1 Try.underlying56 hiB hB0 hB1 .i64 .i64 _ _ N rfl rfl rfl rfl (by rw [hB2]; omega) (by unfold maxLen; omega) (Nat.le_refl _) ?_)
  intro w3 hown3 hg3
  have HO3 : Hid (OwnB w3 w2.heap.size (.slice (some ⟨w2.heap.size, 0, none⟩) N N) (Sp.metL N [])) := by
    refine hide ?_
    unfold OwnB
    rw [Sp.metL_nil, List.length_replicate, ← made_bools']
    exact hown3
  have hb3 : Below w2.heap.size w2 w3 := (Below.refl _ _).grown hg3 (Nat.le_refl _) (by simp)
  have HB3 := hide hb3
  clear hown3 hg3 hb3 y0 hb2
  go_wp2
  go_loopg [22] ps.length (fun g i wr => ∃ (k : Nat) (bg : List Int), k + g = ps.length ∧ i = .int .i64 (k : Int) ∧ Hid (Below w2.heap.size w2 wr ∧ OwnB wr w2.heap.size (.slice (some ⟨w2.heap.size, 0, none⟩) N N) (Sp.metL N bg) ∧ Sp.turnGo q.tail row ps [] = Sp.turnGo q.tail row (ps.drop k) bg))
  case atStart => exact ⟨0, [], by omega, rfl, hide ⟨unhide HB3, unhide HO3, by simp⟩⟩
  case round =>
    clear HO3 HB3
    obtain ⟨k, bg, hkg, rfl, HI⟩ := hrel
    cases gk with
    | zero =>
      obtain rfl : k = ps.length := by omega
      have HF : Hid (R = is) := by
        have := (unhide HI).2.2
        rw [List.drop_eq_nil_of_le (Nat.le_refl _), Sp.turnGo] at this
        rw [this] at Hq
        simpa using Hq
      have HBf : Hid (Below w.heap.size w wr) := hide (unhide HW _ ((unhide Hb2).trans ((unhide HI).1.mono (by omega))))
      go_wp2
      go_ret
      exact ⟨by rw [unhide HF]; rfl, unhide HBf⟩
    | succ g' =>
      have hlt : k < ps.length := by omega
      have hltI : (k : Int) < (ps.length : Int) := by omega
      have hpk := (unhide HPO).ok ps[k] (List.getElem_mem hlt)
      have HTG : Hid (Sp.turnGo q.tail row (ps.drop k) bg = Sp.turnGo q.tail row (ps[k] :: ps.drop (k + 1)) bg) := hide (by rw [← List.drop_eq_getElem_cons hlt])
      obtain ⟨lb, hla, hlbs, -, hlcell⟩ := unhide HL k (by simpa using hlt)
      subst hla
      have hlc1 := hlcell wr (unhide HI).1
      rw [List.getElem_map] at hlc1
      generalize ps[k] = pp at *
      obtain ⟨b, e⟩ := pp
      obtain ⟨hbe, herow⟩ := hpk
      simp only at hbe herow
      have hlc2 : wr.cell? ⟨lb, k, none⟩ = some (.slice (some ⟨w.heap.size + 1, b, none⟩) (e - b) (e - b)) := hlc1
      clear hlc1 hlcell
      have hBw : Below w.heap.size w wr := unhide HW _ ((unhide Hb2).trans ((unhide HI).1.mono (by omega)))
      have HBw := hide hBw
      have y1 := (unhide HBX _ ((unhide Hb2).trans ((unhide HI).1.mono (by omega)))).2.1
      have hrb : b < row.length := by omega
      have c1 := (unhide HCE b hrb wr (unhide HI).1).1
      have hbd := (unhide HPO).fit.bd row[b] (List.getElem_mem hrb)
      have HG1 : Hid (row.getD b 0 = row[b]) := hide (Sp.getD_eq _ _ hrb)
      generalize row[b] = rb at *
      obtain ⟨x, rfl⟩ : ∃ x : Nat, rb = (x : Int) := ⟨rb.toNat, by omega⟩
      have hxt : x < q.tail.length := by rw [unhide Hq1]; omega
      obtain ⟨tb, to', hta, -, htcell⟩ := unhide HT x hxt
      subst hta
      have c2 := htcell wr hBw
      have hbt := unhide Ht q.tail[x] (List.getElem_mem hxt)
      have HG2 : Hid (q.tail.getD (row.getD b 0).toNat 0 = q.tail[x]) := hide (by rw [unhide HG1, Int.toNat_natCast]; exact Sp.getD_eq _ _ hxt)
      generalize q.tail[x] = tx at *
      obtain ⟨vv, rfl⟩ : ∃ vv : Nat, tx = (vv : Int) := ⟨tx.toNat, by omega⟩
      have hvN : vv < N := by omega
      have hvI : (vv : Int) < (N : Int) := by omega
      have hxI : (x : Int) < (q.tail.length : Int) := by omega
      have c3 := owns_bool (unhide HI).2.1 (Sp.metL_len _ _) vv hvN
      rw [Sp.metL_get] at c3
      have f3 : wr.frozen? ⟨w2.heap.size, vv, none⟩ = false := by
        have h := (unhide HI).2.1
        unfold OwnB at h
        rw [Sp.metL_len] at h
        exact World.ownsRow.frozenAt h vv
      have hm0 : (0 : Int) < ((e - b : Nat) : Int) := by omega
      have hm00 : 0 < e - b := by omega
      have he240 : e ≤ 240 := by have := (unhide HPO).fit.le; omega
      have HTG2 : Hid (Sp.turnGo q.tail row ps [] = if (vv : Int) ∈ bg then false else if (Sp.piece row (b, e)).all (fun d => q.tail.getD d.toNat 0 == (vv : Int)) then Sp.turnGo q.tail row (ps.drop (k + 1)) (bg ++ [(vv : Int)]) else false) := by
        refine hide ?_
        rw [(unhide HI).2.2, unhide HTG, Sp.turnGo, unhide HG2]
      clear htcell HTG hbd hbt hBw
      by_cases hmem : (vv : Int) ∈ bg
      · rw [decide_eq_true hmem] at c3
        have HF : Hid (R = false) := by
          have h := unhide HTG2
          rw [if_pos hmem] at h
          rw [h] at Hq
          simpa using Hq
        clear hmem
        go_wp2
        go_quiet (fail)
        go_wp2
        go_ret
        exact ⟨by rw [unhide HF]; rfl, below_dn (unhide HBw) _⟩
      · rw [decide_eq_false hmem] at c3
        have HMem := hide hmem
        clear hmem
        go_wp2
        go_quiet (fail)
        go_wp2
        have HM : Hid (Below w2.heap.size w2 ((wr.drewN nq).setCell ⟨w2.heap.size, vv, none⟩ (.bool true)) ∧ OwnB ((wr.drewN nq).setCell ⟨w2.heap.size, vv, none⟩ (.bool true)) w2.heap.size (.slice (some ⟨w2.heap.size, 0, none⟩) N N) (Sp.metL N (bg ++ [(vv : Int)]))) := by
          refine hide ⟨(below_dn (unhide HI).1 nq).setCell (by exact Nat.le_refl _) _, ?_⟩
          have h := (unhide HI).2.1
          unfold OwnB at h ⊢
          rw [Sp.metL_len] at h ⊢
          have h2 : (wr.drewN nq).ownsRow w2.heap.size 4 1 (.slice (some ⟨w2.heap.size, 0, none⟩) N N) N ((Sp.metL N bg).map Value.bool) := h
          have h3 := (World.ownsRow.stored h2 vv (.bool true)).1
          rw [← Sp.metL_set, List.map_set]
          exact h3
        clear c1 c2 c3 f3 y1 hlc2 HBw
        generalize (wr.drewN nq).setCell ⟨w2.heap.size, vv, none⟩ (.bool true) = wm at *
        have HBw : Hid (Below w.heap.size w wm) := hide (unhide HW _ ((unhide Hb2).trans ((unhide HM).1.mono (by omega))))
        have y1 := (unhide HBX _ ((unhide Hb2).trans ((unhide HM).1.mono (by omega)))).2.1
        have HPL : Hid ((Sp.piece row (b, e)).length = e - b) := hide (Sp.piece_len herow)
        go_loop [42] (fun i => ∃ j : Nat, j ≤ e - b ∧ i = .int .i64 (j : Int) ∧ Hid (((Sp.piece row (b, e)).take j).all (fun d => q.tail.getD d.toNat 0 == (vv : Int)) = true)) (fun i => e - b - (intOf i).toNat)
        case atStart => exact ⟨0, by omega, rfl, hide rfl⟩
        case round =>
          obtain ⟨j, hj, rfl, HA⟩ := hrel
          by_cases hjl : j < e - b
          · have hjI : (j : Int) < ((e - b : Nat) : Int) := by omega
            have HJ := hide hjl
            have hrj : b + j < row.length := by omega
            have c1 := (unhide HCE (b + j) hrj wm (unhide HM).1).1
            have hbd := (unhide HPO).fit.bd row[b + j] (List.getElem_mem hrj)
            have HS : Hid (((Sp.piece row (b, e)).take (j + 1)).all (fun d => q.tail.getD d.toNat 0 == (vv : Int)) = (((Sp.piece row (b, e)).take j).all (fun d => q.tail.getD d.toNat 0 == (vv : Int)) && (q.tail.getD row[b + j].toNat 0 == (vv : Int)))) := hide (by
              rw [all_take_snoc' _ _ j (by rw [unhide HPL]; exact hjl), Sp.piece_get herow])
            have HX2 : Hid ((q.tail.getD row[b + j].toNat 0 == (vv : Int)) = false → (Sp.piece row (b, e)).all (fun d => q.tail.getD d.toNat 0 == (vv : Int)) = false) := hide (fun h => by
              rw [List.all_eq_false]
              refine ⟨_, List.getElem_mem (l := Sp.piece row (b, e)) (n := j) (by rw [unhide HPL]; exact hjl), ?_⟩
              rw [Sp.piece_get herow, h]; simp)
            generalize row[b + j] = rj at *
            obtain ⟨x2, rfl⟩ : ∃ x2 : Nat, rj = (x2 : Int) := ⟨rj.toNat, by omega⟩
            have hxt2 : x2 < q.tail.length := by rw [unhide Hq1]; omega
            obtain ⟨tb2, to2, hta, -, htcell⟩ := unhide HT x2 hxt2
            injection hta with hta
            injection hta with hta1 hta2
            subst hta1 hta2
            have c2 := htcell wm (unhide HBw)
            have HG : Hid (q.tail.getD (x2 : Int).toNat 0 = q.tail[x2]) := hide (by rw [Int.toNat_natCast]; exact Sp.getD_eq _ _ hxt2)
            have hx2I : (x2 : Int) < (q.tail.length : Int) := by omega
            rw [unhide HG] at HS HX2
            generalize q.tail[x2] = t2 at *
            clear htcell hbd
            by_cases hc : t2 = (vv : Int)
            · subst hc
              have hkk : (((vv : Int)) != (vv : Int)) = false := by simp
              have HN : Hid (((Sp.piece row (b, e)).take (j + 1)).all (fun d => q.tail.getD d.toNat 0 == (vv : Int)) = true) := hide (by rw [unhide HS, unhide HA]; simp)
              go_wp2
              go_round
              case rel => exact ⟨j + 1, unhide HJ, by go_num, HN⟩
              case measure =>
                simp [intOf]
                omega
            · have hkk : (t2 != (vv : Int)) = true := by simpa using hc
              have HF : Hid (R = false) := by
                have h := unhide HTG2
                rw [if_neg (unhide HMem), unhide HX2 (by simpa using hc)] at h
                rw [h] at Hq
                simpa using Hq
              go_wp2
              go_ret
              exact ⟨by rw [unhide HF]; rfl, unhide HBw⟩
          · obtain rfl : j = e - b := by omega
            have HTG3 : Hid (Sp.turnGo q.tail row ps [] = Sp.turnGo q.tail row (ps.drop (k + 1)) (bg ++ [(vv : Int)])) := by
              have h := unhide HTG2
              have hA := unhide HA
              rw [List.take_of_length_le (by rw [unhide HPL]; exact Nat.le_refl _)] at hA
              rw [if_neg (unhide HMem), hA] at h
              exact hide h
            go_wp2
            go_roundg g'
            case rel => exact ⟨k + 1, bg ++ [(vv : Int)], by omega, by go_num, hide ⟨(unhide HM).1, (unhide HM).2, unhide HTG3⟩⟩
            case measure => omega
end Go.Proofs.Ytnkkgeammohemab


