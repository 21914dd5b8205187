/- What the proof needs, part 4. -/
import Derived.Laws.CopyOwn
import Derived.Deep.RegionLaw
import Derived.Test.YtoegjnolccabjabL3
/- The walk of package rot: turning. -/
namespace Go.Proofs.Ytoegjnolccabjab
open Go Go.RowKit

theorem all_take_snoc' {α : Type} (p : α → Bool) (L : List α) (k : Nat) (h : k < L.length) : (L.take (k + 1)).all p = ((L.take k).all p && p L[k]) := by
  rw [List.take_succ_eq_append_getElem h, List.all_append]; simp
theorem owns_bool {w : World} {base g n : Nat} {l : List Bool} (h : OwnB w base (.slice (some ⟨g, 0, none⟩) n n) l) (hl : l.length = n) (d : Nat) (hd : d < n) : w.cell? ⟨g, d, none⟩ = some (.bool (l[d]'(by omega))) := by
  unfold OwnB at h
  rw [hl] at h
  rw [World.ownsRow.cellAt h d (by omega), List.getElem?_eq_getElem (by simp; omega)]
  simp
set_option maxRecDepth 100000 in
set_option maxHeartbeats 2000000 in
theorem turning_any (q : Sp.Net) (v tv nv cv : Value) (w : World) (hv : NetI w v q tv nv cv) (hq1 : q.tail.length = q.next.length) (hn : q.next.length ≤ 240) (hx : ∀ x ∈ q.next, 0 ≤ x ∧ x < (q.next.length : Int)) (hN0 : 0 ≤ q.n) (hN1 : q.n ≤ 60) (ht : ∀ x ∈ q.tail, 0 ≤ x ∧ x < q.n) :
    Calls Try.prog 74 #[v] w fun e w' => e = .returned (.bool (Sp.turningB q)) ∧ Below w.heap.size w w' := by
  obtain ⟨rfl, h1, h2, h3⟩ := hv
  obtain ⟨ta, tc, rfl, htc, htm, HT⟩ := h1.all
  have h2' := h2
  obtain ⟨na, nc, rfl, -, -⟩ := h2.form
  obtain ⟨ca, cc, rfl, -, -⟩ := h3.form
  clear h1 h2 h3
  obtain ⟨iB, hiB, hB0, hB1, hB2⟩ := info_parts infoB
  obtain ⟨N, hN⟩ : ∃ N : Nat, q.n = (N : Int) := ⟨q.n.toNat, by omega⟩
  rw [hN] at hN0 hN1 ht ⊢
  have HBX := hide (box_new w (N : Int) (.slice ta q.tail.length tc) (.slice na q.next.length nc) (.slice ca q.cap.length cc))
  obtain ⟨W1, hW1⟩ : ∃ W1, W1 = w.alloc (.cells #[.int .i64 (N : Int), .slice ta q.tail.length tc, .slice na q.next.length nc, .slice ca q.cap.length cc] 26) := ⟨_, rfl⟩
  rw [← hW1] at HBX
  have hb1 : Below w.heap.size w W1 := by rw [hW1]; exact (Below.refl _ w).alloc (Nat.le_refl _) _
  have hs1 : W1.heap.size = w.heap.size + 1 := by rw [hW1]; simp
  have HW : Hid (∀ w', Below (w.heap.size + 1) W1 w' → Below w.heap.size w w') := hide fun w' hb => hb1.trans (hb.mono (by omega))
  have HS1 := hide hs1
  have HN1 := hide (h2'.below hb1)
  have HX := hide hx
  have Ht := hide ht
  have Hq1 := hide hq1
  have hx2 := (unhide HBX W1 (Below.refl _ _)).2.2.1
  have Hq : Hid (Sp.turningB q = (Sp.turnGo q.tail (Sp.rndsD q.next).1 (Sp.rndsD q.next).2 [] && (Sp.rnds q.next).isSome)) := hide rfl
  generalize Sp.turningB q = R at *
  clear hb1 hs1 h2' hx ht hq1 hN
  subst hW1
  have HC := hide (rounds_any q.next _ (w.alloc (.cells #[.int .i64 (N : Int), .slice ta q.tail.length tc, .slice na q.next.length nc, .slice ca q.cap.length cc] 26)) (unhide HN1) hn (unhide HX))
  go_enter Try.func74, Try.ntmps74
  go_wp2_with fail
  go_at_call 88
  refine (unhide HC).mono ?_
  clear HC
  generalize w.alloc (.cells #[.int .i64 (N : Int), .slice ta q.tail.length tc, .slice na q.next.length nc, .slice ca q.cap.length cc] 26) = W1 at *
  intro e w2 hpost
  obtain ⟨lv, rfl, hb2, hpl, hpo, hls, hcells⟩ := hpost.one (unhide HX)
  clear hpost
  generalize (Sp.rndsD q.next).1 = row at *
  generalize (Sp.rndsD q.next).2 = ps at *
  generalize (Sp.rnds q.next).isSome = is at *
  rw [unhide HS1] at hb2 hls hcells
  have hle2 := hb2.size
  rw [unhide HS1] at hle2
  have Hb2 := hide hb2
  obtain ⟨la, lc, rfl, hlc, hlm, HL⟩ := owns_all hls
  have HPO := hide hpo
  have HCE := hide hcells
  obtain ⟨y0, y1, y2, y3, -⟩ := unhide HBX _ hb2
  clear hls hpo hcells hx2 y3 y2 y1
  go_wp2_with (at_make; refine wpList_make_full _ rfl _ _ 118 rfl w2.heap.size 4 iB (.bool false) 1 Try.underlying118 hiB hB0 hB1 .i64 .i64 _ _ N rfl rfl rfl rfl (by rw [hB2]; omega) (by unfold maxLen; omega) (Nat.le_refl _) ?_)
  intro w3 hown3 hg3
  have HO3 : Hid (OwnB w3 w2.heap.size (.slice (some ⟨w2.heap.size, 0, none⟩) N N) (Sp.metL N [])) := by
    refine hide ?_
    unfold OwnB
    rw [Sp.metL_nil, List.length_replicate, ← made_bools']
    exact hown3
  have hb3 : Below w2.heap.size w2 w3 := (Below.refl _ _).grown hg3 (Nat.le_refl _) (by simp)
  have HB3 := hide hb3
  clear hown3 hg3 hb3 y0 hb2
  go_wp2
  go_loopg [22] ps.length (fun g i wr => ∃ (k : Nat) (bg : List Int), k + g = ps.length ∧ i = .int .i64 (k : Int) ∧ Hid (Below w2.heap.size w2 wr ∧ OwnB wr w2.heap.size (.slice (some ⟨w2.heap.size, 0, none⟩) N N) (Sp.metL N bg) ∧ Sp.turnGo q.tail row ps [] = Sp.turnGo q.tail row (ps.drop k) bg))
  case atStart => exact ⟨0, [], by omega, rfl, hide ⟨unhide HB3, unhide HO3, by simp⟩⟩
  case round =>
    clear HO3 HB3
    obtain ⟨k, bg, hkg, rfl, HI⟩ := hrel
    cases gk with
    | zero =>
      obtain rfl : k = ps.length := by omega
      have HF : Hid (R = is) := by
        have := (unhide HI).2.2
        rw [List.drop_eq_nil_of_le (Nat.le_refl _), Sp.turnGo] at this
        rw [this] at Hq
        simpa using Hq
      have HBf : Hid (Below w.heap.size w wr) := hide (unhide HW _ ((unhide Hb2).trans ((unhide HI).1.mono (by omega))))
      go_wp2
      go_ret
      exact ⟨by rw [unhide HF]; rfl, unhide HBf⟩
    | succ g' =>
      have hlt : k < ps.length := by omega
      have hltI : (k : Int) < (ps.length : Int) := by omega
      have hpk := (unhide HPO).ok ps[k] (List.getElem_mem hlt)
      have HTG : Hid (Sp.turnGo q.tail row (ps.drop k) bg = Sp.turnGo q.tail row (ps[k] :: ps.drop (k + 1)) bg) := hide (by rw [← List.drop_eq_getElem_cons hlt])
      obtain ⟨lb, hla, hlbs, -, hlcell⟩ := unhide HL k (by simpa using hlt)
      subst hla
      have hlc1 := hlcell wr (unhide HI).1
      rw [List.getElem_map] at hlc1
      generalize ps[k] = pp at *
      obtain ⟨b, e⟩ := pp
      obtain ⟨hbe, herow⟩ := hpk
      simp only at hbe herow
      have hlc2 : wr.cell? ⟨lb, k, none⟩ = some (.slice (some ⟨w.heap.size + 1, b, none⟩) (e - b) (e - b)) := hlc1
      clear hlc1 hlcell
      have hBw : Below w.heap.size w wr := unhide HW _ ((unhide Hb2).trans ((unhide HI).1.mono (by omega)))
      have HBw := hide hBw
      have y1 := (unhide HBX _ ((unhide Hb2).trans ((unhide HI).1.mono (by omega)))).2.1
      have hrb : b < row.length := by omega
      have c1 := (unhide HCE b hrb wr (unhide HI).1).1
      have hbd := (unhide HPO).fit.bd row[b] (List.getElem_mem hrb)
      have HG1 : Hid (row.getD b 0 = row[b]) := hide (Sp.getD_eq _ _ hrb)
      generalize row[b] = rb at *
      obtain ⟨x, rfl⟩ : ∃ x : Nat, rb = (x : Int) := ⟨rb.toNat, by omega⟩
      have hxt : x < q.tail.length := by rw [unhide Hq1]; omega
      obtain ⟨tb, to', hta, -, htcell⟩ := unhide HT x hxt
      subst hta
      have c2 := htcell wr hBw
      have hbt := unhide Ht q.tail[x] (List.getElem_mem hxt)
      have HG2 : Hid (q.tail.getD (row.getD b 0).toNat 0 = q.tail[x]) := hide (by rw [unhide HG1, Int.toNat_natCast]; exact Sp.getD_eq _ _ hxt)
      generalize q.tail[x] = tx at *
      obtain ⟨vv, rfl⟩ : ∃ vv : Nat, tx = (vv : Int) := ⟨tx.toNat, by omega⟩
      have hvN : vv < N := by omega
      have hvI : (vv : Int) < (N : Int) := by omega
      have hxI : (x : Int) < (q.tail.length : Int) := by omega
      have c3 := owns_bool (unhide HI).2.1 (Sp.metL_len _ _) vv hvN
      rw [Sp.metL_get] at c3
      have f3 : wr.frozen? ⟨w2.heap.size, vv, none⟩ = false := by
        have h := (unhide HI).2.1
        unfold OwnB at h
        rw [Sp.metL_len] at h
        exact World.ownsRow.frozenAt h vv
      have hm0 : (0 : Int) < ((e - b : Nat) : Int) := by omega
      have hm00 : 0 < e - b := by omega
      have he240 : e ≤ 240 := by have := (unhide HPO).fit.le; omega
      have HTG2 : Hid (Sp.turnGo q.tail row ps [] = if (vv : Int) ∈ bg then false else if (Sp.piece row (b, e)).all (fun d => q.tail.getD d.toNat 0 == (vv : Int)) then Sp.turnGo q.tail row (ps.drop (k + 1)) (bg ++ [(vv : Int)]) else false) := by
        refine hide ?_
        rw [(unhide HI).2.2, unhide HTG, Sp.turnGo, unhide HG2]
      clear htcell HTG hbd hbt hBw
      by_cases hmem : (vv : Int) ∈ bg
      · rw [decide_eq_true hmem] at c3
        have HF : Hid (R = false) := by
          have h := unhide HTG2
          rw [if_pos hmem] at h
          rw [h] at Hq
          simpa using Hq
        clear hmem
        go_wp2
        go_quiet (fail)
        go_wp2
        go_ret
        exact ⟨by rw [unhide HF]; rfl, below_dn (unhide HBw) _⟩
      · rw [decide_eq_false hmem] at c3
        have HMem := hide hmem
        clear hmem
        go_wp2
        go_quiet (fail)
        go_wp2
        have HM : Hid (Below w2.heap.size w2 ((wr.drewN nq).setCell ⟨w2.heap.size, vv, none⟩ (.bool true)) ∧ OwnB ((wr.drewN nq).setCell ⟨w2.heap.size, vv, none⟩ (.bool true)) w2.heap.size (.slice (some ⟨w2.heap.size, 0, none⟩) N N) (Sp.metL N (bg ++ [(vv : Int)]))) := by
          refine hide ⟨(below_dn (unhide HI).1 nq).setCell (by exact Nat.le_refl _) _, ?_⟩
          have h := (unhide HI).2.1
          unfold OwnB at h ⊢
          rw [Sp.metL_len] at h ⊢
          have h2 : (wr.drewN nq).ownsRow w2.heap.size 4 1 (.slice (some ⟨w2.heap.size, 0, none⟩) N N) N ((Sp.metL N bg).map Value.bool) := h
          have h3 := (World.ownsRow.stored h2 vv (.bool true)).1
          rw [← Sp.metL_set, List.map_set]
          exact h3
        clear c1 c2 c3 f3 y1 hlc2 HBw
        generalize (wr.drewN nq).setCell ⟨w2.heap.size, vv, none⟩ (.bool true) = wm at *
        have HBw : Hid (Below w.heap.size w wm) := hide (unhide HW _ ((unhide Hb2).trans ((unhide HM).1.mono (by omega))))
        have y1 := (unhide HBX _ ((unhide Hb2).trans ((unhide HM).1.mono (by omega)))).2.1
        have HPL : Hid ((Sp.piece row (b, e)).length = e - b) := hide (Sp.piece_len herow)
        go_loop [42] (fun i => ∃ j : Nat, j ≤ e - b ∧ i = .int .i64 (j : Int) ∧ Hid (((Sp.piece row (b, e)).take j).all (fun d => q.tail.getD d.toNat 0 == (vv : Int)) = true)) (fun i => e - b - (intOf i).toNat)
        case atStart => exact ⟨0, by omega, rfl, hide rfl⟩
        case round =>
          obtain ⟨j, hj, rfl, HA⟩ := hrel
          by_cases hjl : j < e - b
          · have hjI : (j : Int) < ((e - b : Nat) : Int) := by omega
            have HJ := hide hjl
            have hrj : b + j < row.length := by omega
            have c1 := (unhide HCE (b + j) hrj wm (unhide HM).1).1
            have hbd := (unhide HPO).fit.bd row[b + j] (List.getElem_mem hrj)
            have HS : Hid (((Sp.piece row (b, e)).take (j + 1)).all (fun d => q.tail.getD d.toNat 0 == (vv : Int)) = (((Sp.piece row (b, e)).take j).all (fun d => q.tail.getD d.toNat 0 == (vv : Int)) && (q.tail.getD row[b + j].toNat 0 == (vv : Int)))) := hide (by
              rw [all_take_snoc' _ _ j (by rw [unhide HPL]; exact hjl), Sp.piece_get herow])
            have HX2 : Hid ((q.tail.getD row[b + j].toNat 0 == (vv : Int)) = false → (Sp.piece row (b, e)).all (fun d => q.tail.getD d.toNat 0 == (vv : Int)) = false) := hide (fun h => by
              rw [List.all_eq_false]
              refine ⟨_, List.getElem_mem (l := Sp.piece row (b, e)) (n := j) (by rw [unhide HPL]; exact hjl), ?_⟩
              rw [Sp.piece_get herow, h]; simp)
            generalize row[b + j] = rj at *
            obtain ⟨x2, rfl⟩ : ∃ x2 : Nat, rj = (x2 : Int) := ⟨rj.toNat, by omega⟩
            have hxt2 : x2 < q.tail.length := by rw [unhide Hq1]; omega
            obtain ⟨tb2, to2, hta, -, htcell⟩ := unhide HT x2 hxt2
            injection hta with hta
            injection hta with hta1 hta2
            subst hta1 hta2
            have c2 := htcell wm (unhide HBw)
            have HG : Hid (q.tail.getD (x2 : Int).toNat 0 = q.tail[x2]) := hide (by rw [Int.toNat_natCast]; exact Sp.getD_eq _ _ hxt2)
            have hx2I : (x2 : Int) < (q.tail.length : Int) := by omega
            rw [unhide HG] at HS HX2
            generalize q.tail[x2] = t2 at *
            clear htcell hbd
            by_cases hc : t2 = (vv : Int)
            · subst hc
              have hkk : (((vv : Int)) != (vv : Int)) = false := by simp
              have HN : Hid (((Sp.piece row (b, e)).take (j + 1)).all (fun d => q.tail.getD d.toNat 0 == (vv : Int)) = true) := hide (by rw [unhide HS, unhide HA]; simp)
              go_wp2
              go_round
              case rel => exact ⟨j + 1, unhide HJ, by go_num, HN⟩
              case measure =>
                simp [intOf]
                omega
            · have hkk : (t2 != (vv : Int)) = true := by simpa using hc
              have HF : Hid (R = false) := by
                have h := unhide HTG2
                rw [if_neg (unhide HMem), unhide HX2 (by simpa using hc)] at h
                rw [h] at Hq
                simpa using Hq
              go_wp2
              go_ret
              exact ⟨by rw [unhide HF]; rfl, unhide HBw⟩
          · obtain rfl : j = e - b := by omega
            have HTG3 : Hid (Sp.turnGo q.tail row ps [] = Sp.turnGo q.tail row (ps.drop (k + 1)) (bg ++ [(vv : Int)])) := by
              have h := unhide HTG2
              have hA := unhide HA
              rw [List.take_of_length_le (by rw [unhide HPL]; exact Nat.le_refl _)] at hA
              rw [if_neg (unhide HMem), hA] at h
              exact hide h
            go_wp2
            go_roundg g'
            case rel => exact ⟨k + 1, bg ++ [(vv : Int)], by omega, by go_num, hide ⟨(unhide HM).1, (unhide HM).2, unhide HTG3⟩⟩
            case measure => omega
end Go.Proofs.Ytoegjnolccabjab


/- The walk of package rot: Faces. -/
namespace Go.Proofs.Ytoegjnolccabjab
open Go Go.RowKit

structure WalkQ (q : Sp.Net) : Prop where
  n1 : q.n ≤ 60
  n0 : 0 ≤ q.n
  big : q.tail.length ≤ 240
  ev : q.tail.length % 2 = 0
  nx : q.next.length = q.tail.length
  cp : q.cap.length = q.tail.length
  nb : ∀ x ∈ q.next, 0 ≤ x ∧ x < (q.next.length : Int)
  tb : ∀ x ∈ q.tail, 0 ≤ x ∧ x < q.n
theorem walkQ {q : Sp.Net} (h : Sp.walkB q = true) : WalkQ q := by
  simp only [Sp.walkB, Sp.fewB, Sp.matchedB, Sp.placedB, Bool.and_eq_true, decide_eq_true_eq, List.all_eq_true, Sp.inB] at h
  obtain ⟨⟨h1, h2⟩, ⟨⟨h3, h4, h5⟩, h6⟩, h7, h8⟩ := h
  exact ⟨h1, h8, h2, h3, h4, h5, fun x hx => by rw [h4]; exact h6 x hx, h7⟩
theorem walkB_of {q : Sp.Net} (h : WalkQ q) : Sp.walkB q = true := by
  simp only [Sp.walkB, Sp.fewB, Sp.matchedB, Sp.placedB, Bool.and_eq_true, decide_eq_true_eq, List.all_eq_true, Sp.inB]
  exact ⟨⟨h.n1, h.big⟩, ⟨⟨h.ev, h.nx, h.cp⟩, fun x hx => by rw [← h.nx]; exact h.nb x hx⟩, h.tb, h.n0⟩
def Sp.paint (k : Int) (of : List Int) (ds : List Int) : List Int := ds.foldl (fun o d => o.set d.toNat k) of
theorem Sp.paint_len (k : Int) : ∀ (ds of : List Int), (Sp.paint k of ds).length = of.length
  | [], _ => rfl
  | d :: r, of => by
    show (Sp.paint k (of.set d.toNat k) r).length = _
    rw [Sp.paint_len k r]; simp
def Sp.facesGo (row : List Int) : List (Nat × Nat) → Nat → List Int → List Int
  | [], _, of => of
  | p :: r, k, of => Sp.facesGo row r (k + 1) (Sp.paint k of (Sp.piece row p))
/-- Each dart's face. -/
def Sp.facesL (q : Sp.Net) : List Int := Sp.facesGo (Sp.rndsD (Sp.behindL q.next)).1 (Sp.rndsD (Sp.behindL q.next)).2 0 (List.replicate q.tail.length 0)
def Sp.facesN (q : Sp.Net) : Nat := max (Sp.rndsD (Sp.behindL q.next)).2.length 1
theorem ret_tup (a : Value) {x y : Int} (h : x = y) : Ending.returned (.tuple #[a, .int .i64 x]) = Ending.returned (.tuple #[a, .int .i64 y]) := by rw [h]
set_option maxRecDepth 100000 in
set_option maxHeartbeats 2000000 in
theorem faces_any (q : Sp.Net) (v tv nv cv : Value) (w : World) (hv : NetI w v q tv nv cv) (hw : Sp.walkB q = true) :
    Calls Try.prog 77 #[v] w fun e w' => ∃ fv, e = .returned (.tuple #[fv, .int .i64 ((Sp.facesN q : Nat) : Int)]) ∧ OwnI w' w.heap.size fv (Sp.facesL q) ∧ Below w.heap.size w w' := by
  have hq := walkQ hw
  have hv' := hv
  obtain ⟨rfl, h1, h2, h3⟩ := hv
  obtain ⟨ta, tc, rfl, htc, htm⟩ := h1.form
  obtain ⟨na, nc, rfl, -, -⟩ := h2.form
  obtain ⟨ca, cc, rfl, -, -⟩ := h3.form
  clear h1 h2 h3
  have HBX := hide (box_new w q.n (.slice ta q.tail.length tc) (.slice na q.next.length nc) (.slice ca q.cap.length cc))
  obtain ⟨W1, hW1⟩ : ∃ W1, W1 = w.alloc (.cells #[.int .i64 q.n, .slice ta q.tail.length tc, .slice na q.next.length nc, .slice ca q.cap.length cc] 26) := ⟨_, rfl⟩
  rw [← hW1] at HBX
  have hb1 : Below w.heap.size w W1 := by rw [hW1]; exact (Below.refl _ w).alloc (Nat.le_refl _) _
  have hs1 : W1.heap.size = w.heap.size + 1 := by rw [hW1]; simp
  have HW : Hid (∀ w', Below (w.heap.size + 1) W1 w' → Below w.heap.size w w') := hide fun w' hb => hb1.trans (hb.mono (by omega))
  have HS1 := hide hs1
  have HV : Hid (∀ w', Below (w.heap.size + 1) W1 w' → NetI w' (.agg #[.int .i64 q.n, .slice ta q.tail.length tc, .slice na q.next.length nc, .slice ca q.cap.length cc]) q (.slice ta q.tail.length tc) (.slice na q.next.length nc) (.slice ca q.cap.length cc)) := hide fun w' hb => hv'.below (unhide HW _ hb)
  have HC1 := hide (rwalkable_any q _ _ _ _ W1 (unhide HV W1 (Below.refl _ _)))
  rw [hw] at HC1
  have Hb := Sp.behindL_bd q.next (by rw [hq.nx]; exact hq.ev) hq.nb
  have Hl := Sp.behindL_len q.next
  have HQ := hide hq
  have hbig := hq.big
  have HF1 : Hid (Sp.facesL q = Sp.facesGo (Sp.rndsD (Sp.behindL q.next)).1 (Sp.rndsD (Sp.behindL q.next)).2 0 (List.replicate q.tail.length 0)) := hide rfl
  have HF2 : Hid (Sp.facesN q = max (Sp.rndsD (Sp.behindL q.next)).2.length 1) := hide rfl
  generalize Sp.facesL q = R at *
  generalize Sp.facesN q = RN at *
  have HBD : Hid (∀ x ∈ Sp.behindL q.next, 0 ≤ x ∧ x < ((Sp.behindL q.next).length : Int)) := hide (by rw [Hl]; exact Hb)
  have HLN := hide Hl
  obtain ⟨x0, x1, x2, x3, -⟩ := unhide HBX W1 (Below.refl _ _)
  clear hb1 hs1 hv' hw hq Hb Hl
  obtain ⟨P, hP⟩ : ∃ P : Ending → World → Prop, P = fun e w' => ∃ fv, e = .returned (.tuple #[fv, .int .i64 ((RN : Nat) : Int)]) ∧ OwnI w' w.heap.size fv R ∧ Below w.heap.size w w' := ⟨_, rfl⟩
  rw [← hP]
  have HP := hide hP
  clear hP
  subst hW1
  go_enter Try.func77, Try.ntmps77
  go_wp2_with fail
  go_at_call 79
  refine (unhide HC1).mono ?_
  clear HC1 x0 x1 x2 x3
  generalize w.alloc (.cells #[.int .i64 q.n, .slice ta q.tail.length tc, .slice na q.next.length nc, .slice ca q.cap.length cc] 26) = W1 at *
  rintro e w2 ⟨rfl, hb2⟩
  rw [unhide HS1] at hb2
  obtain ⟨x0, x1, x2, x3, hsz2⟩ := unhide HBX w2 hb2
  have HC2 := hide (behind_any q _ _ _ _ w2 (unhide HV w2 hb2) (by rw [(unhide HQ).nx]; exact (unhide HQ).ev) (by rw [(unhide HQ).nx]; exact (unhide HQ).big))
  have Hb2 := hide hb2
  clear hb2
  go_wp2_with fail
  go_at_call 81
  refine (unhide HC2).mono ?_
  clear HC2
  rintro e w3 ⟨sv, rfl, hown3, hb3⟩
  have hown3' : OwnI w3 w2.heap.size sv (Sp.behindL q.next) := hown3
  have HC3 := hide (rounds_any (Sp.behindL q.next) sv w3 hown3'.ints (by rw [unhide HLN, (unhide HQ).nx]; exact (unhide HQ).big) (unhide HBD))
  have Hb3 : Hid (Below (w.heap.size + 1) W1 w3) := hide ((unhide Hb2).trans (hb3.mono hsz2))
  have hsz3 := Nat.le_trans hsz2 hb3.size
  clear hown3 hown3' hb3 x0 x1 x2 x3
  go_wp2_with fail
  go_at_call 88
  refine (unhide HC3).mono ?_
  clear HC3
  intro e w4 hpost
  obtain ⟨lv, rfl, hb4, hpl, hpo, hls, hcells⟩ := hpost.one (unhide HBD)
  clear hpost
  generalize (Sp.rndsD (Sp.behindL q.next)).1 = row at *
  generalize (Sp.rndsD (Sp.behindL q.next)).2 = ps at *
  generalize (Sp.rnds (Sp.behindL q.next)).isSome = is at *
  rw [unhide HLN, (unhide HQ).nx] at hpl hpo
  have Hb4 : Hid (Below (w.heap.size + 1) W1 w4) := hide ((unhide Hb3).trans (hb4.mono hsz3))
  have hsz4 := Nat.le_trans hsz3 hb4.size
  obtain ⟨la, lc, rfl, hlc, hlm, HL⟩ := owns_all hls
  have HPO := hide hpo
  have HCE := hide hcells
  obtain ⟨x0, x1, x2, x3, -⟩ := unhide HBX w4 (unhide Hb4)
  clear hls hpo hcells hb4 x0 x2 x3
  go_wp2_with (at_make; refine wpList_mk rfl _ _ rfl w4.heap.size q.tail.length rfl rfl (by omega) (Nat.le_refl _) ?_)
  intro w5 hown5 hb5 hlt5
  have HO5 := hide hown5
  have HB5 := hide hb5
  clear hown5 hlt5 hb5 x1
  obtain ⟨n, hn⟩ : ∃ n, q.tail.length = n := ⟨_, rfl⟩
  rw [hn] at HF1 HO5 HPO hbig htc hpl ⊢
  clear hn
  go_wp2
  go_loopg [26] ps.length (fun g i wr => ∃ (k : Nat) (L : List Int), k + g = ps.length ∧ i = .int .i64 (k : Int) ∧ Hid (L.length = n ∧ Below w4.heap.size w4 wr ∧ OwnI wr w4.heap.size (.slice (some ⟨w4.heap.size, 0, none⟩) n n) L ∧ R = Sp.facesGo row (ps.drop k) k L))
  case atStart => exact ⟨0, _, by omega, rfl, hide ⟨List.length_replicate, unhide HB5, unhide HO5, unhide HF1⟩⟩
  case round =>
    clear HO5 HB5
    obtain ⟨k, L, hkg, rfl, HI⟩ := hrel
    cases gk with
    | zero =>
      obtain rfl : k = ps.length := by omega
      have HF : Hid (R = L) := by
        have := (unhide HI).2.2.2
        rw [List.drop_eq_nil_of_le (Nat.le_refl _), Sp.facesGo] at this
        exact hide this
      have HBf : Hid (Below w.heap.size w wr) := hide (unhide HW _ ((unhide Hb4).trans ((unhide HI).2.1.mono (by omega))))
      go_wp2
      all_goals
        rw [unhide HP]
        exact ⟨_, ret_tup _ (by rw [unhide HF2]; omega), by rw [unhide HF]; exact own_base (unhide HI).2.2.1 (by omega), unhide HBf⟩
    | succ g' =>
      have hlt : k < ps.length := by omega
      have hltI : (k : Int) < (ps.length : Int) := by omega
      have hpk := (unhide HPO).ok ps[k] (List.getElem_mem hlt)
      have HTG : Hid (R = Sp.facesGo row (ps.drop (k + 1)) (k + 1) (Sp.paint k L (Sp.piece row ps[k]))) := hide (by
        have h := (unhide HI).2.2.2
        rw [List.drop_eq_getElem_cons hlt, Sp.facesGo] at h
        exact h)
      obtain ⟨lb, hla, hlbs, -, hlcell⟩ := unhide HL k (by simpa using hlt)
      subst hla
      have hlc1 := hlcell wr (unhide HI).2.1
      rw [List.getElem_map] at hlc1
      generalize ps[k] = pp at *
      obtain ⟨b, e⟩ := pp
      obtain ⟨hbe, herow⟩ := hpk
      simp only at hbe herow
      have hlc2 : wr.cell? ⟨lb, k, none⟩ = some (.slice (some ⟨w3.heap.size, b, none⟩) (e - b) (e - b)) := hlc1
      have he240 : e ≤ 240 := by have := (unhide HPO).fit.le; omega
      have HPL : Hid ((Sp.piece row (b, e)).length = e - b) := hide (Sp.piece_len herow)
      clear hlc1 hlcell
      go_wp2
      clear hlc2
      go_loopg [33] (e - b) (fun g i wr => ∃ (j : Nat) (L2 : List Int), j + g = e - b ∧ i = .int .i64 (j : Int) ∧ Hid (L2.length = n ∧ Below w4.heap.size w4 wr ∧ OwnI wr w4.heap.size (.slice (some ⟨w4.heap.size, 0, none⟩) n n) L2 ∧ Sp.paint k L (Sp.piece row (b, e)) = Sp.paint k L2 ((Sp.piece row (b, e)).drop j)))
      case atStart => exact ⟨0, L, by omega, rfl, hide ⟨(unhide HI).1, (unhide HI).2.1, (unhide HI).2.2.1, rfl⟩⟩
      case round =>
        obtain ⟨j, L2, hjg, rfl, HJ⟩ := hrel
        cases gk with
        | zero =>
          obtain rfl : j = e - b := by omega
          have HN : Hid (R = Sp.facesGo row (ps.drop (k + 1)) (k + 1) L2) := by
            have h := (unhide HJ).2.2.2
            rw [List.drop_eq_nil_of_le (by rw [unhide HPL]; exact Nat.le_refl _)] at h
            have h2 := unhide HTG
            rw [h] at h2
            exact hide h2
          go_wp2
          go_roundg g'
          case rel => exact ⟨k + 1, L2, by omega, by go_num, hide ⟨(unhide HJ).1, (unhide HJ).2.1, (unhide HJ).2.2.1, unhide HN⟩⟩
          case measure => omega
        | succ g2 =>
          have hjl : j < e - b := by omega
          have hjI : (j : Int) < ((e - b : Nat) : Int) := by omega
          have hrj : b + j < row.length := by omega
          have c1 := (unhide HCE (b + j) hrj wr (unhide HJ).2.1).1
          have hbd := (unhide HPO).fit.bd row[b + j] (List.getElem_mem hrj)
          have HN : Hid (Sp.paint k L (Sp.piece row (b, e)) = Sp.paint k (L2.set row[b + j].toNat k) ((Sp.piece row (b, e)).drop (j + 1))) := by
            have h := (unhide HJ).2.2.2
            rw [List.drop_eq_getElem_cons (by rw [unhide HPL]; exact hjl), Sp.piece_get herow] at h
            exact hide h
          generalize row[b + j] = rj at *
          obtain ⟨x, rfl⟩ : ∃ x : Nat, rj = (x : Int) := ⟨rj.toNat, by omega⟩
          rw [Int.toNat_natCast] at HN
          have hxn : x < n := by omega
          have hxI : (x : Int) < (n : Int) := by omega
          have f1 := own_frozen (unhide HJ).2.2.1 x
          have c2 := own_cell (unhide HJ).2.2.1 x (by rw [(unhide HJ).1]; exact hxn)
          generalize L2[x]'_ = z at *
          clear hbd
          go_wp2
          go_roundg g2
          case rel => exact ⟨j + 1, L2.set x k, by omega, by go_num, hide ⟨by rw [List.length_set]; exact (unhide HJ).1, (unhide HJ).2.1.setCell (by exact Nat.le_refl _) _, own_setCell (unhide HJ).2.2.1 x k, unhide HN⟩⟩
          case measure => omega
end Go.Proofs.Ytoegjnolccabjab


/- The walks of the library's bits.Mul and slices.Repeat, as far as they are called. -/
namespace Go.Proofs.Ytoegjnolccabjab
open Go Go.RowKit

theorem and_mask : ∀ d : Fin 61, bits .and .u64 ((d.val : Nat) : Int) 4294967295 = ((d.val : Nat) : Int) := by decide +kernel
set_option maxRecDepth 100000 in
set_option maxHeartbeats 1000000 in
theorem mul64_any (N : Nat) (w : World) (hN : N ≤ 60) :
    Calls Try.prog 91 #[.int .u64 1, .int .u64 (N : Int)] w fun e w' => e = .returned (.tuple #[.int .u64 0, .int .u64 (N : Int)]) ∧ w' = w := by
  have h1 := and_mask ⟨N, by omega⟩
  simp only at h1
  have h2 : bits .and .u64 1 4294967295 = 1 := by decide +kernel
  have h3 : bits .and .u64 0 4294967295 = 0 := by decide +kernel
  have h4 : (N : Int) / 4294967296 = 0 := by omega
  have h5 : IntKind.u64.wrap (N : Int) = (N : Int) := by simp [IntKind.wrap, IntKind.bits]; omega
  have h6 : IntKind.u64.wrap 0 = 0 := by decide +kernel
  obtain ⟨P, hP⟩ : ∃ P : Ending → World → Prop, P = fun e w' => e = .returned (.tuple #[.int .u64 0, .int .u64 (N : Int)]) ∧ w' = w := ⟨_, rfl⟩
  rw [← hP]
  have HP := hide hP
  clear hP
  go_enter Try.func91, Try.ntmps91
  go_wp2
  rw [unhide HP]
  exact ⟨rfl, rfl⟩
set_option maxRecDepth 100000 in
set_option maxHeartbeats 1000000 in
theorem mul_any (N : Nat) (w : World) (hN : N ≤ 60) :
    Calls Try.prog 78 #[.int .u64 1, .int .u64 (N : Int)] w fun e w' => e = .returned (.tuple #[.int .u64 0, .int .u64 (N : Int)]) ∧ w' = w := by
  have HC := hide (mul64_any N w hN)
  obtain ⟨P, hP⟩ : ∃ P : Ending → World → Prop, P = fun e w' => e = .returned (.tuple #[.int .u64 0, .int .u64 (N : Int)]) ∧ w' = w := ⟨_, rfl⟩
  rw [← hP]
  have HP := hide hP
  clear hP
  go_enter Try.func78, Try.ntmps78
  go_wp2_with fail
  go_at_call 91
  refine (unhide HC).mono ?_
  rintro e w' ⟨rfl, rfl⟩
  go_wp2
  rw [unhide HP]
  exact ⟨rfl, rfl⟩
theorem own_heap {w : World} {B g n : Nat} {l : List Int} (h : OwnI w B (.slice (some ⟨g, 0, none⟩) n n) l) (hl : l.length = n) : w.heap[g]? = some (.cells (l.map (Value.int .i64)).toArray 3 (0, 0)) ∧ B ≤ g := by
  obtain ⟨h1, ⟨h2, -⟩ | ⟨g', cap, cur, e, hg, hh, hnc, hcm, hsz, htk⟩⟩ := h
  · cases h2
  · injection e with e1 e2 e3
    injection e1 with e1
    injection e1 with e1 _
    subst e1 e3
    rw [hl] at e2 hnc htk
    have : cur.toList = l.map (Value.int .i64) := by
      rw [← htk, List.take_of_length_le]
      simp; omega
    rw [← this]
    exact ⟨by simpa using hh, hg⟩
theorem own_of_heap {w : World} {B g n : Nat} {l : List Int} (h : w.heap[g]? = some (.cells (l.map (Value.int .i64)).toArray 3 (0, 0))) (hl : l.length = n) (hB : B ≤ g) (hn : n ≤ 1000000) : OwnI w B (.slice (some ⟨g, 0, none⟩) n n) l := by
  subst hl
  exact ⟨by simp, .inr ⟨g, l.length, _, rfl, hB, h, Nat.le_refl _, by unfold maxLen; omega, by simp, by rw [List.take_of_length_le (by simp)]⟩⟩
theorem splice_rep (N m c : Nat) (x : Int) (h : m + c ≤ N) : splice ((List.replicate m x ++ List.replicate (N - m) (0 : Int)).map (Value.int .i64)) m ((List.replicate c x).map (Value.int .i64)) = (List.replicate (m + c) x ++ List.replicate (N - (m + c)) (0 : Int)).map (Value.int .i64) := by
  unfold splice
  rw [List.map_append, List.take_left' (by simp), List.drop_append]
  simp only [List.length_replicate, List.map_replicate, List.map_append, List.drop_replicate]
  rw [show m - (m + c) = 0 by omega, show N - m - (m + c - m) = N - (m + c) by omega, List.replicate_zero, List.nil_append, ← List.append_assoc, List.replicate_append_replicate]
theorem run_copy_rep (w : World) (B g m N : Nat) (x : Int) (hm : m < N) (hN : N ≤ 60) (hB : B ≤ g) (hO : OwnI w B (.slice (some ⟨g, 0, none⟩) N N) (List.replicate m x ++ List.replicate (N - m) (0 : Int))) :
    ∃ w4, (Builtin.copy_ #[22, 22] 3 #[.slice (some ⟨g, m, none⟩) (N - m) (N - m), .slice (some ⟨g, 0, none⟩) m N]).run Try.prog w = .ok (.int .i64 ((min m (N - m) : Nat) : Int)) w4 ∧ OwnI w4 B (.slice (some ⟨g, 0, none⟩) N N) (List.replicate (m + min m (N - m)) x ++ List.replicate (N - (m + min m (N - m))) (0 : Int)) ∧ Below B w w4 := by
  have hszI : (Try.prog.info? 3).map (·.size) = some 1 := by kernel_rfl
  have hh := (own_heap hO (by simp; omega)).1
  have hsp := splice_rep N m (min m (N - m)) x (by omega)
  have h := run_copy_row (P := Try.prog) w 22 22 3 3 g m (N - m) (N - m) ⟨g, 0, none⟩ m N _ 3 ((List.replicate (min m (N - m)) x).map (Value.int .i64)) Try.underlying22 hszI hh (by simp)
    (fun j v hj => by
      obtain ⟨hj1, hj2⟩ := List.getElem?_eq_some_iff.1 hj
      simp only [List.length_map, List.length_replicate] at hj1
      rw [← hj2]
      simp only [List.getElem_map, List.getElem_replicate, Addr.add_lit, Nat.zero_add]
      have h := own_cell hO j (by simp; omega)
      rw [List.getElem_append_left (by simp; omega), List.getElem_replicate] at h
      exact h) (by simp; omega) (ints_oneCell _ _)
  have hl : ((List.replicate (min m (N - m)) x).map (Value.int .i64)).length = min m (N - m) := by simp
  rw [hl] at h
  refine ⟨_, h, own_of_heap ?_ (by simp; omega) hB (by omega), below_setRow (Below.refl _ _) hB _⟩
  rw [setRow_heap w g _ _ _ _ hh, ← hsp, splice, hl, List.append_assoc]
set_option maxRecDepth 100000 in
set_option maxHeartbeats 1000000 in
theorem repeat_any (x : Int) (xb N : Nat) (w : World) (hN : N ≤ 60) (hc : w.cell? ⟨xb, 0, none⟩ = some (.int .i64 x)) (hxb : xb < w.heap.size) :
    Calls Try.prog 50 #[.slice (some ⟨xb, 0, none⟩) 1 1, .int .i64 (N : Int)] w fun e w' => e = .returned (.slice (some ⟨w.heap.size, 0, none⟩) N N) ∧ OwnI w' w.heap.size (.slice (some ⟨w.heap.size, 0, none⟩) N N) (List.replicate N x) ∧ Below w.heap.size w w' := by
  have HC := hide (mul_any N w hN)
  have Hc := hide hc
  clear hc
  have h5 : IntKind.u64.wrap (N : Int) = (N : Int) := by simp [IntKind.wrap, IntKind.bits]; omega
  have hszI : (Try.prog.info? 3).map (·.size) = some 1 := by kernel_rfl
  have HsI := hide hszI
  clear hszI
  go_enter Try.func50, Try.ntmps50
  go_wp2_with fail
  go_at_call 78
  refine (unhide HC).mono ?_
  clear HC
  rintro e w' ⟨rfl, rfl⟩
  go_wp2_with (at_make; refine wpList_mk rfl _ _ rfl w'.heap.size N rfl rfl (by omega) (Nat.le_refl _) ?_)
  intro w3 hown3 hb3 hlt3
  have HO3 := hide hown3
  have HB3 := hide hb3
  clear hown3 hb3 hlt3
  obtain ⟨cs, hcs⟩ : ∃ cs, cs = List.replicate (min 1 N) x := ⟨_, rfl⟩
  have hcl : cs.length = min 1 N := by rw [hcs]; simp
  have HCL1 : Hid ((cs.map (Value.int .i64)).length = Nat.min 1 N) := hide (by rw [List.length_map]; exact hcl)
  have HCL2 : Hid (0 + (cs.map (Value.int .i64)).length ≤ ((List.replicate N (0 : Int)).map (Value.int .i64)).length) := hide (by rw [List.length_map, List.length_map, List.length_replicate, hcl]; omega)
  have HPOS : Hid (0 < (cs.map (Value.int .i64)).length → some (⟨w'.heap.size, 0, none⟩ : Addr) = some ⟨w'.heap.size, 0, none⟩ ∧ ∃ ad, some (⟨xb, 0, none⟩ : Addr) = some ad ∧ ∀ j v, (cs.map (Value.int .i64))[j]? = some v → w3.cell? (ad.add j) = some v) := by
    refine hide fun _ => ⟨rfl, _, rfl, ?_⟩
    intro j v hj
    obtain ⟨hj1, hj2⟩ := List.getElem?_eq_some_iff.1 hj
    rw [List.length_map, hcl] at hj1
    have hj0 : j = 0 := by omega
    subst hj0 hcs
    rw [← hj2]
    simp only [List.getElem_map, List.getElem_replicate, Addr.add_lit]
    exact ((unhide HB3).cell (by exact hxb)).trans (unhide Hc)
  have HSP : Hid (splice ((List.replicate N (0 : Int)).map (Value.int .i64)) 0 (cs.map (Value.int .i64)) = (List.replicate (min 1 N) x ++ List.replicate (N - min 1 N) (0 : Int)).map (Value.int .i64)) := by
    have h := splice_rep N 0 (min 1 N) x (by omega)
    simp only [List.replicate_zero, List.nil_append, Nat.sub_zero, Nat.zero_add] at h
    rw [hcs]
    exact hide h
  have HCL3 : Hid (((cs.map (Value.int .i64)).length : Int) = ((min 1 N : Nat) : Int)) := hide (by rw [List.length_map, hcl])
  have HONE : Hid (∀ v ∈ cs.map (Value.int .i64), v.oneCell' = true) := hide (ints_oneCell _ _)
  have HOH := hide (own_heap (unhide HO3) (by simp)).1
  clear hcs hcl HO3
  generalize cs.map (Value.int .i64) = cv at *
  generalize (List.replicate N (0 : Int)).map (Value.int .i64) = zv at *
  go_wp2_with ((refine wpList_copy_splice rfl _ _ 22 22 rfl 3 Try.underlying22 (unhide HsI) (some ⟨w'.heap.size, 0, none⟩) (some ⟨xb, 0, none⟩) N N 1 1 rfl rfl w'.heap.size 0 zv 3 (unhide HOH) cv (unhide HCL1) (unhide HPOS) (unhide HCL2) (unhide HONE) w'.heap.size w' (unhide HB3) (Nat.le_refl _) ?_))
  intro w4 hh4 hb4
  rw [unhide HSP] at hh4
  have HO4 : Hid (OwnI w4 w'.heap.size (.slice (some ⟨w'.heap.size, 0, none⟩) N N) (List.replicate (min 1 N) x ++ List.replicate (N - min 1 N) (0 : Int))) := hide (own_of_heap (unhide hh4) (by simp; omega) (Nat.le_refl _) (by omega))
  have HB4 := hide hb4
  have hcvl : (cv.length : Int) = ((min 1 N : Nat) : Int) := unhide HCL3
  rw [hcvl]
  clear hh4 hb4 HOH HONE HSP HPOS HCL1 HCL2 HCL3 HB3 hcvl
  have hm1 : (1 ≤ min 1 N ∨ N = 0) ∧ min 1 N ≤ N := by omega
  generalize min 1 N = m0 at *
  go_wp2
  go_loopg [8] N (fun g i wr => ∃ m : Nat, (1 ≤ m ∨ N = 0) ∧ m ≤ N ∧ N - m ≤ g ∧ i = .int .i64 (m : Int) ∧ Hid (OwnI wr w'.heap.size (.slice (some ⟨w'.heap.size, 0, none⟩) N N) (List.replicate m x ++ List.replicate (N - m) (0 : Int)) ∧ Below w'.heap.size w' wr))
  case atStart => exact ⟨m0, hm1.1, hm1.2, by omega, rfl, hide ⟨unhide HO4, unhide HB4⟩⟩
  case round =>
    clear HO4 HB4 hm1
    obtain ⟨m, hm1, hmN, hmg, rfl, HI⟩ := hrel
    by_cases hlt : m < N
    · have hltI : (m : Int) < (N : Int) := by omega
      obtain ⟨c, hc⟩ : ∃ c, c = min m (N - m) := ⟨_, rfl⟩
      obtain ⟨w4, hrun, hown4, hb4⟩ := run_copy_rep wr.drew w'.heap.size w'.heap.size m N x hlt hN (Nat.le_refl _) (own_drew (unhide HI).1)
      rw [← hc] at hrun hown4
      have HO4 := hide hown4
      have HB4 : Hid (Below w'.heap.size w' w4) := hide ((unhide HI).2.drew.trans hb4)
      have Hc := hide hc
      have hne1 : ¬ N = m := by omega
      have hcb : c ≤ N - m := by omega
      have hc1 : 1 ≤ c := by omega
      clear hown4 hb4 hc
      go_wp2
      go_region
      go_wp2
      go_roundg (N - (m + c))
      case rel => exact ⟨m + c, by omega, by omega, by omega, by go_num, hide ⟨unhide HO4, unhide HB4⟩⟩
      case measure => omega
    · obtain rfl : m = N := by omega
      have HF : Hid (OwnI wr w'.heap.size (.slice (some ⟨w'.heap.size, 0, none⟩) m m) (List.replicate m x)) := by
        have h := (unhide HI).1
        simp only [Nat.sub_self, List.replicate_zero, List.append_nil] at h
        exact hide h
      go_wp2
      go_ret
      exact ⟨rfl, unhide HF, (unhide HI).2⟩
end Go.Proofs.Ytoegjnolccabjab


/- The walk of package rot: Parts. -/
namespace Go.Proofs.Ytoegjnolccabjab
open Go Go.RowKit

/-- From one vertex that was found: its darts by number. -/
def Sp.spreadGo (tl : List Int) (f p : Int) : Nat → Nat → List Int → List Int → List Int × List Int
  | 0, _, of, fd => (of, fd)
  | c + 1, d, of, fd => if tl.getD d 0 = f ∧ of.getD (tl.getD (Sp.oth d) 0).toNat 0 = -1 then Sp.spreadGo tl f p c (d + 1) (of.set (tl.getD (Sp.oth d) 0).toNat p) (fd ++ [tl.getD (Sp.oth d) 0]) else Sp.spreadGo tl f p c (d + 1) of fd
/-- One piece: the vertices found, in their order. -/
def Sp.floodGo (tl : List Int) (p : Int) : Nat → Nat → List Int → List Int → List Int
  | 0, _, of, _ => of
  | g + 1, i, of, fd => if i < fd.length then Sp.floodGo tl p g (i + 1) (Sp.spreadGo tl (fd.getD i 0) p tl.length 0 of fd).1 (Sp.spreadGo tl (fd.getD i 0) p tl.length 0 of fd).2 else of
def Sp.partsGo (tl : List Int) (N : Nat) : Nat → Nat → List Int → Nat → List Int × Nat
  | 0, _, of, p => (of, p)
  | c + 1, v, of, p => if of.getD v 0 = -1 then Sp.partsGo tl N c (v + 1) (Sp.floodGo tl p (N + 1) 0 (of.set v p) [(v : Int)]) (p + 1) else Sp.partsGo tl N c (v + 1) of p
/-- Of which piece each vertex is; how many there are. -/
def Sp.pieces (q : Sp.Net) : List Int × Nat := Sp.partsGo q.tail q.n.toNat q.n.toNat 0 (List.replicate q.n.toNat (-1)) 0
structure PKeep (B O N : Nat) (W wr : World) (of : List Int) : Prop where
  len : of.length = N
  own : OwnI wr B (.slice (some ⟨O, 0, none⟩) N N) of
  bel : Below B W wr
  lt : O < wr.heap.size
  ge : B ≤ O
structure FKeep (O N : Nat) (wr : World) (of fd : List Int) (fv : Value) : Prop where
  own : OwnI wr (O + 1) fv fd
  fit : RFit N fd
  set : ∀ x ∈ fd, of.getD x.toNat 0 ≠ -1
theorem PKeep.below {B O N : Nat} {W wr w5 : World} {of : List Int} (h : PKeep B O N W wr of) (hb : Below wr.heap.size wr w5) : PKeep B O N W w5 of :=
  ⟨h.len, own_below h.own hb, h.bel.trans (hb.mono (by have := h.lt; have := h.ge; omega)), Nat.lt_of_lt_of_le h.lt hb.size, h.ge⟩
theorem own_apart {w w' : World} {B O n c : Nat} {l : List Int} (h : OwnI w B (.slice (some ⟨O, 0, none⟩) n c) l) (hb : Below (O + 1) w w') : OwnI w' B (.slice (some ⟨O, 0, none⟩) n c) l := by
  obtain ⟨hx, ⟨hv, -⟩ | ⟨g, cap, cur, hv, hg, hh, r⟩⟩ := h
  · cases hv
  · refine ⟨hx, .inr ⟨g, cap, cur, hv, hg, ?_, r⟩⟩
    injection hv with h1
    injection h1 with h1
    injection h1 with h1 _
    rw [hb.block g (by omega)]
    exact hh
theorem PKeep.apart {B O N : Nat} {W wr w5 : World} {of : List Int} (h : PKeep B O N W wr of) (hb : Below (O + 1) wr w5) : PKeep B O N W w5 of :=
  ⟨h.len, own_apart h.own hb, h.bel.trans (hb.mono (by have := h.ge; omega)), Nat.lt_of_lt_of_le h.lt hb.size, h.ge⟩
theorem PKeep.set {B O N : Nat} {W wr : World} {of : List Int} (h : PKeep B O N W wr of) (x : Nat) (p : Int) : PKeep B O N W (wr.setCell ⟨O, x, none⟩ (.int .i64 p)) (of.set x p) :=
  ⟨by rw [List.length_set]; exact h.len, own_setCell h.own x p, h.bel.setCell (by exact h.ge) _, by simpa using h.lt, h.ge⟩
theorem FKeep.below {O N : Nat} {wr w5 : World} {of fd : List Int} {fv : Value} (h : FKeep O N wr of fd fv) (hb : Below wr.heap.size wr w5) : FKeep O N w5 of fd fv :=
  ⟨own_below h.own hb, h.fit, h.set⟩
theorem getD_set_ne' (l : List Int) (i j : Nat) (p : Int) (h : l.getD i 0 ≠ -1) (hp : p ≠ -1) : (l.set j p).getD i 0 ≠ -1 := by
  by_cases hij : j = i
  · subst hij
    rcases Nat.lt_or_ge j l.length with hl | hl
    · rw [List.getD_eq_getElem?_getD, List.getElem?_set_self hl]; exact hp
    · rw [List.set_eq_of_length_le hl]; exact h
  · rw [List.getD_eq_getElem?_getD, List.getElem?_set_ne hij, ← List.getD_eq_getElem?_getD]; exact h
theorem getD_set_self' (l : List Int) (j : Nat) (p : Int) (hl : j < l.length) : (l.set j p).getD j 0 = p := by
  rw [List.getD_eq_getElem?_getD, List.getElem?_set_self hl]; rfl
set_option maxRecDepth 100000 in
set_option maxHeartbeats 2000000 in
theorem parts_any (q : Sp.Net) (v tv nv cv : Value) (w : World) (hv : NetI w v q tv nv cv) (hw : Sp.walkB q = true) :
    Calls Try.prog 76 #[v] w fun e w' => ∃ pv, e = .returned (.tuple #[pv, .int .i64 (((Sp.pieces q).2 : Nat) : Int)]) ∧ OwnI w' w.heap.size pv (Sp.pieces q).1 ∧ Below w.heap.size w w' := by
  have hq := walkQ hw
  have hv' := hv
  obtain ⟨rfl, h1, h2, h3⟩ := hv
  obtain ⟨ta, tc, rfl, htc, htm, HT⟩ := h1.all
  obtain ⟨na, nc, rfl, -, -⟩ := h2.form
  obtain ⟨ca, cc, rfl, -, -⟩ := h3.form
  clear h1 h2 h3
  obtain ⟨N, hN⟩ : ∃ N : Nat, q.n = (N : Int) := ⟨q.n.toNat, by have := hq.n0; omega⟩
  have hN60 : N ≤ 60 := by have := hq.n1; omega
  have hRp : Sp.pieces q = Sp.partsGo q.tail N N 0 (List.replicate N (-1)) 0 := by unfold Sp.pieces; rw [hN, Int.toNat_natCast]
  have HRp := hide hRp
  have HTB : Hid (∀ x ∈ q.tail, 0 ≤ x ∧ x < (N : Int)) := hide (by rw [← hN]; exact hq.tb)
  rw [hN] at hv' ⊢
  clear hRp
  have HBX := hide (box_new w (N : Int) (.slice ta q.tail.length tc) (.slice na q.next.length nc) (.slice ca q.cap.length cc))
  obtain ⟨W1, hW1⟩ : ∃ W1, W1 = w.alloc (.cells #[.int .i64 (N : Int), .slice ta q.tail.length tc, .slice na q.next.length nc, .slice ca q.cap.length cc] 26) := ⟨_, rfl⟩
  rw [← hW1] at HBX
  have hb1 : Below w.heap.size w W1 := by rw [hW1]; exact (Below.refl _ w).alloc (Nat.le_refl _) _
  have hs1 : W1.heap.size = w.heap.size + 1 := by rw [hW1]; simp
  have HW : Hid (∀ w', Below (w.heap.size + 1) W1 w' → Below w.heap.size w w') := hide fun w' hb => hb1.trans (hb.mono (by omega))
  have HS1 := hide hs1
  have HV : Hid (∀ w', Below (w.heap.size + 1) W1 w' → NetI w' (.agg #[.int .i64 (N : Int), .slice ta q.tail.length tc, .slice na q.next.length nc, .slice ca q.cap.length cc]) q (.slice ta q.tail.length tc) (.slice na q.next.length nc) (.slice ca q.cap.length cc)) := hide fun w' hb => hv'.below (unhide HW _ hb)
  have HC1 := hide (rwalkable_any q _ _ _ _ W1 (unhide HV W1 (Below.refl _ _)))
  rw [hw] at HC1
  have HQ := hide hq
  have hbig := hq.big
  obtain ⟨P, hP⟩ : ∃ P : Ending → World → Prop, P = fun e w' => ∃ pv, e = .returned (.tuple #[pv, .int .i64 (((Sp.pieces q).2 : Nat) : Int)]) ∧ OwnI w' w.heap.size pv (Sp.pieces q).1 ∧ Below w.heap.size w w' := ⟨_, rfl⟩
  rw [← hP]
  have HP := hide hP
  obtain ⟨x0, x1, x2, x3, -⟩ := unhide HBX W1 (Below.refl _ _)
  clear hb1 hs1 hv' hw hq hP hN
  subst hW1
  go_enter Try.func76, Try.ntmps76
  go_wp2_with fail
  go_at_call 79
  refine (unhide HC1).mono ?_
  clear HC1 x0 x1 x2 x3
  generalize w.alloc (.cells #[.int .i64 (N : Int), .slice ta q.tail.length tc, .slice na q.next.length nc, .slice ca q.cap.length cc] 26) = W1 at *
  rintro e w2 ⟨rfl, hb2⟩
  rw [unhide HS1] at hb2
  obtain ⟨x0, x1, x2, x3, hsz2⟩ := unhide HBX w2 hb2
  have hb3 : Below (w.heap.size + 1) W1 (w2.alloc (.cells #[.int .i64 (-1)] 3)) := hb2.alloc hsz2 _
  have y0 := (unhide HBX _ hb3).1
  have HC2 := hide (repeat_any (-1) w2.heap.size N (w2.alloc (.cells #[.int .i64 (-1)] 3)) hN60 (own_cell (own_lit w2 0 w2.heap.size 1 [-1] rfl rfl (Nat.zero_le _) (by simp)) 0 (by simp)) (by simp))
  have Hb3 := hide hb3
  clear hb3 hb2 x1 x2 x3
  go_wp2_with fail
  go_at_call 50
  refine (unhide HC2).mono ?_
  clear HC2
  have hsz3 : w.heap.size + 1 ≤ (w2.alloc (.cells #[.int .i64 (-1)] 3)).heap.size := by simp; omega
  generalize w2.alloc (.cells #[.int .i64 (-1)] 3) = w3 at *
  rintro e w4 ⟨rfl, hown4, hb4⟩
  have HK0 : Hid (PKeep (w.heap.size + 1) w3.heap.size N W1 w4 (List.replicate N (-1))) := hide ⟨List.length_replicate, own_base hown4 hsz3, (unhide Hb3).trans (hb4.mono hsz3), (hown4.lt w3.heap.size rfl).2, hsz3⟩
  generalize w3.heap.size = O at *
  clear hown4 hb4 x0 y0
  obtain ⟨n, hn⟩ : ∃ n, q.tail.length = n := ⟨_, rfl⟩
  rw [hn] at hbig htc HBX HV ⊢
  have Hn := hide hn
  clear hn
  go_wp2
  go_loopg [5, 21] N (fun g s5 i wr => ∃ (k p : Nat) (of : List Int), k + g = N ∧ p ≤ k ∧ s5 = .int .i64 (p : Int) ∧ i = .int .i64 (k : Int) ∧ Hid (PKeep (w.heap.size + 1) O N W1 wr of ∧ Sp.pieces q = Sp.partsGo q.tail N g k of p))
  case atStart => exact ⟨0, 0, _, by omega, by omega, rfl, rfl, hide ⟨unhide HK0, unhide HRp⟩⟩
  case round =>
    clear HK0
    obtain ⟨k, p, of, hkg, hpk, rfl, rfl, HI⟩ := hrel
    cases gk with
    | zero =>
      obtain rfl : k = N := by omega
      have HF : Hid (Sp.pieces q = (of, p)) := hide (unhide HI).2
      go_wp2
      rw [unhide HP]
      exact ⟨_, by rw [unhide HF]; rfl, by rw [unhide HF]; exact own_base (unhide HI).1.own (by omega), unhide HW _ (unhide HI).1.bel⟩
    | succ g' =>
      have hlt : k < N := by omega
      have hltI : (k : Int) < (N : Int) := by omega
      have c1 := own_cell (unhide HI).1.own k (by rw [(unhide HI).1.len]; exact hlt)
      have f1 := own_frozen (unhide HI).1.own k
      have HG : Hid (of.getD k 0 = of[k]'(by rw [(unhide HI).1.len]; exact hlt)) := hide (Sp.getD_eq _ _ _)
      generalize of[k]'_ = z at *
      by_cases hz : z = -1
      · subst hz
        have HR2 : Hid (Sp.pieces q = Sp.partsGo q.tail N g' (k + 1) (Sp.floodGo q.tail p (N + 1) 0 (of.set k p) [(k : Int)]) (p + 1)) := hide (by rw [(unhide HI).2, Sp.partsGo, if_pos (unhide HG)])
        obtain ⟨FL, hFL⟩ : ∃ FL, FL = Sp.floodGo q.tail p (N + 1) 0 (of.set k p) [(k : Int)] := ⟨_, rfl⟩
        rw [← hFL] at HR2
        have HFL := hide hFL
        have hkk : ((-1 : Int) != (-1 : Int)) = false := by simp
        clear hFL
        have HK1 : Hid (PKeep (w.heap.size + 1) O N W1 ((wr.setCell ⟨O, k, none⟩ (.int .i64 (p : Int))).alloc (.cells #[.int .i64 (k : Int)] 3)) (of.set k p)) := hide (((unhide HI).1.set k p).below ((Below.refl _ _).alloc (Nat.le_refl _) _))
        have HF1 : Hid (FKeep O N ((wr.setCell ⟨O, k, none⟩ (.int .i64 (p : Int))).alloc (.cells #[.int .i64 (k : Int)] 3)) (of.set k p) [(k : Int)] (.slice (some ⟨wr.heap.size, 0, none⟩) 1 1)) := by
          have hlt2 := (unhide HI).1.lt
          refine hide ⟨own_lit (wr.setCell ⟨O, k, none⟩ (.int .i64 (p : Int))) (O + 1) wr.heap.size 1 [(k : Int)] (by simp) rfl (by simp; omega) (by simp), ⟨by simp, ?_⟩, ?_⟩
          · intro x hx
            rw [List.mem_singleton] at hx
            subst hx; omega
          · intro x hx
            rw [List.mem_singleton] at hx
            subst hx
            rw [Int.toNat_natCast, getD_set_self' _ _ _ (by rw [(unhide HI).1.len]; exact hlt)]
            omega
        go_wp2
        clear c1 f1 hkk
        generalize (wr.setCell ⟨O, k, none⟩ (.int .i64 (p : Int))).alloc (.cells #[.int .i64 (k : Int)] 3) = wm at *
        generalize wr.heap.size = gf at *
        go_loopg [7, 8] (N + 1) (fun g s7 i wr => ∃ (i' : Nat) (of2 fd : List Int) (fv : Value), fv = s7 ∧ i' + g = N + 1 ∧ i' ≤ fd.length ∧ i = .int .i64 (i' : Int) ∧ Hid (PKeep (w.heap.size + 1) O N W1 wr of2 ∧ FKeep O N wr of2 fd fv ∧ FL = Sp.floodGo q.tail p g i' of2 fd))
        case atStart => exact ⟨0, _, [(k : Int)], _, rfl, by omega, by omega, rfl, hide ⟨unhide HK1, unhide HF1, unhide HFL⟩⟩
        case round =>
          clear HK1 HF1 HFL
          obtain ⟨i', of2, fd, fv, rfl, hig, hil, rfl, HJ⟩ := hrel
          have hfN := (unhide HJ).2.1.fit.le
          obtain ⟨fa, fc, rfl, hfc, hfm⟩ := (unhide HJ).2.1.own.ints.form
          obtain ⟨lf, hlf⟩ : ∃ lf, fd.length = lf := ⟨_, rfl⟩
          rw [hlf] at hil hfN hfc HJ ⊢
          have Hlf := hide hlf
          clear hlf
          obtain ⟨g2, rfl⟩ : ∃ g2, gk = g2 + 1 := ⟨gk - 1, by omega⟩
          by_cases hi2 : i' < lf
          · have hi2I : (i' : Int) < (lf : Int) := by omega
            obtain ⟨x0, x1, x2, x3, -⟩ := unhide HBX _ (unhide HJ).1.bel
            obtain ⟨SP, hSP⟩ : ∃ SP, SP = Sp.spreadGo q.tail (fd.getD i' 0) p n 0 of2 fd := ⟨_, rfl⟩
            have HR3 : Hid (FL = Sp.floodGo q.tail p g2 (i' + 1) SP.1 SP.2) := by
              have h := (unhide HJ).2.2
              rw [Sp.floodGo, if_pos (by rw [unhide Hlf]; exact hi2), unhide Hn, ← hSP] at h
              exact hide h
            have hfx := (unhide HJ).2.1.fit.bd (fd.getD i' 0) (Sp.getD_mem (by rw [unhide Hlf]; exact hi2))
            obtain ⟨f, hf⟩ : ∃ f : Nat, fd.getD i' 0 = (f : Int) := ⟨(fd.getD i' 0).toNat, by omega⟩
            rw [hf] at hSP
            have HSP := hide hSP
            have Hf := hide hf
            clear hSP hf hfx
            go_wp2
            go_loopg [7, 44] n (fun g s7 i wr => ∃ (d lf2 : Nat) (of3 fd3 : List Int) (fa3 : Option Addr) (fc3 : Nat), s7 = .slice fa3 lf2 fc3 ∧ d + g = n ∧ i' < lf2 ∧ i = .int .i64 (d : Int) ∧ Hid (fd3.length = lf2 ∧ fd3.getD i' 0 = (f : Int) ∧ PKeep (w.heap.size + 1) O N W1 wr of3 ∧ FKeep O N wr of3 fd3 (.slice fa3 lf2 fc3) ∧ SP = Sp.spreadGo q.tail f p g d of3 fd3))
            case atStart => exact ⟨0, lf, of2, fd, _, _, rfl, by omega, hi2, rfl, hide ⟨unhide Hlf, unhide Hf, (unhide HJ).1, (unhide HJ).2.1, unhide HSP⟩⟩
            case round =>
              clear HSP Hf HJ x0 x1 x2 x3
              obtain ⟨d, lf2, of3, fd3, fa3, fc3, rfl, hdg, hil2, rfl, HL⟩ := hrel
              cases gk with
              | zero =>
                obtain rfl : d = n := by omega
                have HR4 : Hid (FL = Sp.floodGo q.tail p g2 (i' + 1) of3 fd3) := hide (by rw [unhide HR3, (unhide HL).2.2.2.2]; rfl)
                go_wp2
                go_roundg g2
                case rel => exact ⟨i' + 1, of3, fd3, _, rfl, by omega, by rw [(unhide HL).1]; omega, by go_num, hide ⟨(unhide HL).2.2.1, (unhide HL).2.2.2.1, unhide HR4⟩⟩
                case measure => omega
              | succ g3 =>
                have hdl : d < n := by omega
                have hdI : (d : Int) < (n : Int) := by omega
                have hdt : d < q.tail.length := by rw [unhide Hn]; exact hdl
                obtain ⟨x0, x1, x2, x3, -⟩ := unhide HBX _ (unhide HL).2.2.1.bel
                obtain ⟨tb, to', hta, -, htc2⟩ := unhide HT d hdt
                subst hta
                have t1 := htc2 _ (unhide HW _ (unhide HL).2.2.1.bel)
                have HG1 : Hid (q.tail.getD d 0 = q.tail[d]) := hide (Sp.getD_eq _ _ hdt)
                have HC5 := hide (head_any' q _ _ _ _ d wr (unhide HV _ (unhide HL).2.2.1.bel) hdt (unhide HQ).ev (unhide HQ).big)
                have hoth : Sp.oth d < q.tail.length := oth_lt hdt (unhide HQ).ev
                have hhb := unhide HTB (q.tail.getD (Sp.oth d) 0) (Sp.getD_mem hoth)
                obtain ⟨h, hh⟩ : ∃ h : Nat, q.tail.getD (Sp.oth d) 0 = (h : Int) := ⟨(q.tail.getD (Sp.oth d) 0).toNat, by omega⟩
                rw [hh] at HC5 hhb
                have Hh := hide hh
                have hhN : h < N := by omega
                have hhI : (h : Int) < (N : Int) := by omega
                generalize q.tail[d] = td at *
                clear hh htc2 hhb hoth hdt
                go_wp2_with fail
                go_at_call 89
                refine (unhide HC5).mono ?_
                clear HC5 x0 x1 x2 x3 t1
                rintro e w5 ⟨rfl, hb5⟩
                have HL5 : Hid (PKeep (w.heap.size + 1) O N W1 w5 of3 ∧ FKeep O N w5 of3 fd3 (.slice fa3 lf2 fc3)) := hide ⟨(unhide HL).2.2.1.below hb5, (unhide HL).2.2.2.1.below hb5⟩
                have c2 := own_cell (unhide HL5).1.own h (by rw [(unhide HL5).1.len]; exact hhN)
                have f2 := own_frozen (unhide HL5).1.own h
                have HG2 : Hid (of3.getD h 0 = of3[h]'(by rw [(unhide HL5).1.len]; exact hhN)) := hide (Sp.getD_eq _ _ _)
                generalize of3[h]'_ = oz at *
                obtain ⟨fb, fo, fc4, hfa, hfc3, -⟩ := (unhide HL5).2.own.ints.cellAt (Below.refl _ _) i' (by rw [(unhide HL).1]; exact hil2)
                injection hfa with hfa1 hfa2 hfa3
                subst hfa1 hfa3
                have hfe : fd3[i']'(by rw [(unhide HL).1]; exact hil2) = (f : Int) := (Sp.getD_eq fd3 i' (by rw [(unhide HL).1]; exact hil2)).symm.trans (unhide HL).2.1
                rw [hfe] at hfc3
                have hil2I : (i' : Int) < (lf2 : Int) := by omega
                have HT5 : Hid (SP = if td = (f : Int) ∧ oz = -1 then Sp.spreadGo q.tail f p g3 (d + 1) (of3.set h p) (fd3 ++ [(h : Int)]) else Sp.spreadGo q.tail f p g3 (d + 1) of3 fd3) := by
                  have h5 := (unhide HL).2.2.2.2
                  rw [Sp.spreadGo, unhide Hh, unhide HG1, Int.toNat_natCast, unhide HG2] at h5
                  exact hide h5
                have HLe := hide (unhide HL).1
                have HLf := hide (unhide HL).2.1
                clear hfe HL hb5 hfa2
                by_cases htd : td = (f : Int)
                · subst htd
                  have hk1 : (((f : Int)) == (f : Int)) = true := beq_self_eq_true _
                  by_cases hoz : oz = -1
                  · subst hoz
                    have hk2 : ((-1 : Int) == (-1 : Int)) = true := by decide
                    have HN : Hid (SP = Sp.spreadGo q.tail f p g3 (d + 1) (of3.set h p) (fd3 ++ [(h : Int)])) := hide (by rw [unhide HT5, if_pos ⟨rfl, rfl⟩])
                    have HP6 : Hid (PKeep (w.heap.size + 1) O N W1 ((w5.setCell ⟨O, h, none⟩ (.int .i64 (p : Int))).alloc (.cells #[.int .i64 (h : Int)] 3)) (of3.set h p)) := hide (((unhide HL5).1.set h p).below ((Below.refl _ _).alloc (Nat.le_refl _) _))
                    have HO6 : Hid (OwnI ((w5.setCell ⟨O, h, none⟩ (.int .i64 (p : Int))).alloc (.cells #[.int .i64 (h : Int)] 3)) (O + 1) (.slice (some ⟨fb, fo, none⟩) lf2 fc3) fd3) := hide (World.ownsRow.alloc (own_store (unhide HL5).2.own (by omega) h _) _)
                    have HI6 : Hid (Ints ((w5.setCell ⟨O, h, none⟩ (.int .i64 (p : Int))).alloc (.cells #[.int .i64 (h : Int)] 3)) (.slice (some ⟨w5.heap.size, 0, none⟩) 1 1) [(h : Int)]) := hide (OwnI.ints (own_lit (w5.setCell ⟨O, h, none⟩ (.int .i64 (p : Int))) 0 _ 1 [(h : Int)] (by simp) rfl (by omega) (by simp)))
                    have hnl := (unhide HL5).2.fit.le
                    rw [unhide HLe] at hnl
                    have hlt5 := (unhide HL5).1.lt
                    have hnm : ¬ (h : Int) ∈ fd3 := fun hm => by
                      have h6 := (unhide HL5).2.set _ hm
                      rw [Int.toNat_natCast, unhide HG2] at h6
                      exact h6 rfl
                    have HNM := hide hnm
                    clear hnm
                    go_wp2_with (at_builtin; refine wpList_app (w := (w5.setCell ⟨O, h, none⟩ (.int .i64 (p : Int))).alloc (.cells #[.int .i64 (h : Int)] 3)) rfl _ _ rfl (O + 1) _ _ fd3 [(h : Int)] rfl rfl (unhide HO6) (unhide HI6) (lf2 + 1) (by rw [unhide HLe]; rfl) (by omega) (by simp; omega) ?_)
                    intro a7 c7 w7 hown7 hb7 hgr7
                    have HP7 : Hid (PKeep (w.heap.size + 1) O N W1 w7 (of3.set h p)) := hide ((unhide HP6).apart hb7)
                    have HF7 : Hid (FKeep O N w7 (of3.set h p) (fd3 ++ [(h : Int)]) (.slice a7 (lf2 + 1) c7)) := by
                      refine hide ⟨hown7, (unhide HL5).2.fit.snoc h hhN (unhide HNM), ?_⟩
                      intro x hx
                      rcases List.mem_append.1 hx with hx | hx
                      · exact getD_set_ne' _ _ _ _ ((unhide HL5).2.set x hx) (by omega)
                      · rw [List.mem_singleton] at hx
                        subst hx
                        rw [Int.toNat_natCast, getD_set_self' _ _ _ (by rw [(unhide HL5).1.len]; exact hhN)]
                        omega
                    have HLf7 : Hid ((fd3 ++ [(h : Int)]).getD i' 0 = (f : Int)) := hide (by
                      rw [List.getD_eq_getElem?_getD, List.getElem?_append_left (by rw [unhide HLe]; exact hil2), ← List.getD_eq_getElem?_getD]
                      exact unhide HLf)
                    clear hown7 hb7 hgr7 c2 f2 hfc3
                    go_wp2
                    go_roundg g3
                    case rel => exact ⟨d + 1, lf2 + 1, of3.set h p, fd3 ++ [(h : Int)], a7, c7, rfl, by omega, by omega, by go_num, hide ⟨by rw [List.length_append, unhide HLe]; rfl, unhide HLf7, unhide HP7, unhide HF7, unhide HN⟩⟩
                    case measure => omega
                  · have hk2 : (oz == (-1 : Int)) = false := beq_eq_false_iff_ne.2 hoz
                    have HN : Hid (SP = Sp.spreadGo q.tail f p g3 (d + 1) of3 fd3) := hide (by rw [unhide HT5, if_neg (fun h => hoz h.2)])
                    go_wp2
                    go_roundg g3
                    case rel => exact ⟨d + 1, lf2, of3, fd3, _, _, rfl, by omega, by omega, by go_num, hide ⟨unhide HLe, unhide HLf, (unhide HL5).1, (unhide HL5).2, unhide HN⟩⟩
                    case measure => omega
                · have hk1 : (td == (f : Int)) = false := beq_eq_false_iff_ne.2 htd
                  have HN : Hid (SP = Sp.spreadGo q.tail f p g3 (d + 1) of3 fd3) := hide (by rw [unhide HT5, if_neg (fun h => htd h.1)])
                  go_wp2
                  go_roundg g3
                  case rel => exact ⟨d + 1, lf2, of3, fd3, _, _, rfl, by omega, by omega, by go_num, hide ⟨unhide HLe, unhide HLf, (unhide HL5).1, (unhide HL5).2, unhide HN⟩⟩
                  case measure => omega
          · have HR3 : Hid (Sp.pieces q = Sp.partsGo q.tail N g' (k + 1) of2 (p + 1)) := by
              have h := (unhide HJ).2.2
              rw [Sp.floodGo, if_neg (by rw [unhide Hlf]; exact hi2)] at h
              exact hide (by rw [unhide HR2, h])
            have hi2I : ¬ (i' : Int) < (lf : Int) := by omega
            go_wp2
            go_roundg g'
            case rel => exact ⟨k + 1, p + 1, of2, by omega, by omega, by go_num, by go_num, hide ⟨(unhide HJ).1, unhide HR3⟩⟩
            case measure => omega
      · have HR2 : Hid (Sp.pieces q = Sp.partsGo q.tail N g' (k + 1) of p) := hide (by rw [(unhide HI).2, Sp.partsGo, if_neg (by rw [unhide HG]; exact hz)])
        have hkk : (z != (-1 : Int)) = true := by simpa using hz
        go_wp2
        go_roundg g'
        case rel => exact ⟨k + 1, p, of, by omega, by omega, rfl, by go_num, hide ⟨(unhide HI).1, unhide HR2⟩⟩
        case measure => omega
end Go.Proofs.Ytoegjnolccabjab


/- The walk of the second reference's Faces, over next ones that come round. -/
namespace Go.Proofs.Ytoegjnolccabjab
open Go Go.RowKit

def Sp.faces2Go (st : List Int) : Nat → Nat → List Int → Nat → List Int × Nat
  | 0, _, of, k => (of, k)
  | f + 1, d, of, k => if 0 ≤ of.getD d 0 then Sp.faces2Go st f (d + 1) of k else Sp.faces2Go st f (d + 1) (Sp.paint k of (Sp.rounds st d (Sp.per st d))) (k + 1)
/-- Each dart's face as the reference numbers them; how many. -/
def Sp.faces2 (q : Sp.Net) : List Int × Nat := Sp.faces2Go (Sp.behindL q.next) q.tail.length 0 (List.replicate q.tail.length (-1)) 0
end Go.Proofs.Ytoegjnolccabjab


