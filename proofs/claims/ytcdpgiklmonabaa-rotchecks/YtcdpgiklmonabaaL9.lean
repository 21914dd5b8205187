/- What the proof needs, part 9. -/
import Derived.Test.YtcdpgiklmonabaaL8
/- The walk of the second reference's Parts. -/
namespace Go.Proofs.Ytcdpgiklmonabaa
open Go Go.RowKit

theorem range_set (n j : Nat) (hj : j < n) : (((List.range j).map fun v : Nat => (v : Int)) ++ List.replicate (n - j) 0).set j (j : Int) = ((List.range (j + 1)).map fun v : Nat => (v : Int)) ++ List.replicate (n - (j + 1)) 0 := by
  rw [List.set_append_right _ _ (by simp), List.range_succ, List.map_append, List.append_assoc]
  congr 1
  obtain ⟨m, hm⟩ : ∃ m, n - j = m + 1 := ⟨n - j - 1, by omega⟩
  rw [hm, show n - (j + 1) = m by omega, List.replicate_succ]
  simp
theorem range_getD (n v : Nat) (hv : v < n) : ((List.range n).map fun v : Nat => (v : Int)).getD v 0 = (v : Int) := by
  rw [Sp.getD_eq _ _ (by simpa using hv)]
  simp
theorem PKeep.far {B O N : Nat} {W wr : World} {of : List Int} (h : PKeep B O N W wr of) {g : Nat} (hg : O < g) (i : Nat) (x : Value) : PKeep B O N W (wr.setCell ⟨g, i, none⟩ x) of := by
  have hge := h.ge
  exact ⟨h.len, own_but h.own ((ButRow.refl g wr).setCell i x) (fun e => by injection e with e; have e' : O = g := e; omega), h.bel.setCell (by show B ≤ g; omega) _, by simpa using h.lt, h.ge⟩
set_option maxRecDepth 100000 in
set_option maxHeartbeats 4000000 in
theorem parts2_any (q : Sp.Net) (v tv nv cv : Value) (w : World) (hv : NetI w v q tv nv cv) (hw : Sp.walkB q = true) :
    Calls Try.prog 18 #[v] w fun e w' => ∃ fv, e = .returned (.tuple #[fv, .int .i64 (((Sp.pieces q).2 : Nat) : Int)]) ∧ OwnI w' w.heap.size fv (Sp.pieces q).1 ∧ Below w.heap.size w w' := by
  have hq := walkQ hw
  have hv' := hv
  obtain ⟨rfl, h1, h2, h3⟩ := hv
  obtain ⟨ta, tc, rfl, htc, htm⟩ := h1.form
  obtain ⟨na, nc, rfl, -, -⟩ := h2.form
  obtain ⟨ca, cc, rfl, -, -⟩ := h3.form
  clear h1 h2 h3
  obtain ⟨N, hN⟩ : ∃ N : Nat, q.n = (N : Int) := ⟨q.n.toNat, by have := hq.n0; omega⟩
  have hN60 : N ≤ 60 := by have := hq.n1; omega
  have HPS := hide (Sp.pieces_st hq.n0 hq.tb hq.ev)
  rw [hN, Int.toNat_natCast] at HPS
  have HBX := hide (box_new w q.n (.slice ta q.tail.length tc) (.slice na q.next.length nc) (.slice ca q.cap.length cc))
  obtain ⟨W1, hW1⟩ : ∃ W1, W1 = w.alloc (.cells #[.int .i64 q.n, .slice ta q.tail.length tc, .slice na q.next.length nc, .slice ca q.cap.length cc] 25) := ⟨_, rfl⟩
  rw [← hW1] at HBX
  have hb1 : Below w.heap.size w W1 := by rw [hW1]; exact (Below.refl _ w).alloc (Nat.le_refl _) _
  have hs1 : W1.heap.size = w.heap.size + 1 := by rw [hW1]; simp
  have HW : Hid (∀ w', Below (w.heap.size + 1) W1 w' → Below w.heap.size w w') := hide fun w' hb => hb1.trans (hb.mono (by omega))
  have HS1 := hide hs1
  have HV : Hid (∀ w', Below (w.heap.size + 1) W1 w' → NetI w' (.agg #[.int .i64 q.n, .slice ta q.tail.length tc, .slice na q.next.length nc, .slice ca q.cap.length cc]) q (.slice ta q.tail.length tc) (.slice na q.next.length nc) (.slice ca q.cap.length cc)) := hide fun w' hb => by
    have hb0 := unhide HW w' hb
    exact ⟨rfl, hv'.tail.below hb0, hv'.next.below hb0, hv'.cap.below hb0⟩
  have HQ := hide hq
  have HTb : Hid (∀ x ∈ q.tail, 0 ≤ x ∧ x < (N : Int)) := hide (by rw [← hN]; exact hq.tb)
  obtain ⟨P, hP⟩ : ∃ P : Ending → World → Prop, P = fun e w' => ∃ fv, e = .returned (.tuple #[fv, .int .i64 (((Sp.pieces q).2 : Nat) : Int)]) ∧ OwnI w' w.heap.size fv (Sp.pieces q).1 ∧ Below w.heap.size w w' := ⟨_, rfl⟩
  rw [← hP]
  have HP := hide hP
  clear hP
  rw [hN] at HBX HV hW1 ⊢
  obtain ⟨x0, x1, x2, x3, -⟩ := unhide HBX W1 (Below.refl _ _)
  have HHd := hide (fun (y : Nat) w' (hy : y < q.tail.length) (hb : Below (w.heap.size + 1) W1 w') => head2_any q _ _ _ _ y w' (unhide HV w' hb) hy hq.ev hq.big)
  have HTc := hide (fun w' (hb : Below (w.heap.size + 1) W1 w') => (unhide HV w' hb).tail)
  have hb240 := hq.big
  generalize hln : q.tail.length = ln at *
  have Hln := hide hln
  clear hb1 hs1 hv' hq hN hln
  subst hW1
  go_enter Try.func18, Try.ntmps18
  go_wp2_with (at_make; refine wpList_mk rfl _ _ rfl (w.heap.size + 1) N rfl rfl (by omega) (by simp) ?_)
  intro w5 hown5 hb5 hlt5
  clear x0 x1 x2 x3
  generalize w.alloc (.cells #[.int .i64 (N : Int), .slice ta ln tc, .slice na q.next.length nc, .slice ca q.cap.length cc] 25) = W1 at *
  have HK0 : Hid (PKeep (w.heap.size + 1) (w.heap.size + 1) N W1 w5 (List.replicate N 0)) := hide ⟨List.length_replicate, hown5, hb5, by have := (hown5.lt (w.heap.size + 1) rfl).2; exact this, Nat.le_refl _⟩
  clear hown5 hb5 hlt5
  obtain ⟨x0, -, -, -, -⟩ := unhide HBX w5 (unhide HK0).bel
  go_wp2
  go_loopg [5] N (fun g i wr => ∃ j : Nat, j + g = N ∧ i = .int .i64 (j : Int) ∧ Hid (PKeep (w.heap.size + 1) (w.heap.size + 1) N W1 wr (((List.range j).map fun v : Nat => (v : Int)) ++ List.replicate (N - j) 0)))
  case atStart => exact ⟨0, by omega, rfl, by simpa using HK0⟩
  case round =>
    obtain ⟨j, hjg, rfl, HJ⟩ := hrel
    obtain ⟨x0, x1, x2, x3, -⟩ := unhide HBX wr (unhide HJ).bel
    cases gk with
    | succ g' =>
      have hjN : j < N := by omega
      have hjI : (j : Int) < (N : Int) := by omega
      have c1 := own_cell (unhide HJ).own j (by rw [(unhide HJ).len]; exact hjN)
      have f1 := own_frozen (unhide HJ).own j
      generalize (((List.range j).map fun v : Nat => (v : Int)) ++ List.replicate (N - j) 0)[j]'_ = z at *
      have HJ2 := hide ((unhide HJ).set j (j : Int))
      rw [range_set N j hjN] at HJ2
      clear HK0 HJ
      go_wp2
      go_roundg g'
      case rel => exact ⟨j + 1, by omega, by go_num, HJ2⟩
      case measure => omega
    | zero =>
      have hje : j = N := by omega
      rw [hje] at HJ ⊢
      rw [Nat.sub_self, List.replicate_zero, List.append_nil] at HJ
      have HI0 : Hid (Sp.RInv q.tail ((List.range N).map fun v : Nat => (v : Int)) N) := hide (Sp.RInv.first (by simp) fun v hv => range_getD N v hv)
      clear hje hjg HK0 x1 x2 x3
      generalize ((List.range N).map fun v : Nat => (v : Int)) = of0 at *
      have hG : isum of0 < (3601 : Nat) := by
        have h1 := (unhide HI0).le
        have h2 : N * N ≤ 60 * 60 := Nat.mul_le_mul hN60 hN60
        omega
      go_wp2_with fail
      go_loopg [6] 3601 (fun g s6 wr => ∃ (b : Bool) (of : List Int), s6 = .bool b ∧ Hid (PKeep (w.heap.size + 1) (w.heap.size + 1) N W1 wr of ∧ Sp.RInv q.tail of N ∧ (b = true → isum of < (g : Int)) ∧ (b = false → Sp.Still q.tail of ln)))
      case atStart => exact ⟨true, of0, rfl, hide ⟨unhide HJ, unhide HI0, fun _ => hG, fun h => by cases h⟩⟩
      case round =>
        obtain ⟨b, of, rfl, HO⟩ := hrel
        clear HJ HI0 hG
        cases b with
        | true =>
          cases gk with
          | zero =>
            have h1 := (unhide HO).2.2.1 rfl
            have h2 := (unhide HO).2.1.nn
            omega
          | succ g' =>
            have hsO := (unhide HO).2.2.1 rfl
            go_wp2_with fail
            go_loopg [6, 7] ln (fun g s6 s7 wr => ∃ (d : Nat) (b : Bool) (of' : List Int), d + g = ln ∧ s7 = .int .i64 (d : Int) ∧ s6 = .bool b ∧ Hid (PKeep (w.heap.size + 1) (w.heap.size + 1) N W1 wr of' ∧ Sp.RInv q.tail of' N ∧ isum of' ≤ isum of ∧ (b = true → isum of' < isum of) ∧ (b = false → Sp.Still q.tail of' d)))
            case atStart => exact ⟨0, false, of, by omega, rfl, rfl, hide ⟨(unhide HO).1, (unhide HO).2.1, Int.le_refl _, (fun h => by cases h), fun _ d hd => by omega⟩⟩
            case round =>
              obtain ⟨d, b, of', hdg, rfl, rfl, HD⟩ := hrel
              obtain ⟨x0, x1, x2, x3, -⟩ := unhide HBX wr (unhide HD).1.bel
              cases gk with
              | zero =>
                have hde : d = ln := by omega
                rw [hde] at HD ⊢
                clear hde hdg
                have HR : Hid (PKeep (w.heap.size + 1) (w.heap.size + 1) N W1 wr of' ∧ Sp.RInv q.tail of' N ∧ (b = true → isum of' < (g' : Int)) ∧ (b = false → Sp.Still q.tail of' ln)) := hide ⟨(unhide HD).1, (unhide HD).2.1, fun hb => by have := (unhide HD).2.2.2.1 hb; omega, (unhide HD).2.2.2.2⟩
                clear HD HO hsO x0 x2 x3
                go_wp2
                go_roundg g'
                case rel => exact ⟨b, of', rfl, HR⟩
                case measure => omega
              | succ g2 =>
                have hdl : d < ln := by omega
                have hdI : (d : Int) < (ln : Int) := by omega
                have hdt : d < q.tail.length := by rw [unhide Hln]; exact hdl
                have hot : Sp.oth d < q.tail.length := oth_lt hdt (unhide HQ).ev
                have hA := unhide HTb _ (Sp.getD_mem hdt)
                have hB := unhide HTb _ (Sp.getD_mem hot)
                have HSet := hide (fun h => (unhide HD).2.1.set (unhide HTb) (unhide HQ).ev hdt h)
                obtain ⟨A, hAe⟩ : ∃ A : Nat, q.tail.getD d 0 = (A : Int) := ⟨(q.tail.getD d 0).toNat, by omega⟩
                obtain ⟨Bn, hBe⟩ : ∃ Bn : Nat, q.tail.getD (Sp.oth d) 0 = (Bn : Int) := ⟨(q.tail.getD (Sp.oth d) 0).toNat, by omega⟩
                have HH := hide (fun w' hb => unhide HHd d w' hdl hb)
                have HStl : Hid (of'.getD Bn 0 ≤ of'.getD A 0 → b = false → Sp.Still q.tail of' (d + 1)) := hide fun h1 h2 d' hd' => by
                  rcases Nat.lt_or_ge d' d with h3 | h3
                  · exact (unhide HD).2.2.2.2 h2 d' h3
                  · rw [show d' = d by omega, hAe, hBe, Int.toNat_natCast, Int.toNat_natCast]; exact h1
                rw [hAe, hBe, Int.toNat_natCast, Int.toNat_natCast] at HSet
                rw [hBe] at HH
                rw [hAe] at hA
                rw [hBe] at hB
                obtain ⟨tb, tt, hta, HTd⟩ : ∃ tb tt, ta = some ⟨tb, tt, none⟩ ∧ Hid (∀ w', Below (w.heap.size + 1) W1 w' → w'.cell? ⟨tb, tt + d, none⟩ = some (.int .i64 (A : Int))) := by
                  obtain ⟨a', c', e, -, -, hc⟩ := (unhide HTc W1 (Below.refl _ _)).all
                  obtain ⟨b', o', e2, -, -⟩ := unhide hc d hdt
                  injection e with e1
                  rw [← e1] at e2
                  refine ⟨b', o', e2, hide fun w' hb => ?_⟩
                  obtain ⟨a3, c3, e3, -, -, hc3⟩ := (unhide HTc w' hb).all
                  obtain ⟨b4, o4, e4, -, h4⟩ := unhide hc3 d hdt
                  injection e3 with e3
                  rw [← e3, e2] at e4
                  injection e4 with e4
                  injection e4 with e5 e6
                  subst e5 e6
                  rw [h4 w' (Below.refl _ _), ← Sp.getD_eq, hAe]
                subst hta
                have HbW := hide (unhide HD).1.bel
                have HLow : Hid (∀ wx, Below wr.heap.size wr wx → Below (w.heap.size + 1) W1 wx) := hide fun wx hb => (unhide HbW).trans (hb.mono (by have := (unhide HbW).size; rw [unhide HS1] at this; exact this))
                have hAN : A < N := by omega
                have hBN : Bn < N := by omega
                have hbr : Below wr.heap.size wr wr.drew := (Below.refl _ _).drew
                clear hA hB hAe hBe HO hsO x0 x1 x2 x3
                obtain ⟨x0, x1, x2, x3, -⟩ := unhide HBX wr (unhide HbW)
                go_upto_region 12 with fail
                clear x0 x1 x2 x3
                go_cut [8, 9] (fun s8 s9 wx => s8 = .int .i64 (A : Int) ∧ s9 = .int .i64 (Bn : Int) ∧ Hid (Below wr.heap.size wr wx))
                case first =>
                  go_region_held3 (fun w' => w'.cell? ⟨w.heap.size, 0, none⟩ = some (.int .i64 (N : Int)) ∧ w'.cell? ⟨w.heap.size, 1, none⟩ = some (.slice (some ⟨tb, tt, none⟩) ln tc) ∧ w'.cell? ⟨w.heap.size, 2, none⟩ = some (.slice na q.next.length nc) ∧ w'.cell? ⟨w.heap.size, 3, none⟩ = some (.slice ca q.cap.length cc) ∧ w'.cell? ⟨tb, tt + d, none⟩ = some (.int .i64 (A : Int)))
                    (first
                      | exact ⟨(unhide HBX _ (unhide HLow _ hb8)).1, (unhide HBX _ (unhide HLow _ hb8)).2.1, (unhide HBX _ (unhide HLow _ hb8)).2.2.1, (unhide HBX _ (unhide HLow _ hb8)).2.2.2.1, unhide HTd _ (unhide HLow _ hb8)⟩
                      | exact ⟨(unhide HBX _ (unhide HLow _ hbr)).1, (unhide HBX _ (unhide HLow _ hbr)).2.1, (unhide HBX _ (unhide HLow _ hbr)).2.2.1, (unhide HBX _ (unhide HLow _ hbr)).2.2.2.1, unhide HTd _ (unhide HLow _ hbr)⟩)
                    (first
                      | (go_at_call 24
                         refine (unhide HH _ (unhide HLow _ hbr)).mono ?_
                         rintro e w8 ⟨rfl, hl8⟩
                         have hb8 : Below wr.heap.size wr w8 := hbr.trans hl8))
                  all_goals
                    go_wp2
                    go_meet
                    exact ⟨rfl, rfl, hide hb8⟩
                case rest =>
                  obtain ⟨wP, rfl⟩ : ∃ wP, wP = wc := ⟨_, rfl⟩
                  obtain ⟨rfl, rfl, HbP⟩ := hcut
                  have HKp := hide ((unhide HD).1.below (unhide HbP))
                  have HRi := hide (And.intro (unhide HD).2.1 (And.intro (unhide HD).2.2.1 (unhide HD).2.2.2.1))
                  have hlo := (unhide HD).2.1.len
                  have c1 := own_cell (unhide HKp).own Bn (by rw [hlo]; exact hBN)
                  have c2 := own_cell (unhide HKp).own A (by rw [hlo]; exact hAN)
                  rw [← Sp.getD_eq] at c1 c2
                  have f1 := own_frozen (unhide HKp).own Bn
                  have HK2 := hide (fun nq => (unhide HKp).below (below_dn (Below.refl _ _) nq))
                  have hAI : (A : Int) < (N : Int) := by omega
                  have hBI : (Bn : Int) < (N : Int) := by omega
                  clear HD hlo hbr HbW HLow HbP
                  by_cases hlt : of'.getD A 0 < of'.getD Bn 0
                  · have HS2 := hide (unhide HSet hlt)
                    have HK3 := hide (fun nq => (unhide HK2 nq).set Bn (of'.getD A 0))
                    clear HSet HStl
                    generalize of'.getD A 0 = oA at *
                    generalize of'.getD Bn 0 = oB at *
                    have hd1 : decide (oA < oB) = true := decide_eq_true hlt
                    have hd2 : decide (oB > oA) = true := decide_eq_true hlt
                    go_wp2
                    go_quiet (fail)
                    have c1' : (wP.drewN nq).cell? ⟨w.heap.size + 1, Bn, none⟩ = some (.int .i64 oB) := c1
                    have c2' : (wP.drewN nq).cell? ⟨w.heap.size + 1, A, none⟩ = some (.int .i64 oA) := c2
                    have f1' : (wP.drewN nq).frozen? ⟨w.heap.size + 1, Bn, none⟩ = false := f1
                    have HK4 := hide (unhide HK3 nq)
                    clear c1 c2 f1 HK3 HK2 HKp
                    generalize wP.drewN nq = wq at *
                    go_wp2
                    go_roundg g2
                    case rel => exact ⟨d + 1, true, _, by omega, by go_num, rfl, hide ⟨unhide HK4, (unhide HS2).1, by have := (unhide HS2).2; have := (unhide HRi).2.1; omega, fun _ => by have := (unhide HS2).2; have := (unhide HRi).2.1; omega, fun h => by cases h⟩⟩
                    case measure => omega
                  · have HS2 := hide (unhide HStl (by omega))
                    clear HSet HStl
                    generalize of'.getD A 0 = oA at *
                    generalize of'.getD Bn 0 = oB at *
                    have hd1 : decide (oA < oB) = false := decide_eq_false hlt
                    have hd2 : decide (oB > oA) = false := decide_eq_false hlt
                    go_wp2
                    go_quiet (fail)
                    have HK4 := hide (unhide HK2 nq)
                    clear c1 c2 f1 HK2 HKp
                    generalize wP.drewN nq = wq at *
                    go_wp2
                    go_roundg g2
                    case rel => exact ⟨d + 1, b, of', by omega, by go_num, rfl, hide ⟨unhide HK4, (unhide HRi).1, (unhide HRi).2.1, (unhide HRi).2.2, unhide HS2⟩⟩
                    case measure => omega
        | false =>
          have HKO := hide (unhide HO).1
          have HRI := hide (unhide HO).2.1
          have HSt : Hid (Sp.Still q.tail of q.tail.length) := hide (by rw [unhide Hln]; exact (unhide HO).2.2.2 rfl)
          obtain ⟨x0, x1, x2, x3, -⟩ := unhide HBX wr (unhide HKO).bel
          have hOG : w.heap.size + 1 < wr.heap.size := (unhide HKO).lt
          clear HO x1 x2 x3
          go_wp2_with (at_make; refine wpList_mk rfl _ _ rfl wr.heap.size N rfl rfl (by omega) (Nat.le_refl _) ?_)
          intro w6 hown6 hb6 hlt6
          have HK6 : Hid (PKeep (w.heap.size + 1) (w.heap.size + 1) N W1 w6 of ∧ OwnI w6 wr.heap.size (.slice (some ⟨wr.heap.size, 0, none⟩) N N) (List.replicate N 0) ∧ Sp.NumS of (List.replicate N 0) N 0 0) := hide ⟨(unhide HKO).below hb6, hown6, Sp.NumS.first of N⟩
          clear hown6 hb6 hlt6 x0 HKO
          generalize wr.heap.size = G at *
          obtain ⟨x0, -, -, -, -⟩ := unhide HBX w6 (unhide HK6).1.bel
          go_wp2
          go_loopg [10, 12] N (fun g s10 s12 wy => ∃ (v k : Nat) (num : List Int), v + g = N ∧ k ≤ v ∧ s12 = .int .i64 (v : Int) ∧ s10 = .int .i64 (k : Int) ∧ Hid (PKeep (w.heap.size + 1) (w.heap.size + 1) N W1 wy of ∧ OwnI wy G (.slice (some ⟨G, 0, none⟩) N N) num ∧ Sp.NumS of num N v k))
          case atStart => exact ⟨0, 0, _, by omega, by omega, rfl, rfl, HK6⟩
          case round =>
            obtain ⟨v, k, num, hvg, hkv, rfl, rfl, HN⟩ := hrel
            obtain ⟨x0, -, -, -, -⟩ := unhide HBX wr (unhide HN).1.bel
            clear HK6
            cases gk with
            | zero =>
              have hve : v = N := by omega
              rw [hve] at HN ⊢
              clear hve hvg
              have HE := hide (((unhide HN).2.2.last (unhide HRI) (unhide HSt) (unhide HQ).ev).uniq (unhide HPS))
              have HOw := hide (unhide HN).2.1
              have HBl := hide (unhide HW _ (unhide HN).1.bel)
              clear HN
              go_wp2
              rw [unhide HP]
              exact ⟨_, by rw [← (unhide HE).2]; rfl, by rw [← (unhide HE).1]; exact own_base (unhide HOw) (by omega), unhide HBl⟩
            | succ g' =>
              have hvN : v < N := by omega
              have hvI : (v : Int) < (N : Int) := by omega
              have hbd := (unhide HRI).bd v hvN
              have c1 := own_cell (unhide HN).1.own v (by rw [(unhide HRI).len]; exact hvN)
              rw [← Sp.getD_eq] at c1
              obtain ⟨u, hu⟩ : ∃ u : Nat, of.getD v 0 = (u : Int) := ⟨(of.getD v 0).toNat, by omega⟩
              have hnl := (unhide HN).2.2.len
              have c2 := own_cell (unhide HN).2.1 v (by rw [hnl]; exact hvN)
              have f2 := own_frozen (unhide HN).2.1 v
              generalize num[v]'_ = z2 at *
              rw [hu] at c1
              by_cases huv : u = v
              · subst huv
                have huB : ((u : Int) == (u : Int)) = true := beq_self_eq_true _
                have HN2 : Hid (PKeep (w.heap.size + 1) (w.heap.size + 1) N W1 (wr.setCell ⟨G, u, none⟩ (.int .i64 (k : Int))) of ∧ OwnI (wr.setCell ⟨G, u, none⟩ (.int .i64 (k : Int))) G (.slice (some ⟨G, 0, none⟩) N N) (num.set u (k : Int)) ∧ Sp.NumS of (num.set u (k : Int)) N (u + 1) (k + 1)) := hide ⟨(unhide HN).1.far hOG _ _, own_setCell (unhide HN).2.1 u (k : Int), (unhide HN).2.2.new (unhide HRI) hvN hu⟩
                clear HN hbd hu hnl
                go_wp2
                go_roundg g'
                case rel => exact ⟨u + 1, k + 1, _, by omega, by omega, by go_num, by go_num, HN2⟩
                case measure => omega
              · have huB : ((u : Int) == (v : Int)) = false := beq_eq_false_iff_ne.2 (by omega)
                have huI : ¬ (u : Int) = (v : Int) := by omega
                obtain ⟨huv', hns⟩ := (unhide HN).2.2.old (unhide HRI) (unhide HSt) (unhide HQ).ev hvN hu huv
                have c3 := own_cell (unhide HN).2.1 u (by rw [hnl]; omega)
                rw [← Sp.getD_eq] at c3
                have HN2 : Hid (PKeep (w.heap.size + 1) (w.heap.size + 1) N W1 (wr.setCell ⟨G, v, none⟩ (.int .i64 (num.getD u 0))) of ∧ OwnI (wr.setCell ⟨G, v, none⟩ (.int .i64 (num.getD u 0))) G (.slice (some ⟨G, 0, none⟩) N N) (num.set v (num.getD u 0)) ∧ Sp.NumS of (num.set v (num.getD u 0)) N (v + 1) k) := hide ⟨(unhide HN).1.far hOG _ _, own_setCell (unhide HN).2.1 v (num.getD u 0), hns⟩
                have huN : (u : Int) < (N : Int) := by omega
                clear HN hbd hu hnl hns
                generalize num.getD u 0 = z3 at *
                go_wp2
                go_roundg g'
                case rel => exact ⟨v + 1, k, _, by omega, by omega, by go_num, rfl, HN2⟩
                case measure => omega
end Go.Proofs.Ytcdpgiklmonabaa


/- How many places a round has; the rounds the other way about. -/
namespace Go.Proofs.Ytcdpgiklmonabaa
open Go Go.RowKit

theorem nodup_sub : ∀ (l1 l2 : List Int), l1.Nodup → (∀ x ∈ l1, x ∈ l2) → l1.length ≤ l2.length
  | [], _, _, _ => Nat.zero_le _
  | a :: t, l2, hd, hs => by
    rw [List.nodup_cons] at hd
    have ha := hs a (by simp)
    have h1 := nodup_sub t (l2.erase a) hd.2 (fun x hx => by
      have hne : x ≠ a := fun e => hd.1 (by rw [← e]; exact hx)
      exact (List.mem_erase_of_ne hne).2 (hs x (by simp [hx])))
    rw [List.length_erase_of_mem ha] at h1
    have := List.length_pos_of_mem ha
    rw [List.length_cons]
    omega
/-- How many places below n are so. -/
def Sp.cnt (p : Nat → Bool) (n : Nat) : Nat := ((List.range n).filter p).length
theorem Sp.cnt_succ (p : Nat → Bool) (n : Nat) : Sp.cnt p (n + 1) = Sp.cnt p n + if p n then 1 else 0 := by
  unfold Sp.cnt
  rw [List.range_succ, List.filter_append, List.length_append]
  by_cases h : p n = true
  · rw [if_pos h]; simp [h]
  · rw [if_neg h]; simp [h]
theorem Sp.cnt_le (p : Nat → Bool) (n : Nat) : Sp.cnt p n ≤ n := by
  have := List.length_filter_le p (List.range n)
  rw [List.length_range] at this
  exact this
theorem Sp.rounds_nodup {st : List Int} (hp : Sp.Perm st) {x : Nat} (hx : x < st.length) : (Sp.rounds st x (Sp.per st x)).Nodup := by
  obtain ⟨p1, p2, p3, p4⟩ := hp.per hx
  unfold List.Nodup
  rw [List.pairwise_iff_getElem]
  intro i j hi hj hij e
  rw [Sp.rounds_len] at hi hj
  simp only [Sp.rounds, List.getElem_map, List.getElem_range] at e
  have e2 : Sp.nth st x (i + (j - i)) = Sp.nth st x i := by rw [show i + (j - i) = j by omega]; exact e.symm
  exact p4 (j - i) (by omega) (by omega) (hp.back hx i (j - i) e2)
/-- A round has as many places as bear its label. -/
theorem Sp.Perm.count {st : List Int} (hp : Sp.Perm st) {lab : Nat → Nat} {k : Nat} (hc : Cls st.length (Sp.fn st) lab k) {x : Nat} (hx : x < st.length) : Sp.per st x = Sp.cnt (fun i => decide (lab i = lab x)) st.length := by
  have hmem : ∀ i : Nat, (i : Int) ∈ Sp.rounds st x (Sp.per st x) ↔ i < st.length ∧ lab i = lab x := fun i => by
    constructor
    · intro h
      obtain ⟨j, e, o⟩ := (hp.mem_rounds hx _).1 h
      have : i = j := by omega
      subst this
      refine ⟨?_, (hc.orb hp.fnP.mp hx o).symm⟩
      obtain ⟨m, rfl⟩ := o
      exact hp.fnP.it hx m
    · intro ⟨h1, h2⟩
      exact (hp.mem_rounds hx _).2 ⟨i, rfl, hc.sep x i hx h1 h2.symm⟩
  have hnd : (((List.range st.length).filter fun i => decide (lab i = lab x)).map fun i : Nat => (i : Int)).Nodup := by
    unfold List.Nodup
    rw [List.pairwise_map]
    refine List.Pairwise.imp (R := fun a b : Nat => a ≠ b) (fun {a b} (h : a ≠ b) (e : (a : Int) = (b : Int)) => h (by omega)) ?_
    exact List.Pairwise.filter _ List.nodup_range
  have hlen : (((List.range st.length).filter fun i => decide (lab i = lab x)).map fun i : Nat => (i : Int)).length = Sp.cnt (fun i => decide (lab i = lab x)) st.length := by
    rw [List.length_map]; rfl
  have h1 := nodup_sub _ _ (Sp.rounds_nodup hp hx) (fun y hy => by
    obtain ⟨j, rfl, o⟩ := (hp.mem_rounds hx y).1 hy
    have := (hmem j).1 hy
    exact List.mem_map.2 ⟨j, List.mem_filter.2 ⟨List.mem_range.2 this.1, decide_eq_true this.2⟩, rfl⟩)
  have h2 := nodup_sub _ _ hnd (fun y hy => by
    obtain ⟨j, hj, rfl⟩ := List.mem_map.1 hy
    obtain ⟨a, b⟩ := List.mem_filter.1 hj
    exact (hmem j).2 ⟨List.mem_range.1 a, of_decide_eq_true b⟩)
  rw [hlen, Sp.rounds_len] at h1 h2
  omega
theorem Sp.invGo_len (nx : List Int) : ∀ f d acc, (Sp.invGo nx f d acc).length = acc.length
  | 0, _, _ => rfl
  | f + 1, d, acc => by
    rw [Sp.invGo, Sp.invGo_len nx f, List.length_set]
theorem Sp.invGo_get {nx : List Int} (hp : Sp.Perm nx) : ∀ f d acc, d + f = nx.length → acc.length = nx.length → ∀ i, i < nx.length → (Sp.invGo nx f d acc).getD (Sp.fn nx i) 0 = if d ≤ i then (i : Int) else acc.getD (Sp.fn nx i) 0
  | 0, d, acc, hd, hl, i, hi => by rw [if_neg (by omega)]; rfl
  | f + 1, d, acc, hd, hl, i, hi => by
    rw [Sp.invGo, Sp.invGo_get hp f (d + 1) _ (by omega) (by rw [List.length_set]; exact hl) i hi]
    by_cases h1 : d + 1 ≤ i
    · rw [if_pos h1, if_pos (by omega)]
    · rw [if_neg h1]
      have hfd : (nx.getD d 0).toNat < acc.length := by rw [hl]; exact hp.fnP.mp d (by omega)
      rw [getD_set_eq acc _ _ _ hfd]
      by_cases h2 : i = d
      · rw [if_pos (by rw [h2]; rfl), if_pos (by omega), h2]
      · have hne : ¬ Sp.fn nx i = (nx.getD d 0).toNat := fun e => h2 (hp.fnP.inj i d hi (by omega) e)
        rw [if_neg hne, if_neg (by omega)]
theorem Sp.turnL_len (nx : List Int) : (Sp.turnL nx).length = nx.length := by
  unfold Sp.turnL
  rw [Sp.invGo_len, List.length_replicate]
theorem Sp.turnL_back {nx : List Int} (hp : Sp.Perm nx) {i : Nat} (hi : i < nx.length) : (Sp.turnL nx).getD (Sp.fn nx i) 0 = (i : Int) := by
  unfold Sp.turnL
  rw [Sp.invGo_get hp nx.length 0 _ (by omega) (by simp) i hi, if_pos (Nat.zero_le _)]
theorem Sp.Perm.onto {st : List Int} (hp : Sp.Perm st) {j : Nat} (hj : j < st.length) : ∃ i, i < st.length ∧ Sp.fn st i = j := by
  obtain ⟨p1, p2, p3, p4⟩ := hp.per hj
  refine ⟨itf (Sp.fn st) j (Sp.per st j - 1), hp.fnP.it hj _, ?_⟩
  have e := hp.nth_it hj (Sp.per st j)
  rw [p3] at e
  have e2 : itf (Sp.fn st) j (Sp.per st j - 1 + 1) = j := by rw [show Sp.per st j - 1 + 1 = Sp.per st j by omega]; omega
  exact e2
theorem Sp.Perm.turn {nx : List Int} (hp : Sp.Perm nx) : Sp.Perm (Sp.turnL nx) := by
  refine ⟨fun x hx => ?_, fun i j hi hj e => ?_⟩
  · rw [Sp.turnL_len]
    obtain ⟨k, hk, rfl⟩ := List.mem_iff_getElem.1 hx
    rw [Sp.turnL_len] at hk
    rw [← Sp.getD_eq]
    obtain ⟨i, hi, rfl⟩ := hp.onto hk
    rw [Sp.turnL_back hp hi]
    omega
  · rw [Sp.turnL_len] at hi hj
    obtain ⟨a, ha, rfl⟩ := hp.onto hi
    obtain ⟨b, hb, rfl⟩ := hp.onto hj
    rw [Sp.turnL_back hp ha, Sp.turnL_back hp hb] at e
    rw [show a = b by omega]
theorem Sp.fn_turn {nx : List Int} (hp : Sp.Perm nx) {i : Nat} (hi : i < nx.length) : Sp.fn (Sp.turnL nx) (Sp.fn nx i) = i := by
  show ((Sp.turnL nx).getD (Sp.fn nx i) 0).toNat = i
  rw [Sp.turnL_back hp hi, Int.toNat_natCast]
theorem Sp.fn_turn' {nx : List Int} (hp : Sp.Perm nx) {i : Nat} (hi : i < nx.length) : Sp.fn nx (Sp.fn (Sp.turnL nx) i) = i := by
  obtain ⟨a, ha, rfl⟩ := hp.onto hi
  rw [Sp.fn_turn hp ha]
end Go.Proofs.Ytcdpgiklmonabaa


/- Each net that Plane makes is plane. -/
namespace Go.Proofs.Ytcdpgiklmonabaa
open Go Go.RowKit

theorem cls_const (f : Nat → Nat) (h : f 0 = 1 ∧ f 1 = 0) (lab : Nat → Nat) (l0 : lab 0 = 0) (l1 : lab 1 = 0) : Cls 2 f lab 1 := by
  have hc : ∀ i, i < 2 → i = 0 ∨ i = 1 := fun i hi => by omega
  refine ⟨fun i hi => ?_, fun c hc' => ⟨0, by omega, by omega⟩, fun i hi => ?_, fun i j hi hj _ => ?_⟩
  · rcases hc i hi with rfl | rfl <;> omega
  · rcases hc i hi with rfl | rfl
    · rw [h.1, l0, l1]
    · rw [h.2, l0, l1]
  · rcases hc i hi with rfl | rfl <;> rcases hc j hj with rfl | rfl
    · exact OrbF.refl _ _
    · exact ⟨1, h.1⟩
    · exact ⟨1, h.2⟩
    · exact OrbF.refl _ _
theorem cls_each (f : Nat → Nat) (h : f 0 = 0 ∧ f 1 = 1) (lab : Nat → Nat) (l0 : lab 0 = 0) (l1 : lab 1 = 1) : Cls 2 f lab 2 := by
  have hc : ∀ i, i < 2 → i = 0 ∨ i = 1 := fun i hi => by omega
  refine ⟨fun i hi => ?_, fun c hc' => ?_, fun i hi => ?_, fun i j hi hj e => ?_⟩
  · rcases hc i hi with rfl | rfl <;> omega
  · rcases hc c hc' with rfl | rfl
    · exact ⟨0, by omega, l0⟩
    · exact ⟨1, by omega, l1⟩
  · rcases hc i hi with rfl | rfl
    · rw [h.1]
    · rw [h.2]
  · rcases hc i hi with rfl | rfl <;> rcases hc j hj with rfl | rfl
    · exact OrbF.refl _ _
    · omega
    · omega
    · exact OrbF.refl _ _
theorem Sp.Plain.loop (c d : Int) : Sp.Plain ⟨1, [0, 0], [1, 0], [c, d]⟩ := by
  refine ⟨cls_const _ ⟨rfl, rfl⟩ _ rfl rfl, ⟨fun i => i, 2, cls_each _ ⟨rfl, rfl⟩ _ rfl rfl, by show (1 : Int) - ((2 / 2 : Nat) : Int) + ((2 : Nat) : Int) = 2; decide⟩, fun v h0 h1 => ?_⟩
  have h1' : v < 1 := h1
  obtain rfl : v = 0 := by omega
  exact .refl _
theorem Sp.Plain.edge (c d : Int) : Sp.Plain ⟨2, [0, 1], [0, 1], [c, d]⟩ := by
  refine ⟨cls_each _ ⟨rfl, rfl⟩ _ rfl rfl, ⟨fun _ => 0, 1, cls_const _ ⟨rfl, rfl⟩ _ rfl rfl, by show (2 : Int) - ((2 / 2 : Nat) : Int) + ((1 : Nat) : Int) = 2; decide⟩, fun v h0 h1 => ?_⟩
  have h1' : v < 2 := h1
  rcases (show v = 0 ∨ v = 1 by omega) with rfl | rfl
  · exact .refl _
  · exact Sp.Reach.step (tl := [0, 1]) (d := 0) (.refl _) (by decide)
end Go.Proofs.Ytcdpgiklmonabaa


/- A plane net is told so; a plane net turned is plane. -/
namespace Go.Proofs.Ytcdpgiklmonabaa
open Go Go.RowKit

def Sp.turnC (tl : List Int) : List (List Int) → List Int → Bool
  | [], _ => true
  | r :: c, bg => if tl.getD (r.getD 0 0).toNat 0 ∈ bg then false
      else if r.all (fun d => tl.getD d.toNat 0 == tl.getD (r.getD 0 0).toNat 0) then Sp.turnC tl c (bg ++ [tl.getD (r.getD 0 0).toNat 0]) else false
theorem Sp.turnGo_cyc (tl : List Int) : ∀ (c : List (List Int)) (a bg : List Int), (∀ r ∈ c, r ≠ []) → Sp.turnGo tl (a ++ c.flatten) (Sp.offs a.length c) bg = Sp.turnC tl c bg
  | [], _, _, _ => rfl
  | r :: c, a, bg, h => by
    have e : a ++ (r :: c).flatten = a ++ (r ++ c.flatten) := by simp
    have hr := h r (by simp)
    have hg : (a ++ (r ++ c.flatten)).getD a.length 0 = r.getD 0 0 := by
      rw [List.getD_eq_getElem?_getD, List.getElem?_append_right (Nat.le_refl _), Nat.sub_self]
      cases r with
      | nil => exact absurd rfl hr
      | cons x r => rfl
    show (if tl.getD ((a ++ (r :: c).flatten).getD a.length 0).toNat 0 ∈ bg then false
      else if (Sp.piece (a ++ (r :: c).flatten) (a.length, a.length + r.length)).all (fun d => tl.getD d.toNat 0 == tl.getD ((a ++ (r :: c).flatten).getD a.length 0).toNat 0) then Sp.turnGo tl (a ++ (r :: c).flatten) (Sp.offs (a.length + r.length) c) (bg ++ [tl.getD ((a ++ (r :: c).flatten).getD a.length 0).toNat 0]) else false) = _
    rw [e, Sp.piece_at, hg]
    have ih := Sp.turnGo_cyc tl c (a ++ r) (bg ++ [tl.getD (r.getD 0 0).toNat 0]) (fun r' hr' => h r' (by simp [hr']))
    rw [List.length_append, List.append_assoc] at ih
    rw [ih]
    rfl
theorem rounds_head {st : List Int} (hp : Sp.Perm st) {d : Nat} (hd : d < st.length) : (Sp.rounds st d (Sp.per st d)).getD 0 0 = (d : Int) ∧ Sp.rounds st d (Sp.per st d) ≠ [] := by
  have h1 := (hp.per hd).1
  constructor
  · rw [Sp.getD_eq _ _ (by rw [Sp.rounds_len]; omega)]
    simp [Sp.rounds, Sp.nth]
  · intro e
    have := congrArg List.length e
    rw [Sp.rounds_len] at this
    simp at this
    omega
theorem Sp.turnC_of {st tl : List Int} (hp : Sp.Perm st) (hT : ∀ i, i < st.length → tl.getD (Sp.fn st i) 0 = tl.getD i 0) (hS : ∀ i j, i < st.length → j < st.length → tl.getD i 0 = tl.getD j 0 → OrbF (Sp.fn st) i j) :
    ∀ f d row bg, d + f = st.length → Sp.Shut st row → (∀ b ∈ bg, ∃ i : Nat, i < st.length ∧ (i : Int) ∈ row ∧ tl.getD i 0 = b) → Sp.turnC tl (Sp.cyc st f d row) bg = true
  | 0, _, _, _, _, _, _ => rfl
  | f + 1, d, row, bg, hd, hs, hb => by
    have hdl : d < st.length := by omega
    rw [Sp.cyc]
    by_cases hm : (d : Int) ∈ row
    · rw [if_pos hm]
      exact Sp.turnC_of hp hT hS f (d + 1) row bg (by omega) hs hb
    · rw [if_neg hm, Sp.turnC, (rounds_head hp hdl).1, Int.toNat_natCast]
      have hnb : ¬ tl.getD d 0 ∈ bg := fun h => by
        obtain ⟨i, h1, h2, h3⟩ := hb _ h
        exact hm (hs.orb hp h1 h2 (hS i d h1 hdl h3))
      have hall : (Sp.rounds st d (Sp.per st d)).all (fun x => tl.getD x.toNat 0 == tl.getD d 0) = true := by
        rw [List.all_eq_true]
        intro x hx
        obtain ⟨j, rfl, m, rfl⟩ := (hp.mem_rounds hdl x).1 hx
        rw [Int.toNat_natCast, beq_iff_eq]
        clear hx
        induction m with
        | zero => rfl
        | succ m ih => exact (hT _ (hp.fnP.it hdl m)).trans ih
      rw [if_neg hnb, if_pos hall]
      refine Sp.turnC_of hp hT hS f (d + 1) _ _ (by omega) (hs.add hp hdl) (fun b hb' => ?_)
      rcases List.mem_append.1 hb' with h1 | h1
      · obtain ⟨i, h2, h3, h4⟩ := hb b h1
        exact ⟨i, h2, List.mem_append_left _ h3, h4⟩
      · rw [List.mem_singleton] at h1
        exact ⟨d, hdl, List.mem_append_right _ ((hp.mem_rounds hdl _).2 ⟨d, rfl, OrbF.refl _ _⟩), h1.symm⟩
theorem Sp.turning_of {q : Sp.Net} (hp : Sp.Perm q.next) (hT : ∀ i, i < q.next.length → q.tail.getD (Sp.fn q.next i) 0 = q.tail.getD i 0) (hS : ∀ i j, i < q.next.length → j < q.next.length → q.tail.getD i 0 = q.tail.getD j 0 → OrbF (Sp.fn q.next) i j) : Sp.turningB q = true := by
  unfold Sp.turningB
  rw [Sp.rndsD_cyc hp, Sp.rnds_cyc hp]
  have h := Sp.turnGo_cyc q.tail (Sp.cycs q.next) [] [] (fun r hr => by
    obtain ⟨e, he, rfl⟩ := Sp.cyc_pos hp _ 0 [] (by omega) r hr
    exact (rounds_head hp he).2)
  rw [List.nil_append] at h
  have h2 := Sp.turnC_of hp hT hS q.next.length 0 [] [] (by omega) (fun i _ h => by simp at h) (fun b hb => by simp at hb)
  show (Sp.turnGo q.tail (Sp.cycs q.next).flatten (Sp.offs ([] : List Int).length (Sp.cycs q.next)) [] && true) = true
  rw [h, Bool.and_true]
  exact h2
/-- The net seen from behind. -/
def Sp.seen (q : Sp.Net) : Sp.Net := ⟨q.n, q.tail, Sp.turnL q.next, q.cap⟩
theorem fn_tb {nx : List Int} (hp : Sp.Perm nx) (hev : nx.length % 2 = 0) {x : Nat} (hx : x < nx.length) : Sp.fn (Sp.behindL (Sp.turnL nx)) (Sp.oth (Sp.fn (Sp.behindL nx) x)) = Sp.oth x ∧ Sp.oth (Sp.fn (Sp.behindL nx) x) < nx.length := by
  have ho := oth_lt hx hev
  have h1 : Sp.fn (Sp.behindL nx) x = Sp.fn nx (Sp.oth x) := fn_behind nx x hx
  have h2 := hp.fnP.mp _ ho
  have h3 : Sp.oth (Sp.fn (Sp.behindL nx) x) < nx.length := by rw [h1]; exact oth_lt h2 hev
  refine ⟨?_, h3⟩
  rw [fn_behind _ _ (by rw [Sp.turnL_len]; exact h3), oth_oth, h1, Sp.fn_turn hp ho]
theorem orb_turn {st : List Int} (hp : Sp.Perm st) {g : Nat → Nat} (hg : ∀ x, x < st.length → g (Sp.oth (Sp.fn st x)) = Sp.oth x) {i : Nat} (hi : i < st.length) : ∀ m, OrbF g (Sp.oth (itf (Sp.fn st) i m)) (Sp.oth i)
  | 0 => OrbF.refl _ _
  | m + 1 => OrbF.trans ⟨1, hg _ (hp.fnP.it hi m)⟩ (orb_turn hp hg hi m)
theorem Sp.Plain.seen {q : Sp.Net} (hp : Sp.Perm q.next) (hl : q.next.length = q.tail.length) (hev : q.tail.length % 2 = 0) (h : Sp.Plain q) : Sp.Plain (Sp.seen q) := by
  have hmp : ∀ i, i < q.tail.length → Sp.fn q.next i < q.tail.length := fun i hi => by have := hp.fnP.mp i (by rw [hl]; exact hi); rw [hl] at this; exact this
  have hmpt : ∀ i, i < q.tail.length → Sp.fn (Sp.turnL q.next) i < q.tail.length := fun i hi => by have := hp.turn.fnP.mp i (by rw [Sp.turnL_len, hl]; exact hi); rw [Sp.turnL_len, hl] at this; exact this
  have hback : ∀ i, i < q.tail.length → ∀ m, OrbF (Sp.fn (Sp.turnL q.next)) (itf (Sp.fn q.next) i m) i := by
    intro i hi m
    induction m with
    | zero => exact OrbF.refl _ _
    | succ m ih =>
      have hb : itf (Sp.fn q.next) i m < q.next.length := hp.fnP.it (by rw [hl]; exact hi) m
      exact OrbF.trans ⟨1, Sp.fn_turn hp hb⟩ ih
  refine ⟨?_, ?_, h.conn⟩
  · show Cls q.tail.length (Sp.fn (Sp.turnL q.next)) (fun i => (q.tail.getD i 0).toNat) q.n.toNat
    refine ⟨h.vert.lt, h.vert.on, fun i hi => ?_, fun i j hi hj e => ?_⟩
    · have h1 := h.vert.inv _ (hmpt i hi)
      rw [Sp.fn_turn' hp (by rw [hl]; exact hi)] at h1
      exact h1.symm
    · obtain ⟨m, hm⟩ := h.vert.sep j i hj hi e.symm
      have := hback j hj m
      rw [hm] at this
      exact this
  · obtain ⟨lab, F, hf, hE⟩ := h.face
    have hbp := hp.behind (by rw [hl]; exact hev)
    have hbl : (Sp.behindL q.next).length = q.tail.length := by rw [Sp.behindL_len, hl]
    refine ⟨fun x => lab (Sp.oth x), F, ?_, hE⟩
    show Cls q.tail.length (Sp.fn (Sp.behindL (Sp.turnL q.next))) (fun x => lab (Sp.oth x)) F
    have hg : ∀ x, x < q.tail.length → Sp.fn (Sp.behindL (Sp.turnL q.next)) (Sp.oth (Sp.fn (Sp.behindL q.next) x)) = Sp.oth x := fun x hx => (fn_tb hp (by rw [hl]; exact hev) (by rw [hl]; exact hx)).1
    refine ⟨fun i hi => hf.lt _ (oth_lt hi hev), fun c hc => ?_, fun i hi => ?_, fun i j hi hj e => ?_⟩
    · obtain ⟨i, h1, h2⟩ := hf.on c hc
      exact ⟨Sp.oth i, oth_lt h1 hev, by show lab (Sp.oth (Sp.oth i)) = c; rw [oth_oth]; exact h2⟩
    · -- i is the other of what comes behind some dart
      obtain ⟨y, hy, ey⟩ := hbp.onto (j := Sp.oth i) (by rw [hbl]; exact oth_lt hi hev)
      rw [hbl] at hy
      have ei : i = Sp.oth (Sp.fn (Sp.behindL q.next) y) := by rw [ey, oth_oth]
      show lab (Sp.oth (Sp.fn (Sp.behindL (Sp.turnL q.next)) i)) = lab (Sp.oth i)
      rw [ei, hg y hy, oth_oth, oth_oth, hf.inv y hy]
    · obtain ⟨m, hm⟩ := hf.sep (Sp.oth j) (Sp.oth i) (oth_lt hj hev) (oth_lt hi hev) (show lab (Sp.oth j) = lab (Sp.oth i) from e.symm)
      have := orb_turn hbp (g := Sp.fn (Sp.behindL (Sp.turnL q.next))) (fun x hx => hg x (by rw [← hbl]; exact hx)) (i := Sp.oth j) (by rw [hbl]; exact oth_lt hj hev) m
      rw [hm, oth_oth, oth_oth] at this
      exact this
end Go.Proofs.Ytcdpgiklmonabaa


/- Where the program finds each vertex's darts one round, and only there, so does the reference. -/
namespace Go.Proofs.Ytcdpgiklmonabaa
open Go Go.RowKit

/-- Onto is one to one. -/
theorem onto_inj {L : Nat} {f : Nat → Nat} (ho : ∀ x, x < L → ∃ y, y < L ∧ f y = x) {i j : Nat} (hi : i < L) (hj : j < L) (e : f i = f j) : i = j := by
  apply Classical.byContradiction
  intro hne
  have hnd : ((List.range L).map fun x : Nat => (x : Int)).Nodup := by
    unfold List.Nodup
    rw [List.pairwise_map]
    refine List.Pairwise.imp (R := fun a b : Nat => a ≠ b) (fun {a b} (h : a ≠ b) (e : (a : Int) = (b : Int)) => h (by omega)) ?_
    exact List.nodup_range
  have hlen : (((List.range L).filter fun x => decide (x ≠ i)).map fun x : Nat => ((f x : Nat) : Int)).length < L := by
    rw [List.length_map]
    have h1 : ((List.range L).filter fun x => decide (x ≠ i)).length < (List.range L).length := by
      rcases Nat.lt_or_ge ((List.range L).filter fun x => decide (x ≠ i)).length (List.range L).length with h | h
      · exact h
      · have h2 := List.length_filter_le (fun x => decide (x ≠ i)) (List.range L)
        have h3 := List.length_filter_eq_length_iff.1 (Nat.le_antisymm h2 h) i (List.mem_range.2 hi)
        simp at h3
    rw [List.length_range] at h1
    exact h1
  have := nodup_sub _ (((List.range L).filter fun x => decide (x ≠ i)).map fun x : Nat => ((f x : Nat) : Int)) hnd (fun x hx => by
    obtain ⟨k, hk, rfl⟩ := List.mem_map.1 hx
    obtain ⟨y, hy, ey⟩ := ho k (List.mem_range.1 hk)
    by_cases hyi : y = i
    · exact List.mem_map.2 ⟨j, List.mem_filter.2 ⟨List.mem_range.2 hj, decide_eq_true (fun h => hne h.symm)⟩, by rw [← e, ← hyi, ey]⟩
    · exact List.mem_map.2 ⟨y, List.mem_filter.2 ⟨List.mem_range.2 hy, decide_eq_true hyi⟩, by rw [ey]⟩)
  rw [List.length_map, List.length_range] at this
  omega
theorem perm_of_onto {st : List Int} (hx : ∀ x ∈ st, 0 ≤ x ∧ x < (st.length : Int)) (ho : ∀ x, x < st.length → ∃ y, y < st.length ∧ Sp.fn st y = x) : Sp.Perm st := by
  refine ⟨hx, fun i j hi hj e => onto_inj ho hi hj ?_⟩
  unfold Sp.fn
  rw [e]
/-- Each of a row has one of it ahead. -/
def Sp.Led (st row : List Int) : Prop := ∀ x ∈ row, ∃ y : Nat, (y : Int) ∈ row ∧ y < st.length ∧ st.getD y 0 = x
theorem Sp.walkR_led {st : List Int} (hx : ∀ x ∈ st, 0 ≤ x ∧ x < (st.length : Int)) (least : Int) : ∀ f (d : Int) row row', 0 ≤ d → d < (st.length : Int) →
    (∀ x ∈ row, (0 ≤ x ∧ x < (st.length : Int)) ∧ (x = least ∨ ∃ y : Nat, (y : Int) ∈ row ∧ y < st.length ∧ st.getD y 0 = x)) → (d = least ∨ ∃ y : Nat, (y : Int) ∈ row ∧ y < st.length ∧ st.getD y 0 = d) → (d = least → least ∈ row → ∃ y : Nat, (y : Int) ∈ row ∧ y < st.length ∧ st.getD y 0 = d) →
      Sp.walkR st least f d row = some row' → Sp.Led st row' ∧ least ∈ row' ∧ ∀ x ∈ row, x ∈ row'
  | 0, d, row, row', _, _, _, _, _, h => by simp [Sp.walkR] at h
  | f + 1, d, row, row', h0, h1, hr, hd, hl, h => by
    rw [Sp.walkR] at h
    by_cases hm : d ∈ row
    · rw [if_pos hm] at h
      by_cases he : d = least
      · rw [if_pos he] at h
        cases h
        refine ⟨fun x hx' => ?_, he ▸ hm, fun _ hx' => hx'⟩
        rcases (hr x hx').2 with e | e
        · rw [e, ← he]; exact hl he (he ▸ hm)
        · exact e
      · rw [if_neg he] at h
        cases h
    · rw [if_neg hm] at h
      have hdl : d.toNat < st.length := by omega
      have hdd : ((d.toNat : Nat) : Int) = d := by omega
      have hb := hx _ (Sp.getD_mem hdl)
      have hlast : ∃ y : Nat, (y : Int) ∈ row ++ [d] ∧ y < st.length ∧ st.getD y 0 = st.getD d.toNat 0 := ⟨d.toNat, by rw [hdd]; simp, hdl, rfl⟩
      obtain ⟨r1, r2, r3⟩ := Sp.walkR_led hx least f (st.getD d.toNat 0) (row ++ [d]) row' hb.1 hb.2 (fun x hx' => by
        rcases List.mem_append.1 hx' with h2 | h2
        · refine ⟨(hr x h2).1, ?_⟩
          rcases (hr x h2).2 with e | ⟨y, e1, e2, e3⟩
          · exact .inl e
          · exact .inr ⟨y, List.mem_append_left _ e1, e2, e3⟩
        · rw [List.mem_singleton] at h2
          rw [h2]
          refine ⟨⟨h0, h1⟩, ?_⟩
          rcases hd with e | ⟨y, e1, e2, e3⟩
          · exact .inl e
          · exact .inr ⟨y, List.mem_append_left _ e1, e2, e3⟩) (.inr hlast) (fun _ _ => hlast) h
      exact ⟨r1, r2, fun x hx' => r3 x (List.mem_append_left _ hx')⟩
theorem Sp.rgo_led {st : List Int} (hx : ∀ x ∈ st, 0 ≤ x ∧ x < (st.length : Int)) : ∀ f k row ps r, k + f = st.length → Sp.Led st row → (∀ x ∈ row, 0 ≤ x ∧ x < (st.length : Int)) → (∀ i : Nat, i < k → (i : Int) ∈ row) → Sp.rgo st f k row ps = some r → Sp.Led st r.1 ∧ ∀ i : Nat, i < st.length → (i : Int) ∈ r.1
  | 0, k, row, ps, r, hk, hl, _, ha, h => by
    simp only [Sp.rgo, Option.some.injEq] at h
    subst h
    exact ⟨hl, fun i hi => ha i (by omega)⟩
  | f + 1, k, row, ps, r, hk, hl, hb, ha, h => by
    rw [Sp.rgo] at h
    by_cases hm : (k : Int) ∈ row
    · rw [if_pos hm] at h
      refine Sp.rgo_led hx f (k + 1) row ps r (by omega) hl hb (fun i hi => ?_) h
      rcases Nat.lt_or_ge i k with h1 | h1
      · exact ha i h1
      · rw [show i = k by omega]; exact hm
    · rw [if_neg hm] at h
      cases hw : Sp.walkR st k (st.length + 1 - row.length) k row with
      | none => rw [hw] at h; cases h
      | some row1 =>
        rw [hw] at h
        obtain ⟨r1, r2, r3⟩ := Sp.walkR_led hx k _ _ _ _ (by omega) (by omega) (fun x hx' => ⟨hb x hx', .inr (hl x hx')⟩) (.inl rfl) (fun _ h2 => absurd h2 hm) hw
        refine Sp.rgo_led hx f (k + 1) row1 _ r (by omega) r1 (fun x hx' => ?_) (fun i hi => ?_) h
        · obtain ⟨y, -, e2, e3⟩ := r1 x hx'
          rw [← e3]
          exact hx _ (Sp.getD_mem e2)
        · rcases Nat.lt_or_ge i k with h1 | h1
          · exact r3 _ (ha i h1)
          · rw [show i = k by omega]; exact r2
theorem Sp.rnds_perm {st : List Int} (hx : ∀ x ∈ st, 0 ≤ x ∧ x < (st.length : Int)) (h : (Sp.rnds st).isSome = true) : Sp.Perm st := by
  obtain ⟨r, hr⟩ := Option.isSome_iff_exists.1 h
  obtain ⟨h1, h2⟩ := Sp.rgo_led hx st.length 0 [] [] r (by omega) (fun x hx' => by simp at hx') (fun x hx' => by simp at hx') (fun i hi => by omega) hr
  refine perm_of_onto hx (fun x hx' => ?_)
  obtain ⟨y, -, e2, e3⟩ := h1 _ (h2 x hx')
  exact ⟨y, e2, by unfold Sp.fn; rw [e3, Int.toNat_natCast]⟩
theorem Sp.turnC_not (tl : List Int) : ∀ (c : List (List Int)) (bg : List Int), Sp.turnC tl c bg = true → ∀ r ∈ c, ¬ tl.getD (r.getD 0 0).toNat 0 ∈ bg ∧ ∀ x ∈ r, tl.getD x.toNat 0 = tl.getD (r.getD 0 0).toNat 0
  | [], _, _, r, hr => by simp at hr
  | r0 :: c, bg, h, r, hr => by
    rw [Sp.turnC] at h
    by_cases h1 : tl.getD (r0.getD 0 0).toNat 0 ∈ bg
    · rw [if_pos h1] at h; cases h
    · rw [if_neg h1] at h
      by_cases h2 : r0.all (fun d => tl.getD d.toNat 0 == tl.getD (r0.getD 0 0).toNat 0) = true
      · rw [if_pos h2] at h
        rcases List.mem_cons.1 hr with e | e
        · rw [e]
          exact ⟨h1, fun x hx => eq_of_beq (List.all_eq_true.1 h2 x hx)⟩
        · obtain ⟨a1, a2⟩ := Sp.turnC_not tl c _ h r e
          exact ⟨fun hm => a1 (List.mem_append_left _ hm), a2⟩
      · rw [if_neg h2] at h; cases h
theorem Sp.turnC_apart (tl : List Int) : ∀ (c : List (List Int)) (bg : List Int), Sp.turnC tl c bg = true → ∀ r ∈ c, ∀ r' ∈ c, tl.getD (r.getD 0 0).toNat 0 = tl.getD (r'.getD 0 0).toNat 0 → r = r'
  | [], _, _, r, hr, _, _, _ => by simp at hr
  | r0 :: c, bg, h, r, hr, r', hr', e => by
    have h0 := h
    rw [Sp.turnC] at h
    by_cases h1 : tl.getD (r0.getD 0 0).toNat 0 ∈ bg
    · rw [if_pos h1] at h; cases h
    · rw [if_neg h1] at h
      by_cases h2 : r0.all (fun d => tl.getD d.toNat 0 == tl.getD (r0.getD 0 0).toNat 0) = true
      · rw [if_pos h2] at h
        rcases List.mem_cons.1 hr with e1 | e1 <;> rcases List.mem_cons.1 hr' with e2 | e2
        · rw [e1, e2]
        · exact absurd (by rw [← e, e1]; exact List.mem_append_right _ (by simp)) (Sp.turnC_not tl c _ h r' e2).1
        · exact absurd (by rw [e, e2]; exact List.mem_append_right _ (by simp)) (Sp.turnC_not tl c _ h r e1).1
        · exact Sp.turnC_apart tl c _ h r e1 r' e2 e
      · rw [if_neg h2] at h; cases h
/-- What it means that each vertex's darts are one round. -/
theorem Sp.turning_to {q : Sp.Net} (hx : ∀ x ∈ q.next, 0 ≤ x ∧ x < (q.next.length : Int)) (h : Sp.turningB q = true) :
    Sp.Perm q.next ∧ (∀ i, i < q.next.length → q.tail.getD (Sp.fn q.next i) 0 = q.tail.getD i 0) ∧ ∀ i j, i < q.next.length → j < q.next.length → q.tail.getD i 0 = q.tail.getD j 0 → OrbF (Sp.fn q.next) i j := by
  unfold Sp.turningB at h
  rw [Bool.and_eq_true] at h
  have hp := Sp.rnds_perm hx h.2
  have h1 := h.1
  rw [Sp.rndsD_cyc hp] at h1
  have hc := Sp.turnGo_cyc q.tail (Sp.cycs q.next) [] [] (fun r hr => by
    obtain ⟨e, he, rfl⟩ := Sp.cyc_pos hp _ 0 [] (by omega) r hr
    exact (rounds_head hp he).2)
  rw [List.nil_append] at hc
  have h2 : Sp.turnC q.tail (Sp.cycs q.next) [] = true := by rw [← hc]; exact h1
  have hin : ∀ i : Nat, i < q.next.length → ∃ e : Nat, e < q.next.length ∧ Sp.rounds q.next e (Sp.per q.next e) ∈ Sp.cycs q.next ∧ OrbF (Sp.fn q.next) e i ∧ q.tail.getD i 0 = q.tail.getD e 0 := fun i hi => by
    rcases Sp.cyc_all hp q.next.length 0 [] (by omega) (fun i hi => by omega) i hi with h3 | ⟨r, h3, h4⟩
    · simp at h3
    · obtain ⟨e, he, rfl⟩ := Sp.cyc_pos hp _ 0 [] (by omega) r h3
      have h5 := (Sp.turnC_not q.tail _ _ h2 _ h3).2 _ h4
      rw [(rounds_head hp he).1, Int.toNat_natCast, Int.toNat_natCast] at h5
      obtain ⟨j, ej, o⟩ := (hp.mem_rounds he _).1 h4
      have : i = j := by omega
      subst this
      exact ⟨e, he, h3, o, h5⟩
  refine ⟨hp, fun i hi => ?_, fun i j hi hj e => ?_⟩
  · obtain ⟨a, ha, ham, hao, hat⟩ := hin i hi
    have hm : ((Sp.fn q.next i : Nat) : Int) ∈ Sp.rounds q.next a (Sp.per q.next a) := (hp.mem_rounds ha _).2 ⟨_, rfl, hao.trans (OrbF.one _ _)⟩
    have h5 := (Sp.turnC_not q.tail _ _ h2 _ ham).2 _ hm
    rw [(rounds_head hp ha).1, Int.toNat_natCast, Int.toNat_natCast] at h5
    rw [h5, hat]
  · obtain ⟨a, ha, ham, hao, hat⟩ := hin i hi
    obtain ⟨b, hb, hbm, hbo, hbt⟩ := hin j hj
    have h5 := Sp.turnC_apart q.tail _ _ h2 _ ham _ hbm (by rw [(rounds_head hp ha).1, (rounds_head hp hb).1, Int.toNat_natCast, Int.toNat_natCast, ← hat, ← hbt, e])
    have hm : (b : Int) ∈ Sp.rounds q.next a (Sp.per q.next a) := by rw [h5]; exact (hp.mem_rounds hb _).2 ⟨b, rfl, OrbF.refl _ _⟩
    obtain ⟨b', eb, o⟩ := (hp.mem_rounds ha _).1 hm
    have : b = b' := by omega
    subst this
    exact ((hp.sym ha hao).trans o).trans hbo
/-- How far the reference goes from a dart. -/
structure K2 (st : List Int) (d k : Nat) : Prop where
  pos : 1 ≤ k
  le : k ≤ st.length + 1
  no : ∀ m, 1 ≤ m → m < k → Sp.nth st d m ≠ d
  hit : k ≤ st.length → Sp.nth st d k = d
theorem K2.per {st : List Int} {d k : Nat} (h : K2 st d k) (hp : Sp.Perm st) (hd : d < st.length) : k = Sp.per st d := by
  obtain ⟨p1, p2, p3, p4⟩ := hp.per hd
  rcases Nat.lt_trichotomy k (Sp.per st d) with h1 | h1 | h1
  · exact absurd (h.hit (by omega)) (p4 k (by have := h.pos; omega) h1)
  · exact h1
  · exact absurd p3 (h.no _ p1 h1)
theorem per_cnt {st tl : List Int} (hp : Sp.Perm st) (hT : ∀ i, i < st.length → tl.getD (Sp.fn st i) 0 = tl.getD i 0) (hS : ∀ i j, i < st.length → j < st.length → tl.getD i 0 = tl.getD j 0 → OrbF (Sp.fn st) i j) {d : Nat} (hd : d < st.length) : Sp.per st d = Sp.cnt (fun i => decide (tl.getD i 0 = tl.getD d 0)) st.length := by
  have hT' : ∀ m, tl.getD (itf (Sp.fn st) d m) 0 = tl.getD d 0 := fun m => by
    induction m with
    | zero => rfl
    | succ m ih => exact (hT _ (hp.fnP.it hd m)).trans ih
  have hmem : ∀ i : Nat, (i : Int) ∈ Sp.rounds st d (Sp.per st d) ↔ i < st.length ∧ tl.getD i 0 = tl.getD d 0 := fun i => by
    constructor
    · intro h
      obtain ⟨j, e, m, rfl⟩ := (hp.mem_rounds hd _).1 h
      have : i = itf (Sp.fn st) d m := by omega
      rw [this]
      exact ⟨hp.fnP.it hd m, hT' m⟩
    · intro ⟨h1, h2⟩
      exact (hp.mem_rounds hd _).2 ⟨i, rfl, hS d i hd h1 h2.symm⟩
  have hnd : (((List.range st.length).filter fun i => decide (tl.getD i 0 = tl.getD d 0)).map fun i : Nat => (i : Int)).Nodup := by
    unfold List.Nodup
    rw [List.pairwise_map]
    refine List.Pairwise.imp (R := fun a b : Nat => a ≠ b) (fun {a b} (h : a ≠ b) (e : (a : Int) = (b : Int)) => h (by omega)) ?_
    exact List.Pairwise.filter _ List.nodup_range
  have hlen : (((List.range st.length).filter fun i => decide (tl.getD i 0 = tl.getD d 0)).map fun i : Nat => (i : Int)).length = Sp.cnt (fun i => decide (tl.getD i 0 = tl.getD d 0)) st.length := by
    rw [List.length_map]; rfl
  have h1 := nodup_sub _ _ (Sp.rounds_nodup hp hd) (fun y hy => by
    obtain ⟨j, rfl, o⟩ := (hp.mem_rounds hd y).1 hy
    have := (hmem j).1 hy
    exact List.mem_map.2 ⟨j, List.mem_filter.2 ⟨List.mem_range.2 this.1, decide_eq_true this.2⟩, rfl⟩)
  have h2 := nodup_sub _ _ hnd (fun y hy => by
    obtain ⟨j, hj, rfl⟩ := List.mem_map.1 hy
    obtain ⟨a, b⟩ := List.mem_filter.1 hj
    exact (hmem j).2 ⟨List.mem_range.1 a, of_decide_eq_true b⟩)
  rw [hlen, Sp.rounds_len] at h1 h2
  omega
/-- What the reference looked at tells it. -/
theorem Sp.turning_by {q : Sp.Net} (hx : ∀ x ∈ q.next, 0 ≤ x ∧ x < (q.next.length : Int)) (hT : ∀ i, i < q.next.length → q.tail.getD (Sp.fn q.next i) 0 = q.tail.getD i 0)
    (hK : ∀ d, d < q.next.length → K2 q.next d (Sp.cnt (fun i => decide (q.tail.getD i 0 = q.tail.getD d 0)) q.next.length)) : Sp.turningB q = true := by
  have hback : ∀ d, d < q.next.length → Sp.nth q.next d (Sp.cnt (fun i => decide (q.tail.getD i 0 = q.tail.getD d 0)) q.next.length) = d := fun d hd => (hK d hd).hit (Sp.cnt_le _ _)
  have hp : Sp.Perm q.next := perm_of_onto hx (fun d hd => by
    have h1 := (hK d hd).pos
    have h2 := hback d hd
    generalize Sp.cnt (fun i => decide (q.tail.getD i 0 = q.tail.getD d 0)) q.next.length = k at h1 h2
    have hb := Sp.nth_bd (d := (d : Int)) rfl hx (by omega) (by omega) (k - 1)
    refine ⟨(Sp.nth q.next d (k - 1)).toNat, by omega, ?_⟩
    have e : Sp.nth q.next d (k - 1 + 1) = (d : Int) := by rw [show k - 1 + 1 = k by omega]; exact h2
    have e2 : q.next.getD (Sp.nth q.next d (k - 1)).toNat 0 = (d : Int) := e
    unfold Sp.fn
    rw [e2, Int.toNat_natCast])
  have hT' : ∀ d, d < q.next.length → ∀ m, q.tail.getD (itf (Sp.fn q.next) d m) 0 = q.tail.getD d 0 := fun d hd m => by
    induction m with
    | zero => rfl
    | succ m ih => exact (hT _ (hp.fnP.it hd m)).trans ih
  refine Sp.turning_of hp hT (fun i j hi hj e => ?_)
  -- the round has as many places as bear its tail: all of them
  have hper : Sp.per q.next i = Sp.cnt (fun x => decide (q.tail.getD x 0 = q.tail.getD i 0)) q.next.length := ((hK i hi).per hp hi).symm
  apply Classical.byContradiction
  intro hno
  have hnj : ¬ (j : Int) ∈ Sp.rounds q.next i (Sp.per q.next i) := fun hm => by
    obtain ⟨j', ej, o⟩ := (hp.mem_rounds hi _).1 hm
    have : j = j' := by omega
    subst this
    exact hno o
  have hnd : ((j : Int) :: Sp.rounds q.next i (Sp.per q.next i)).Nodup := by
    rw [List.nodup_cons]
    exact ⟨hnj, Sp.rounds_nodup hp hi⟩
  have h1 := nodup_sub _ (((List.range q.next.length).filter fun x => decide (q.tail.getD x 0 = q.tail.getD i 0)).map fun x : Nat => (x : Int)) hnd (fun y hy => by
    rcases List.mem_cons.1 hy with e1 | e1
    · exact List.mem_map.2 ⟨j, List.mem_filter.2 ⟨List.mem_range.2 hj, decide_eq_true e.symm⟩, e1.symm⟩
    · obtain ⟨m', rfl, m, rfl⟩ := (hp.mem_rounds hi y).1 e1
      exact List.mem_map.2 ⟨_, List.mem_filter.2 ⟨List.mem_range.2 (hp.fnP.it hi m), decide_eq_true (hT' i hi m)⟩, rfl⟩)
  rw [List.length_cons, Sp.rounds_len, List.length_map] at h1
  unfold Sp.cnt at hper
  omega
end Go.Proofs.Ytcdpgiklmonabaa


