/- What the proof needs, part 15. -/
import Derived.Test.YtnkkgeammohemabL14
/- The law RotGrows, walked. -/
namespace Go.Proofs.Ytnkkgeammohemab
open Go Go.RowKit

theorem three_of {nx : List Int} (hp : Sp.Perm nx) {y : Nat} (hy : y < nx.length) (h3 : 3 ≤ Sp.per nx y) : Three nx (itf (Sp.fn nx) y 0) (itf (Sp.fn nx) y 1) (itf (Sp.fn nx) y 2) (itf (Sp.fn nx) y 3) :=
  ⟨hp.fnP.it hy 0, hp.fnP.it hy 1, hp.fnP.it hy 2, rfl, rfl, rfl, itf_apart hp hy (by omega) (by omega), itf_apart hp hy (by omega) (by omega), itf_apart hp hy (by omega) (by omega)⟩
/-- The net behind the exchange: what stays. -/
theorem exch_net {w3 wr : World} {B : Nat} {q : Sp.Net} {ta ca : Option Addr} {tc cc gn nc a0 a1 a2 x3 ln : Nat} (h : NetV wr B (.agg #[.int .i64 q.n, .slice ta ln tc, .slice (some ⟨gn, 0, none⟩) ln nc, .slice ca ln cc]) q (.slice ta ln tc) (.slice (some ⟨gn, 0, none⟩) ln nc) (.slice ca ln cc))
    (hx : wr.heap[w3.heap.size]? = some (.cells #[.int .i64 q.n, .slice ta ln tc, .slice (some ⟨gn, 0, none⟩) ln nc, .slice ca ln cc] 25 (0, 0))) (hg : gn ≠ w3.heap.size) (W : World) (hW : W = ((wr.setCell ⟨gn, a0, none⟩ (.int .i64 (a2 : Int))).setCell ⟨gn, a1, none⟩ (.int .i64 (x3 : Int))).setCell ⟨gn, a2, none⟩ (.int .i64 (a1 : Int))) :
    NetV W B (.agg #[.int .i64 q.n, .slice ta ln tc, .slice (some ⟨gn, 0, none⟩) ln nc, .slice ca ln cc]) ⟨q.n, q.tail, Sp.exch q.next a0 a1 a2 x3, q.cap⟩ (.slice ta ln tc) (.slice (some ⟨gn, 0, none⟩) ln nc) (.slice ca ln cc) ∧ W.heap[w3.heap.size]? = some (.cells #[.int .i64 q.n, .slice ta ln tc, .slice (some ⟨gn, 0, none⟩) ln nc, .slice ca ln cc] 25 (0, 0)) := by
  subst hW
  have hbut : ButRow gn wr (((wr.setCell ⟨gn, a0, none⟩ (.int .i64 (a2 : Int))).setCell ⟨gn, a1, none⟩ (.int .i64 (x3 : Int))).setCell ⟨gn, a2, none⟩ (.int .i64 (a1 : Int))) := (((ButRow.refl gn wr).setCell a0 _).setCell a1 _).setCell a2 _
  refine ⟨⟨rfl, own_but h.tail hbut ?_, own_setCell (own_setCell (own_setCell h.next a0 (a2 : Int)) a1 (x3 : Int)) a2 (a1 : Int), own_but h.cap hbut ?_, h.tn, h.tc, h.nc⟩, (hbut.block _ (Ne.symm hg)).trans hx⟩
  · intro e
    rcases h.tn with e1 | e1
    · rw [e1] at e; cases e
    · exact e1 e
  · intro e
    rcases h.nc with e1 | e1
    · cases e1
    · exact e1 e.symm
set_option maxRecDepth 100000 in
set_option maxHeartbeats 4000000 in
theorem rotGrows_any (ns ms : List Int) (x yv : Value) (d size : Int) (w : World) (hx : Ints w x ns) (hy : Ints w yv ms) (hi64 : ∀ y ∈ ms, -9223372036854775808 ≤ y ∧ y ≤ 9223372036854775807) :
    Calls Try.prog 7 #[x, .int .i64 d, .int .i64 size, yv] w fun e w' => e = .returned (.bool true) ∧ Below w.heap.size w w' := by
  obtain ⟨a, c, rfl, hc, hm⟩ := hx.form
  obtain ⟨a2', c2', rfl, hc2, hm2⟩ := hy.form
  have HPL := hide (fun w' (hb : Below w.heap.size w w') => plane_any ns (.slice a ns.length c) w' (hx.below hb))
  have HMK := hide (fun w' (hb : Below w.heap.size w w') => make_any size ms (.slice a2' ms.length c2') w' (hy.below hb) hy.len hi64)
  have HOK := hide (Sp.plane_ok ns)
  have HPP := hide (Sp.plane_plain ns)
  have HMW := hide (Sp.make_whole size ms)
  generalize Sp.plane ns = q at *
  generalize Sp.make size ms = m at *
  generalize ns.length = n at *
  generalize ms.length = n2 at *
  clear hx hy hi64
  have hl48 : q.tail.length ≤ 48 := (unhide HOK).le
  obtain ⟨ln, hln⟩ : ∃ ln, q.tail.length = ln := ⟨_, rfl⟩
  rw [hln] at hl48
  have hnl : q.next.length = ln := by rw [(unhide HOK).nx, hln]
  have hcl : q.cap.length = ln := by rw [(unhide HOK).cp, hln]
  have Hln := hide hln
  have Hnl := hide hnl
  have Hcl := hide hcl
  clear hln hnl hcl
  obtain ⟨P, hP⟩ : ∃ P : Ending → World → Prop, P = fun e w' => e = .returned (.bool true) ∧ Below w.heap.size w w' := ⟨_, rfl⟩
  rw [← hP]
  have HP := hide hP
  clear hP
  go_enter Try.func7, Try.ntmps7
  go_wp2_with fail
  go_at_call 9
  refine (known2_any w).mono ?_
  rintro e w2 ⟨rfl, hb2⟩
  have Hb2 := hide hb2
  clear hb2
  go_wp2_with fail
  go_at_call 12
  refine (unhide HPL _ (unhide Hb2)).mono ?_
  clear HPL
  rintro e w3 ⟨v, tv, nv, cv, rfl, hnv, hb3⟩
  have hval := hnv.val
  subst hval
  obtain ⟨ta, tc, htv, -, -⟩ := hnv.netI.tail.form
  obtain ⟨na, nc, hnv', -, -⟩ := hnv.netI.next.form
  obtain ⟨ca, cc, hcv, -, -⟩ := hnv.netI.cap.form
  rw [unhide Hln] at htv
  rw [unhide Hnl] at hnv'
  rw [unhide Hcl] at hcv
  subst htv hnv' hcv
  obtain ⟨W4, hW4⟩ : ∃ W4, W4 = w3.alloc (.cells #[.int .i64 q.n, .slice ta ln tc, .slice na ln nc, .slice ca ln cc] 25) := ⟨_, rfl⟩
  obtain ⟨hBX, hs4, hTR⟩ := boxed ((unhide Hb2).trans (hb3.mono (unhide Hb2).size)) hnv.netI W4 hW4
  have HNV : Hid (∀ w', Below w3.heap.size w3 w' → NetV w' w2.heap.size (.agg #[.int .i64 q.n, .slice ta ln tc, .slice na ln nc, .slice ca ln cc]) q (.slice ta ln tc) (.slice na ln nc) (.slice ca ln cc)) := hide fun w' hb => hnv.keep hb
  have HBxo : Hid (∀ w', Below (w3.heap.size + 1) W4 w' → w'.heap[w3.heap.size]? = some (.cells #[.int .i64 q.n, .slice ta ln tc, .slice na ln nc, .slice ca ln cc] 25 (0, 0))) := hide fun w' hb => by
    rw [hb.block w3.heap.size (by omega), hW4]
    exact heap_alloc_new w3 _
  have HB23 := hide hb3
  have HBX := hide hBX
  have HTR := hide hTR
  have Hs4 := hide hs4
  have HW4 := hide hW4
  clear hnv hb3 hBX hTR hs4 hW4
  have hb4 : Below (w3.heap.size + 1) W4 W4 := Below.refl _ _
  have HWK := hide ((unhide HOK).walk (by omega))
  have HA := hide (fun (y : Int) w' (hb : Below (w3.heap.size + 1) W4 w') => about_any q _ _ _ _ y w' (unhide HBX w' hb).2.1 (unhide HWK))
  by_cases hz : ln = 0
  · subst hz
    go_wp2
    rw [unhide HP, ← unhide HW4]
    exact ⟨by rfl, (unhide HBX _ hb4).2.2.1⟩
  · have hzI : ¬ (ln : Int) = 0 := by omega
    have hzB : ((ln : Int) == 0) = false := beq_eq_false_iff_ne.2 hzI
    have HPl : Hid (Sp.Plain q) := hide (by
      rcases unhide HPP with e | e
      · exact absurd (by rw [← unhide Hln, e]; rfl) hz
      · exact e.2)
    go_wp2_with fail
    go_at_call 10
    refine (within2_any d ln _ (by omega) (by omega)).mono ?_
    rintro e w5 ⟨rfl, rfl⟩
    rw [← unhide HW4]
    have hd0 : 0 ≤ d % (ln : Int) := Int.emod_nonneg _ hzI
    have hd1 : d % (ln : Int) < ln := Int.emod_lt_of_pos _ (by omega)
    obtain ⟨y, hy⟩ : ∃ y : Nat, d % (ln : Int) = (y : Int) := ⟨(d % (ln : Int)).toNat, by omega⟩
    have hyl : y < ln := by omega
    rw [hy]
    clear hd0 hd1 hy
    have hyn : y < q.next.length := by rw [unhide Hnl]; exact hyl
    obtain ⟨p, hp⟩ : ∃ p, Sp.per q.next y = p := ⟨_, rfl⟩
    have hp1 : 1 ≤ p := by rw [← hp]; exact ((unhide HOK).pm.per hyn).1
    have hp48 : p ≤ 48 := by
      have := ((unhide HOK).pm.per hyn).2.1
      rw [hp, unhide Hnl] at this
      omega
    have HA1 := hide (unhide HA (y : Int))
    rw [Sp.roundOf_eq (unhide HOK).pm hyn, hp] at HA1
    have HG : Hid (∀ i, i < p → (Sp.rounds q.next y p).getD i 0 = ((itf (Sp.fn q.next) y i : Nat) : Int) ∧ itf (Sp.fn q.next) y i < ln) := hide fun i hi => ⟨rounds_getD (unhide HOK).pm hyn hi, by have := (unhide HOK).pm.fnP.it hyn i; rw [unhide Hnl] at this; exact this⟩
    have HTh : Hid (3 ≤ p → Three q.next (itf (Sp.fn q.next) y 0) (itf (Sp.fn q.next) y 1) (itf (Sp.fn q.next) y 2) (itf (Sp.fn q.next) y 3)) := hide fun h => three_of (unhide HOK).pm hyn (by rw [hp]; exact h)
    have HRl : Hid ((Sp.rounds q.next y p).length = p) := hide (Sp.rounds_len _ _ _)
    generalize Sp.rounds q.next y p = A at *
    generalize itf (Sp.fn q.next) y = zt at *
    obtain ⟨x0, x1, x2, x3⟩ := (unhide HBX W4 hb4).1
    clear HA hp hyn HPP
    go_wp2_with fail
    go_at_call 14
    refine (unhide HA1 W4 hb4).mono ?_
    rintro e w6 ⟨av, rfl, hav, hl6⟩
    have HA6 := hide (And.intro hav.ints (unhide HTR _ _ hb4 hl6))
    obtain ⟨ab, ao, ac, hae, hac, ham⟩ := hav.ints.openP (by rw [unhide HRl]; omega)
    rw [unhide HRl] at hae hac
    subst hae
    have Hgb : Hid (w3.heap.size + 1 ≤ ab) := hide (by
      obtain ⟨g, o, c', e, hge, -⟩ := mine_open hav (by rw [unhide HRl]; omega)
      injection e with e1
      injection e1 with e1
      injection e1 with e1 _
      rw [unhide Hs4] at hge
      rw [e1]; exact hge)
    clear hav hl6 hb4 HA1 x0 x1 x2 x3
    by_cases h3 : p < 3
    · have h3I : (p : Int) < 3 := by omega
      have h3d : decide ((p : Int) < 3) = true := decide_eq_true h3I
      have Hfin := hide (unhide HBX _ (unhide HA6).2).2.2.1
      go_wp2
      rw [unhide HP]
      exact ⟨by rfl, unhide Hfin⟩
    · have h3I : ¬ (p : Int) < 3 := by omega
      have h3d : decide ((p : Int) < 3) = false := decide_eq_false h3I
      have HT3 := hide (unhide HTh (by omega))
      have HAc : Hid (∀ wr, Hid (Ints wr (.slice (some ⟨ab, ao, none⟩) p ac) A ∧ Below (w3.heap.size + 1) W4 wr) → ∀ k, k < p → wr.cell? ⟨ab, ao + k, none⟩ = some (.int .i64 ((zt k : Nat) : Int))) := hide fun wr h k hk => by
        have := (unhide h).1.cellD k (by rw [unhide HRl]; exact hk)
        rw [(unhide HG k hk).1] at this
        exact this
      have HAd : Hid (∀ wr nq, Hid (Ints wr (.slice (some ⟨ab, ao, none⟩) p ac) A ∧ Below (w3.heap.size + 1) W4 wr) → Hid (Ints (World.drewN wr nq) (.slice (some ⟨ab, ao, none⟩) p ac) A ∧ Below (w3.heap.size + 1) W4 (World.drewN wr nq))) := hide fun wr nq h => hide ⟨(unhide h).1.below (below_dn (Below.refl _ _) nq), below_dn (unhide h).2 nq⟩
      go_wp2_with fail
      go_loopg [12] 3 (fun g s12 wr => ∃ i : Nat, i + g = 3 ∧ s12 = .int .i64 (i : Int) ∧ Hid (Ints wr (.slice (some ⟨ab, ao, none⟩) p ac) A ∧ Below (w3.heap.size + 1) W4 wr))
      case atStart => exact ⟨0, by omega, rfl, HA6⟩
      case round =>
        obtain ⟨i, hig, rfl, HAr⟩ := hrel
        obtain ⟨x0, x1, x2, x3⟩ := (unhide HBX wr (unhide HAr).2).1
        clear HA6
        cases gk with
        | succ g' =>
          have hi3 : i < 3 := by omega
          have hi3I : (i : Int) < 3 := by omega
          have hip : (i : Int) < (p : Int) := by omega
          have c1 := unhide HAc wr HAr i (by omega)
          have hzl := (unhide HG i (by omega)).2
          have HAr2 := hide (fun nq => unhide HAd wr nq HAr)
          clear HAr x0 x1 x3
          generalize zt i = z at *
          have hb0 : decide ((z : Int) < 0) = false := decide_eq_false (by omega)
          have hb0n : ¬ (z : Int) < 0 := by omega
          have hb1 : decide ((ln : Int) ≤ (z : Int)) = false := decide_eq_false (by omega)
          have hb1' : decide (ln ≤ z) = false := decide_eq_false (by omega)
          have hb1n : ¬ (ln : Int) ≤ (z : Int) := by omega
          have hb1m : ¬ ln ≤ z := by omega
          go_wp2
          go_quiet (fail)
          have HAq := unhide HAr2 nq
          clear c1 x2 HAr2
          generalize wr.drewN nq = wq at *
          go_wp2
          go_roundg g'
          case rel => exact ⟨i + 1, by omega, by go_num, HAq⟩
          case measure => omega
        | zero =>
          have hie : i = 3 := by omega
          rw [hie]
          clear hie hig
          have c0 := unhide HAc wr HAr 0 (by omega)
          rw [Nat.add_zero] at c0
          have c1 := unhide HAc wr HAr 1 (by omega)
          have c2 := unhide HAc wr HAr 2 (by omega)
          have l0 := (unhide HG 0 (by omega)).2
          have l1 := (unhide HG 1 (by omega)).2
          have l2 := (unhide HG 2 (by omega)).2
          have HNr := hide (unhide HNV wr (unhide HBX wr (unhide HAr).2).2.2.2.2)
          have HBr := hide (unhide HBxo wr (unhide HAr).2)
          have HBel := hide (unhide HAr).2
          obtain ⟨gn, gc, hne, hgn1, hgn2, -, -⟩ := own_form (unhide HNV w3 (Below.refl _ _)).next (by rw [unhide Hnl]; omega)
          injection hne with hne1 hne2 hne3
          subst hne1
          have Hgn := hide (And.intro hgn1 hgn2)
          have HTh3 := HT3
          have n2 : q.next.getD (zt 2) 0 = ((zt 3 : Nat) : Int) := by
            have := (unhide HOK).pm.bd _ (Sp.getD_mem (l := q.next) (k := zt 2) (by rw [unhide Hnl]; exact l2))
            have e := (unhide HT3).e2
            unfold Sp.fn at e
            omega
          have k0 := own_cell (unhide HNr).next (zt 0) (by rw [unhide Hnl]; exact l0)
          have k1 := own_cell (unhide HNr).next (zt 1) (by rw [unhide Hnl]; exact l1)
          have k2 := own_cell (unhide HNr).next (zt 2) (by rw [unhide Hnl]; exact l2)
          rw [← Sp.getD_eq] at k2
          rw [n2] at k2
          have f0 := own_frozen (unhide HNr).next (zt 0)
          have f1 := own_frozen (unhide HNr).next (zt 1)
          have f2 := own_frozen (unhide HNr).next (zt 2)
          generalize q.next[zt 0]'_ = u0 at *
          generalize q.next[zt 1]'_ = u1 at *
          have HCx : Hid (Sp.checkI ⟨q.n, q.tail, Sp.exch q.next (zt 0) (zt 1) (zt 2) (zt 3), q.cap⟩ = 0 ∨ Sp.checkI ⟨q.n, q.tail, Sp.exch q.next (zt 0) (zt 1) (zt 2) (zt 3), q.cap⟩ = 8) := hide (Sp.check_exch (unhide HWK) (unhide HOK).n0 (unhide HOK).pm (unhide HOK).cb (unhide HPl) (unhide HT3))
          have d01 := (unhide HT3).d01
          have d02 := (unhide HT3).d02
          have d12 := (unhide HT3).d12
          have d10 := d01.symm
          have d20 := d02.symm
          have d21 := d12.symm
          have HX := hide (fun W hW => exch_net (w3 := w3) (a0 := zt 0) (a1 := zt 1) (a2 := zt 2) (x3 := zt 3) (unhide HNr) (unhide HBr) (by have := (unhide Hgn).2; omega) W hW)
          clear hne2 hne3 hgn1 hgn2 n2 HAr HT3 HTh3 HTh HG HAc HAd
          generalize zt 0 = z0 at *
          generalize zt 1 = z1 at *
          generalize zt 2 = z2 at *
          generalize zt 3 = z3 at *
          have l0I : (z0 : Int) < (ln : Int) := by omega
          have l1I : (z1 : Int) < (ln : Int) := by omega
          have l2I : (z2 : Int) < (ln : Int) := by omega
          have hp0 : (0 : Int) < (p : Int) := by omega
          have hp0N : 0 < p := by omega
          have hp1N : 1 < p := by omega
          have hp2N : 2 < p := by omega
          have hp1' : (1 : Int) < (p : Int) := by omega
          have hp2' : (2 : Int) < (p : Int) := by omega
          clear x0 x1 x3
          go_upto_region 15 with fail
          have HBw := hide (unhide HBX wr (unhide HBel)).2.2.1
          have HX2 : Hid (∀ W, W = ((wr.setCell ⟨gn, z0, none⟩ (.int .i64 (z2 : Int))).setCell ⟨gn, z1, none⟩ (.int .i64 (z3 : Int))).setCell ⟨gn, z2, none⟩ (.int .i64 (z1 : Int)) → NetV W w2.heap.size (.agg #[.int .i64 q.n, .slice ta ln tc, .slice (some ⟨gn, 0, none⟩) ln nc, .slice ca ln cc]) ⟨q.n, q.tail, Sp.exch q.next z0 z1 z2 z3, q.cap⟩ (.slice ta ln tc) (.slice (some ⟨gn, 0, none⟩) ln nc) (.slice ca ln cc) ∧ W.heap[w3.heap.size]? = some (.cells #[.int .i64 q.n, .slice ta ln tc, .slice (some ⟨gn, 0, none⟩) ln nc, .slice ca ln cc] 25 (0, 0)) ∧ Below w.heap.size w W) := hide fun W hW => by
            obtain ⟨e1, e2⟩ := unhide HX W hW
            refine ⟨e1, e2, ?_⟩
            have hge : w.heap.size ≤ gn := Nat.le_trans (unhide Hb2).size (unhide Hgn).1
            rw [hW]
            exact (((unhide HBw).setCell (by exact hge) _).setCell (by exact hge) _).setCell (by exact hge) _
          clear HX HNr HBr HBxo HNV
          go_cut [] (fun wx => Hid (NetV wx w2.heap.size (.agg #[.int .i64 q.n, .slice ta ln tc, .slice (some ⟨gn, 0, none⟩) ln nc, .slice ca ln cc]) ⟨q.n, q.tail, Sp.exch q.next z0 z1 z2 z3, q.cap⟩ (.slice ta ln tc) (.slice (some ⟨gn, 0, none⟩) ln nc) (.slice ca ln cc) ∧ wx.heap[w3.heap.size]? = some (.cells #[.int .i64 q.n, .slice ta ln tc, .slice (some ⟨gn, 0, none⟩) ln nc, .slice ca ln cc] 25 (0, 0)) ∧ Below w.heap.size w wx))
          case first =>
            have hgn3 : gn ≠ w3.heap.size := by have := (unhide Hgn).2; omega
            have hgn3' := hgn3.symm
            have hga : gn ≠ ab := by have := (unhide Hgn).2; have := unhide Hgb; omega
            have hga' := hga.symm
            have HX3 : Hid (∀ W, W = ((wr.drew.setCell ⟨gn, z0, none⟩ (.int .i64 (z2 : Int))).setCell ⟨gn, z1, none⟩ (.int .i64 (z3 : Int))).setCell ⟨gn, z2, none⟩ (.int .i64 (z1 : Int)) → NetV W w2.heap.size (.agg #[.int .i64 q.n, .slice ta ln tc, .slice (some ⟨gn, 0, none⟩) ln nc, .slice ca ln cc]) ⟨q.n, q.tail, Sp.exch q.next z0 z1 z2 z3, q.cap⟩ (.slice ta ln tc) (.slice (some ⟨gn, 0, none⟩) ln nc) (.slice ca ln cc) ∧ W.heap[w3.heap.size]? = some (.cells #[.int .i64 q.n, .slice ta ln tc, .slice (some ⟨gn, 0, none⟩) ln nc, .slice ca ln cc] 25 (0, 0)) ∧ Below w.heap.size w W) := hide fun W hW => by
              obtain ⟨e1, e2, e3⟩ := unhide HX2 _ rfl
              subst hW
              exact ⟨⟨e1.val, e1.tail, e1.next, e1.cap, e1.tn, e1.tc, e1.nc⟩, e2, ⟨e3.os, e3.tape, e3.output, e3.size, e3.block⟩⟩
            have hS0 : wr.drew.cell? ⟨w3.heap.size, 2, none⟩ = some (.slice (some ⟨gn, 0, none⟩) ln nc) ∧ wr.drew.cell? ⟨ab, ao, none⟩ = some (.int .i64 (z0 : Int)) ∧ wr.drew.cell? ⟨ab, ao + 1, none⟩ = some (.int .i64 (z1 : Int)) ∧ wr.drew.cell? ⟨ab, ao + 2, none⟩ = some (.int .i64 (z2 : Int)) ∧ wr.drew.cell? ⟨gn, z2, none⟩ = some (.int .i64 (z3 : Int)) := ⟨x2, c0, c1, c2, k2⟩
            have HS1 : Hid (∀ v, (fun w' : World => w'.cell? ⟨w3.heap.size, 2, none⟩ = some (.slice (some ⟨gn, 0, none⟩) ln nc) ∧ w'.cell? ⟨ab, ao, none⟩ = some (.int .i64 (z0 : Int)) ∧ w'.cell? ⟨ab, ao + 1, none⟩ = some (.int .i64 (z1 : Int)) ∧ w'.cell? ⟨ab, ao + 2, none⟩ = some (.int .i64 (z2 : Int)) ∧ w'.cell? ⟨gn, z2, none⟩ = some (.int .i64 (z3 : Int))) (wr.drew.setCell ⟨gn, z0, none⟩ v)) := hide fun v => ⟨(World.cell?_setCell_other _ _ _ _ (fun e => hgn3 (by injection e))).trans hS0.1, (World.cell?_setCell_other _ _ _ _ (fun e => hga (by injection e))).trans hS0.2.1, (World.cell?_setCell_other _ _ _ _ (fun e => hga (by injection e))).trans hS0.2.2.1, (World.cell?_setCell_other _ _ _ _ (fun e => hga (by injection e))).trans hS0.2.2.2.1, (World.cell?_setCell_other _ _ _ _ (fun e => d02 (by injection e))).trans hS0.2.2.2.2⟩
            have HS2 : Hid (∀ v v', (fun w' : World => w'.cell? ⟨w3.heap.size, 2, none⟩ = some (.slice (some ⟨gn, 0, none⟩) ln nc) ∧ w'.cell? ⟨ab, ao, none⟩ = some (.int .i64 (z0 : Int)) ∧ w'.cell? ⟨ab, ao + 1, none⟩ = some (.int .i64 (z1 : Int)) ∧ w'.cell? ⟨ab, ao + 2, none⟩ = some (.int .i64 (z2 : Int)) ∧ w'.cell? ⟨gn, z2, none⟩ = some (.int .i64 (z3 : Int))) ((wr.drew.setCell ⟨gn, z0, none⟩ v).setCell ⟨gn, z1, none⟩ v')) := hide fun v v' => ⟨(World.cell?_setCell_other _ _ _ _ (fun e => hgn3 (by injection e))).trans (unhide HS1 v).1, (World.cell?_setCell_other _ _ _ _ (fun e => hga (by injection e))).trans (unhide HS1 v).2.1, (World.cell?_setCell_other _ _ _ _ (fun e => hga (by injection e))).trans (unhide HS1 v).2.2.1, (World.cell?_setCell_other _ _ _ _ (fun e => hga (by injection e))).trans (unhide HS1 v).2.2.2.1, (World.cell?_setCell_other _ _ _ _ (fun e => d12 (by injection e))).trans (unhide HS1 v).2.2.2.2⟩
            have k0' : wr.drew.cell? ⟨gn, z0, none⟩ = some (.int .i64 u0) := k0
            have k1' : wr.drew.cell? ⟨gn, z1, none⟩ = some (.int .i64 u1) := k1
            have k2' : wr.drew.cell? ⟨gn, z2, none⟩ = some (.int .i64 (z3 : Int)) := k2
            have f0' : wr.drew.frozen? ⟨gn, z0, none⟩ = false := f0
            have f1' : wr.drew.frozen? ⟨gn, z1, none⟩ = false := f1
            have f2' : wr.drew.frozen? ⟨gn, z2, none⟩ = false := f2
            clear x2 c0 c1 c2 k0 k1 k2 f0 f1 f2 HX2
            refine wp_region_G (fun w' => w'.cell? ⟨w3.heap.size, 2, none⟩ = some (.slice (some ⟨gn, 0, none⟩) ln nc) ∧ w'.cell? ⟨ab, ao, none⟩ = some (.int .i64 (z0 : Int)) ∧ w'.cell? ⟨ab, ao + 1, none⟩ = some (.int .i64 (z1 : Int)) ∧ w'.cell? ⟨ab, ao + 2, none⟩ = some (.int .i64 (z2 : Int)) ∧ w'.cell? ⟨gn, z2, none⟩ = some (.int .i64 (z3 : Int))) (fun i => i == 33) (by kernel_rfl) hS0 (fun hHeld => ?_)
            generalize wr.drew = W3 at *
            refine wpAnyG_take (v := ?_) 0 (by rfl) (by kernel_rfl) (by kernel_rfl) (by kernel_rfl) (by kernel_rfl) (fun _ _ _ h => h) (Or.inl ⟨by rfl, ?_⟩) (by assumption) ?_
            rotate_left
            · (intro w' hSw; (try dsimp only at hSw); (try simp only [List.getElem_toArray, List.getElem_cons_zero]); go_simp; try (with_reducible rfl))
            simp only [Act.put, List.getElem_toArray, List.getElem_cons_zero, List.setIfInBounds_toArray, List.set_cons_zero, List.set_cons_succ]
            refine wpAnyG_take (v := ?_) 1 (by rfl) (by kernel_rfl) (by kernel_rfl) (by kernel_rfl) (by kernel_rfl) (fun _ _ _ h => h) (Or.inl ⟨by rfl, ?_⟩) (by assumption) ?_
            rotate_left
            · (intro w' hSw; (try dsimp only at hSw); (try simp only [List.getElem_toArray, List.getElem_cons_succ, List.getElem_cons_zero]); go_simp; try (with_reducible rfl))
            simp only [Act.put, List.getElem_toArray, List.getElem_cons_succ, List.getElem_cons_zero, List.setIfInBounds_toArray, List.set_cons_zero, List.set_cons_succ]
            refine wpAnyG_take (v := ?_) 2 (by rfl) (by kernel_rfl) (by kernel_rfl) (by kernel_rfl) (by kernel_rfl) (fun _ _ _ h => h) (Or.inl ⟨by rfl, ?_⟩) (by assumption) ?_
            rotate_left
            · (intro w' hSw; (try dsimp only at hSw); (try simp only [List.getElem_toArray, List.getElem_cons_succ, List.getElem_cons_zero]); go_simp; try (with_reducible rfl))
            simp only [Act.put, List.getElem_toArray, List.getElem_cons_succ, List.getElem_cons_zero, List.setIfInBounds_toArray, List.set_cons_zero, List.set_cons_succ]
            refine wpAnyG_take (v := ?_) 3 (by rfl) (by kernel_rfl) (by kernel_rfl) (by kernel_rfl) (by kernel_rfl) (fun _ _ _ h => h) (Or.inl ⟨by rfl, ?_⟩) (by assumption) ?_
            rotate_left
            · (intro w' hSw; (try dsimp only at hSw); (try simp only [List.getElem_toArray, List.getElem_cons_succ, List.getElem_cons_zero]); go_simp; try (with_reducible rfl))
            simp only [Act.put, List.getElem_toArray, List.getElem_cons_succ, List.getElem_cons_zero, List.setIfInBounds_toArray, List.set_cons_zero, List.set_cons_succ]
            refine wpAnyG_take (v := ?_) 4 (by rfl) (by kernel_rfl) (by kernel_rfl) (by kernel_rfl) (by kernel_rfl) (fun _ _ _ h => h) (Or.inl ⟨by rfl, ?_⟩) (by assumption) ?_
            rotate_left
            · (intro w' hSw; (try dsimp only at hSw); (try simp only [List.getElem_toArray, List.getElem_cons_succ, List.getElem_cons_zero]); go_simp; try (with_reducible rfl))
            simp only [Act.put, List.getElem_toArray, List.getElem_cons_succ, List.getElem_cons_zero, List.setIfInBounds_toArray, List.set_cons_zero, List.set_cons_succ]
            refine wpAnyG_take (v := ?_) 5 (by rfl) (by kernel_rfl) (by kernel_rfl) (by kernel_rfl) (by kernel_rfl) (fun _ _ _ h => h) (Or.inl ⟨by rfl, ?_⟩) (by assumption) ?_
            rotate_left
            · (intro w' hSw; (try dsimp only at hSw); (try simp only [List.getElem_toArray, List.getElem_cons_succ, List.getElem_cons_zero]); go_simp; try (with_reducible rfl))
            simp only [Act.put, List.getElem_toArray, List.getElem_cons_succ, List.getElem_cons_zero, List.setIfInBounds_toArray, List.set_cons_zero, List.set_cons_succ]
            refine wpAnyG_take (v := ?_) 6 (by rfl) (by kernel_rfl) (by kernel_rfl) (by kernel_rfl) (by kernel_rfl) (fun _ _ _ h => h) (Or.inl ⟨by rfl, ?_⟩) (by assumption) ?_
            rotate_left
            · (intro w' hSw; (try dsimp only at hSw); (try simp only [List.getElem_toArray, List.getElem_cons_succ, List.getElem_cons_zero]); go_simp; try (with_reducible rfl))
            simp only [Act.put, List.getElem_toArray, List.getElem_cons_succ, List.getElem_cons_zero, List.setIfInBounds_toArray, List.set_cons_zero, List.set_cons_succ]
            refine wpAnyG_take (v := ?_) 7 (by rfl) (by kernel_rfl) (by kernel_rfl) (by kernel_rfl) (by kernel_rfl) (fun _ _ _ h => h) (Or.inl ⟨by rfl, ?_⟩) (by assumption) ?_
            rotate_left
            · (intro w' hSw; (try dsimp only at hSw); (try simp only [List.getElem_toArray, List.getElem_cons_succ, List.getElem_cons_zero]); go_simp; try (with_reducible rfl))
            simp only [Act.put, List.getElem_toArray, List.getElem_cons_succ, List.getElem_cons_zero, List.setIfInBounds_toArray, List.set_cons_zero, List.set_cons_succ]
            refine wpAnyG_take (v := ?_) 8 (by rfl) (by kernel_rfl) (by kernel_rfl) (by kernel_rfl) (by kernel_rfl) (fun _ _ _ h => h) (Or.inl ⟨by rfl, ?_⟩) (by assumption) ?_
            rotate_left
            · (intro w' hSw; (try dsimp only at hSw); (try simp only [List.getElem_toArray, List.getElem_cons_succ, List.getElem_cons_zero]); go_simp; try (with_reducible rfl))
            simp only [Act.put, List.getElem_toArray, List.getElem_cons_succ, List.getElem_cons_zero, List.setIfInBounds_toArray, List.set_cons_zero, List.set_cons_succ]
            refine wpAnyG_take (v := ?_) 9 (by rfl) (by kernel_rfl) (by kernel_rfl) (by kernel_rfl) (by kernel_rfl) (fun _ _ _ h => h) (Or.inl ⟨by rfl, ?_⟩) (by assumption) ?_
            rotate_left
            · (intro w' hSw; (try dsimp only at hSw); (try simp only [List.getElem_toArray, List.getElem_cons_succ, List.getElem_cons_zero]); go_simp; try (with_reducible rfl))
            simp only [Act.put, List.getElem_toArray, List.getElem_cons_succ, List.getElem_cons_zero, List.setIfInBounds_toArray, List.set_cons_zero, List.set_cons_succ]
            refine wpAnyG_take (v := ?_) 10 (by rfl) (by kernel_rfl) (by kernel_rfl) (by kernel_rfl) (by kernel_rfl) (fun _ _ _ h => h) (Or.inl ⟨by rfl, ?_⟩) (by assumption) ?_
            rotate_left
            · (intro w' hSw; (try dsimp only at hSw); (try simp only [List.getElem_toArray, List.getElem_cons_succ, List.getElem_cons_zero]); go_simp; try (with_reducible rfl))
            simp only [Act.put, List.getElem_toArray, List.getElem_cons_succ, List.getElem_cons_zero, List.setIfInBounds_toArray, List.set_cons_zero, List.set_cons_succ]
            refine wpAnyG_take (v := ?_) 11 (by rfl) (by kernel_rfl) (by kernel_rfl) (by kernel_rfl) (by kernel_rfl) (fun _ _ _ h => h) (Or.inl ⟨by rfl, ?_⟩) (by assumption) ?_
            rotate_left
            · (intro w' hSw; (try dsimp only at hSw); (try simp only [List.getElem_toArray, List.getElem_cons_succ, List.getElem_cons_zero]); go_simp; try (with_reducible rfl))
            simp only [Act.put, List.getElem_toArray, List.getElem_cons_succ, List.getElem_cons_zero, List.setIfInBounds_toArray, List.set_cons_zero, List.set_cons_succ]
            refine wpAnyG_take (v := ?_) 12 (by rfl) (by kernel_rfl) (by kernel_rfl) (by kernel_rfl) (by kernel_rfl) (fun _ _ _ h => h) (Or.inl ⟨by rfl, ?_⟩) (by assumption) ?_
            rotate_left
            · (intro w' hSw; (try dsimp only at hSw); (try simp only [List.getElem_toArray, List.getElem_cons_succ, List.getElem_cons_zero]); go_simp; try (with_reducible rfl))
            simp only [Act.put, List.getElem_toArray, List.getElem_cons_succ, List.getElem_cons_zero, List.setIfInBounds_toArray, List.set_cons_zero, List.set_cons_succ]
            refine wpAnyG_take (v := ?_) 13 (by rfl) (by kernel_rfl) (by kernel_rfl) (by kernel_rfl) (by kernel_rfl) (fun _ _ _ h => h) (Or.inl ⟨by rfl, ?_⟩) (by assumption) ?_
            rotate_left
            · (intro w' hSw; (try dsimp only at hSw); (try simp only [List.getElem_toArray, List.getElem_cons_succ, List.getElem_cons_zero]); go_simp; try (with_reducible rfl))
            simp only [Act.put, List.getElem_toArray, List.getElem_cons_succ, List.getElem_cons_zero, List.setIfInBounds_toArray, List.set_cons_zero, List.set_cons_succ]
            refine wpAnyG_take (v := ?_) 14 (by rfl) (by kernel_rfl) (by kernel_rfl) (by kernel_rfl) (by kernel_rfl) (fun _ _ _ h => h) (Or.inl ⟨by rfl, ?_⟩) (by assumption) ?_
            rotate_left
            · (intro w' hSw; (try dsimp only at hSw); (try simp only [List.getElem_toArray, List.getElem_cons_succ, List.getElem_cons_zero]); go_simp; try (with_reducible rfl))
            simp only [Act.put, List.getElem_toArray, List.getElem_cons_succ, List.getElem_cons_zero, List.setIfInBounds_toArray, List.set_cons_zero, List.set_cons_succ]
            refine wpAnyG_take (v := ?_) 15 (by rfl) (by kernel_rfl) (by kernel_rfl) (by kernel_rfl) (by kernel_rfl) (fun _ _ _ h => h) (Or.inl ⟨by rfl, ?_⟩) (by assumption) ?_
            rotate_left
            · (intro w' hSw; (try dsimp only at hSw); (try simp only [List.getElem_toArray, List.getElem_cons_succ, List.getElem_cons_zero]); go_simp; try (with_reducible rfl))
            simp only [Act.put, List.getElem_toArray, List.getElem_cons_succ, List.getElem_cons_zero, List.setIfInBounds_toArray, List.set_cons_zero, List.set_cons_succ]
            refine wpAnyG_take (v := ?_) 16 (by rfl) (by kernel_rfl) (by kernel_rfl) (by kernel_rfl) (by kernel_rfl) (fun _ _ _ h => h) (Or.inl ⟨by rfl, ?_⟩) (by assumption) ?_
            rotate_left
            · (intro w' hSw; (try dsimp only at hSw); (try simp only [List.getElem_toArray, List.getElem_cons_succ, List.getElem_cons_zero]); go_simp; try (with_reducible rfl))
            simp only [Act.put, List.getElem_toArray, List.getElem_cons_succ, List.getElem_cons_zero, List.setIfInBounds_toArray, List.set_cons_zero, List.set_cons_succ]
            refine wpAnyG_take (v := ?_) 17 (by rfl) (by kernel_rfl) (by kernel_rfl) (by kernel_rfl) (by kernel_rfl) (fun _ _ _ h => h) (Or.inl ⟨by rfl, ?_⟩) (by assumption) ?_
            rotate_left
            · (intro w' hSw; (try dsimp only at hSw); (try simp only [List.getElem_toArray, List.getElem_cons_succ, List.getElem_cons_zero]); go_simp; try (with_reducible rfl))
            simp only [Act.put, List.getElem_toArray, List.getElem_cons_succ, List.getElem_cons_zero, List.setIfInBounds_toArray, List.set_cons_zero, List.set_cons_succ]
            refine wpAnyG_take (v := ?_) 18 (by rfl) (by kernel_rfl) (by kernel_rfl) (by kernel_rfl) (by kernel_rfl) (fun _ _ _ h => h) (Or.inl ⟨by rfl, ?_⟩) (by assumption) ?_
            rotate_left
            · (intro w' hSw; (try dsimp only at hSw); (try simp only [List.getElem_toArray, List.getElem_cons_succ, List.getElem_cons_zero]); go_simp; try (with_reducible rfl))
            simp only [Act.put, List.getElem_toArray, List.getElem_cons_succ, List.getElem_cons_zero, List.setIfInBounds_toArray, List.set_cons_zero, List.set_cons_succ]
            refine wpAnyG_take (v := ?_) 19 (by rfl) (by kernel_rfl) (by kernel_rfl) (by kernel_rfl) (by kernel_rfl) (fun _ _ _ h => h) (Or.inl ⟨by rfl, ?_⟩) (by assumption) ?_
            rotate_left
            · (intro w' hSw; (try dsimp only at hSw); (try simp only [List.getElem_toArray, List.getElem_cons_succ, List.getElem_cons_zero]); go_simp; try (with_reducible rfl))
            simp only [Act.put, List.getElem_toArray, List.getElem_cons_succ, List.getElem_cons_zero, List.setIfInBounds_toArray, List.set_cons_zero, List.set_cons_succ]
            refine wpAnyG_take (v := ?_) 20 (by rfl) (by kernel_rfl) (by kernel_rfl) (by kernel_rfl) (by kernel_rfl) (fun _ _ _ h => h) (Or.inl ⟨by rfl, ?_⟩) (by assumption) ?_
            rotate_left
            · (intro w' hSw; (try dsimp only at hSw); (try simp only [List.getElem_toArray, List.getElem_cons_succ, List.getElem_cons_zero]); go_simp; try (with_reducible rfl))
            simp only [Act.put, List.getElem_toArray, List.getElem_cons_succ, List.getElem_cons_zero, List.setIfInBounds_toArray, List.set_cons_zero, List.set_cons_succ]
            refine wpAnyG_take (v := ?_) 21 (by rfl) (by kernel_rfl) (by kernel_rfl) (by kernel_rfl) (by kernel_rfl) (fun _ _ _ h => h) (Or.inl ⟨by rfl, ?_⟩) (by assumption) ?_
            rotate_left
            · (intro w' hSw; (try dsimp only at hSw); (try simp only [List.getElem_toArray, List.getElem_cons_succ, List.getElem_cons_zero]); go_simp; try (with_reducible rfl))
            simp only [Act.put, List.getElem_toArray, List.getElem_cons_succ, List.getElem_cons_zero, List.setIfInBounds_toArray, List.set_cons_zero, List.set_cons_succ]
            refine wpAnyG_take (v := ?_) 22 (by rfl) (by kernel_rfl) (by kernel_rfl) (by kernel_rfl) (by kernel_rfl) (fun _ _ _ h => h) (Or.inl ⟨by rfl, ?_⟩) (by assumption) ?_
            rotate_left
            · (intro w' hSw; (try dsimp only at hSw); (try simp only [List.getElem_toArray, List.getElem_cons_succ, List.getElem_cons_zero]); go_simp; try (with_reducible rfl))
            simp only [Act.put, List.getElem_toArray, List.getElem_cons_succ, List.getElem_cons_zero, List.setIfInBounds_toArray, List.set_cons_zero, List.set_cons_succ]
            refine wpAnyG_take (v := ?_) 23 (by rfl) (by kernel_rfl) (by kernel_rfl) (by kernel_rfl) (by kernel_rfl) (fun _ _ _ h => h) (Or.inl ⟨by rfl, ?_⟩) (by assumption) ?_
            rotate_left
            · (intro w' hSw; (try dsimp only at hSw); (try simp only [List.getElem_toArray, List.getElem_cons_succ, List.getElem_cons_zero]); go_simp; try (with_reducible rfl))
            simp only [Act.put, List.getElem_toArray, List.getElem_cons_succ, List.getElem_cons_zero, List.setIfInBounds_toArray, List.set_cons_zero, List.set_cons_succ]
            refine wpAnyG_take (v := ?_) 24 (by rfl) (by kernel_rfl) (by kernel_rfl) (by kernel_rfl) (by kernel_rfl) (fun _ _ _ h => h) (Or.inl ⟨by rfl, ?_⟩) (by assumption) ?_
            rotate_left
            · (intro w' hSw; (try dsimp only at hSw); (try simp only [List.getElem_toArray, List.getElem_cons_succ, List.getElem_cons_zero]); go_simp; try (with_reducible rfl))
            simp only [Act.put, List.getElem_toArray, List.getElem_cons_succ, List.getElem_cons_zero, List.setIfInBounds_toArray, List.set_cons_zero, List.set_cons_succ]
            refine wpAnyG_take (v := ?_) 25 (by rfl) (by kernel_rfl) (by kernel_rfl) (by kernel_rfl) (by kernel_rfl) (fun _ _ _ h => h) (Or.inl ⟨by rfl, ?_⟩) (by assumption) ?_
            rotate_left
            · (intro w' hSw; (try dsimp only at hSw); (try simp only [List.getElem_toArray, List.getElem_cons_succ, List.getElem_cons_zero]); go_simp; try (with_reducible rfl))
            simp only [Act.put, List.getElem_toArray, List.getElem_cons_succ, List.getElem_cons_zero, List.setIfInBounds_toArray, List.set_cons_zero, List.set_cons_succ]
            refine wpAnyG_take (v := ?_) 26 (by rfl) (by kernel_rfl) (by kernel_rfl) (by kernel_rfl) (by kernel_rfl) (fun _ _ _ h => h) (Or.inl ⟨by rfl, ?_⟩) (by assumption) ?_
            rotate_left
            · (intro w' hSw; (try dsimp only at hSw); (try simp only [List.getElem_toArray, List.getElem_cons_succ, List.getElem_cons_zero]); go_simp; try (with_reducible rfl))
            simp only [Act.put, List.getElem_toArray, List.getElem_cons_succ, List.getElem_cons_zero, List.setIfInBounds_toArray, List.set_cons_zero, List.set_cons_succ]
            refine wpAnyG_take (v := ?_) 27 (by rfl) (by kernel_rfl) (by kernel_rfl) (by kernel_rfl) (by kernel_rfl) (fun _ _ _ h => h) (Or.inl ⟨by rfl, ?_⟩) (by assumption) ?_
            rotate_left
            · (intro w' hSw; (try dsimp only at hSw); (try simp only [List.getElem_toArray, List.getElem_cons_succ, List.getElem_cons_zero]); go_simp; try (with_reducible rfl))
            simp only [Act.put, List.getElem_toArray, List.getElem_cons_succ, List.getElem_cons_zero, List.setIfInBounds_toArray, List.set_cons_zero, List.set_cons_succ]
            refine wpAnyG_take (v := ?_) 28 (by rfl) (by kernel_rfl) (by kernel_rfl) (by kernel_rfl) (by kernel_rfl) (fun _ _ _ h => h) (Or.inl ⟨by rfl, ?_⟩) (by assumption) ?_
            rotate_left
            · (intro w' hSw; (try dsimp only at hSw); (try simp only [List.getElem_toArray, List.getElem_cons_succ, List.getElem_cons_zero]); go_simp; try (with_reducible rfl))
            simp only [Act.put, List.getElem_toArray, List.getElem_cons_succ, List.getElem_cons_zero, List.setIfInBounds_toArray, List.set_cons_zero, List.set_cons_succ]
            refine wpAnyG_ready [29] (by kernel_rfl) (by simp) ?_
            refine AllReadyG.cons 29 (by rfl) (fun K hK => ?_) ?_
            · simp only [List.getElem_toArray, List.getElem_cons_succ, List.getElem_cons_zero]
              go_simp
              refine hK.out _ _ (unhide HS1 _) (fun _ => ?_)
              clear hK K
              try simp only [Act.put, List.setIfInBounds_toArray, List.set_cons_zero, List.set_cons_succ]
              refine wpAnyG_take (v := ?_) 30 (by rfl) (by kernel_rfl) (by kernel_rfl) (by kernel_rfl) (by kernel_rfl) (fun _ _ _ h => h) (Or.inl ⟨by rfl, ?_⟩) (by assumption) ?_
              rotate_left
              · (intro w' hSw; (try dsimp only at hSw); (try simp only [List.getElem_toArray, List.getElem_cons_succ, List.getElem_cons_zero]); go_simp; try (with_reducible rfl))
              simp only [Act.put, List.getElem_toArray, List.getElem_cons_succ, List.getElem_cons_zero, List.setIfInBounds_toArray, List.set_cons_zero, List.set_cons_succ]
              refine wpAnyG_ready [31] (by kernel_rfl) (by simp) ?_
              refine AllReadyG.cons 31 (by rfl) (fun K hK => ?_) ?_
              · simp only [List.getElem_toArray, List.getElem_cons_succ, List.getElem_cons_zero]
                go_simp
                refine hK.out _ _ (unhide HS2 _ _) (fun _ => ?_)
                clear hK K
                try simp only [Act.put, List.setIfInBounds_toArray, List.set_cons_zero, List.set_cons_succ]
                refine wpAnyG_take (v := ?_) 32 (by rfl) (by kernel_rfl) (by kernel_rfl) (by kernel_rfl) (by kernel_rfl) (fun _ _ _ h => h) (Or.inl ⟨by rfl, ?_⟩) (by assumption) ?_
                rotate_left
                · (intro w' hSw; (try dsimp only at hSw); (try simp only [List.getElem_toArray, List.getElem_cons_succ, List.getElem_cons_zero]); go_simp; try (with_reducible rfl))
                simp only [Act.put, List.getElem_toArray, List.getElem_cons_succ, List.getElem_cons_zero, List.setIfInBounds_toArray, List.set_cons_zero, List.set_cons_succ]
                refine wpAnyG_ready [33] (by kernel_rfl) (by simp) ?_
                refine AllReadyG.last 33 (by rfl) (by kernel_rfl) (fun K hK => ?_) ?_
                · simp only [List.getElem_toArray, List.getElem_cons_succ, List.getElem_cons_zero]
                  go_simp
                  refine hK.out _ _ ?_
                  clear hK K
                  try simp only [Act.put, List.setIfInBounds_toArray, List.set_cons_zero, List.set_cons_succ]
                  refine wpAnyG_done (by kernel_rfl) ?_ _
                  refine NoPanic.normal ?_
                  go_wp2
                  go_meet
                  exact hide (unhide HX3 _ rfl)
                exact AllReadyG.nil
              exact AllReadyG.nil
            exact AllReadyG.nil
          case rest =>
            obtain ⟨wP, rfl⟩ : ∃ wP, wP = wc := ⟨_, rfl⟩
            have HS := hcut
            clear hcut
            obtain ⟨qE, hqE⟩ : ∃ qE : Sp.Net, qE = ⟨q.n, q.tail, Sp.exch q.next z0 z1 z2 z3, q.cap⟩ := ⟨_, rfl⟩
            rw [← hqE] at HS HCx
            have HqEn : Hid (qE.n = q.n) := hide (by rw [hqE])
            clear hqE
            have HE : Hid (∀ w', Below wP.heap.size wP w' → (w'.cell? ⟨w3.heap.size, 0, none⟩ = some (.int .i64 q.n) ∧ w'.cell? ⟨w3.heap.size, 1, none⟩ = some (.slice ta ln tc) ∧ w'.cell? ⟨w3.heap.size, 2, none⟩ = some (.slice (some ⟨gn, 0, none⟩) ln nc) ∧ w'.cell? ⟨w3.heap.size, 3, none⟩ = some (.slice ca ln cc)) ∧ NetI w' (.agg #[.int .i64 q.n, .slice ta ln tc, .slice (some ⟨gn, 0, none⟩) ln nc, .slice ca ln cc]) qE (.slice ta ln tc) (.slice (some ⟨gn, 0, none⟩) ln nc) (.slice ca ln cc) ∧ Below w.heap.size w w') := hide fun w' hb => by
              have hlt : w3.heap.size < wP.heap.size := heap_lt (unhide HS).2.1
              obtain ⟨e0, e1, e2, e3, -, -, -, -⟩ := obj_cells ((hb.block _ hlt).trans (unhide HS).2.1)
              exact ⟨⟨e0, e1, e2, e3⟩, ((unhide HS).1.keep hb).netI, (unhide HS).2.2.trans (hb.mono (unhide HS).2.2.size)⟩
            have HTP : Hid (∀ w4 w5, Below wP.heap.size wP w4 → Below w4.heap.size w4 w5 → Below wP.heap.size wP w5) := hide fun w4 w5 h4 h5 => h4.trans (h5.mono h4.size)
            have HK1 := hide (fun w' (hb : Below wP.heap.size wP w') => check_any qE _ _ _ _ w' (unhide HE w' hb).2.1 (by rw [unhide HqEn]; have := (unhide HOK).n0; omega) (by rw [unhide HqEn]; have := (unhide HOK).n1; omega))
            have HK2 := hide (fun w' (hb : Below wP.heap.size wP w') => check2_any qE _ _ _ _ w' (unhide HE w' hb).2.1 (by rw [unhide HqEn]; have := (unhide HOK).n0; omega) (by rw [unhide HqEn]; have := (unhide HOK).n1; omega))
            generalize Sp.checkI qE = ck at *
            have hbP : Below wP.heap.size wP wP := Below.refl _ _
            obtain ⟨x0, x1, x2, x3⟩ := (unhide HE wP hbP).1
            clear HS HX2 HBw HBel HBX HTR Hs4 HW4 HWK HPl Hgn Hgb HRl
            go_wp2_with fail
            go_at_call 11
            refine (unhide HK1 wP hbP).mono ?_
            clear HK1 x0 x1 x2 x3
            rintro e w16 ⟨rfl, hl16⟩
            have Hb16 := hide (unhide HTP _ _ hbP hl16)
            clear hl16 hbP
            go_wp2_with fail
            go_at_call 19
            refine (unhide HMK w16 (unhide HE w16 (unhide Hb16)).2.2).mono ?_
            clear HMK
            rintro e w17 ⟨v, tv, nv, cv, rfl, hmv, hl17⟩
            have hval := hmv.val
            subst hval
            obtain ⟨ma, mc, rfl, -, -⟩ := hmv.netI.tail.form
            obtain ⟨mna, mnc, rfl, -, -⟩ := hmv.netI.next.form
            obtain ⟨mca, mcc, rfl, -, -⟩ := hmv.netI.cap.form
            obtain ⟨W18, hW18⟩ : ∃ W18, W18 = w17.alloc (.cells #[.int .i64 m.n, .slice ma m.tail.length mc, .slice mna m.next.length mnc, .slice mca m.cap.length mcc] 25) := ⟨_, rfl⟩
            obtain ⟨hBX2, -, hTR2⟩ := boxed (unhide HTP _ _ (unhide Hb16) hl17) hmv.netI W18 hW18
            have HBX2 := hide hBX2
            have HTR2 := hide hTR2
            have HW18 := hide hW18
            clear hmv hl17 hBX2 hTR2 hW18 Hb16
            have hb18 : Below (w17.heap.size + 1) W18 W18 := Below.refl _ _
            have hb18d := hb18.drew
            have HMk : Hid (Sp.walkB m = true) := hide (by
              have hL := (unhide HMW).1.lists
              exact walkB_of ⟨hL.n1, hL.n0, hL.tl, hL.ev, hL.nl, hL.cl, fun x hx => by rw [hL.nl]; exact (unhide HMW).1.next x hx, hL.tb⟩)
            have HTm := hide (fun w' (hb : Below (w17.heap.size + 1) W18 w') => rturn_any m _ _ _ _ w' (unhide HBX2 w' hb).2.1 (unhide HMk))
            have HK3 := hide (fun w' (hb : Below (w17.heap.size + 1) W18 w') => unhide HK2 w' (unhide HBX2 w' hb).2.2.1)
            have HX1 := hide (fun w' (hb : Below (w17.heap.size + 1) W18 w') => (unhide HE w' (unhide HBX2 w' hb).2.2.1).1)
            have HF1 := hide (fun w' (hb : Below (w17.heap.size + 1) W18 w') => (unhide HE w' (unhide HBX2 w' hb).2.2.1).2.2)
            have hmm : (m.n == m.n) = true := beq_self_eq_true _
            have hfld := net_field0
            clear HMW HMk HK2 HOK
            rcases unhide HCx with hck | hck
            · subst hck
              go_upto_region 18 with fail
              rw [← unhide HW18]
              refine wp_region_G (fun w' => (w'.cell? ⟨w3.heap.size, 0, none⟩ = some (.int .i64 q.n) ∧ w'.cell? ⟨w3.heap.size, 1, none⟩ = some (.slice ta ln tc) ∧ w'.cell? ⟨w3.heap.size, 2, none⟩ = some (.slice (some ⟨gn, 0, none⟩) ln nc) ∧ w'.cell? ⟨w3.heap.size, 3, none⟩ = some (.slice ca ln cc)) ∧ w'.cell? ⟨w17.heap.size, 0, none⟩ = some (.int .i64 m.n) ∧ w'.cell? ⟨w17.heap.size, 1, none⟩ = some (.slice ma m.tail.length mc) ∧ w'.cell? ⟨w17.heap.size, 2, none⟩ = some (.slice mna m.next.length mnc) ∧ w'.cell? ⟨w17.heap.size, 3, none⟩ = some (.slice mca m.cap.length mcc)) (fun _ => false) (by kernel_rfl) ⟨unhide HX1 _ hb18d, (unhide HBX2 _ hb18d).1⟩ (fun hHeld => ?_)
              generalize W18.drew = W19 at *
              refine wpAnyG_take (v := ?_) 0 (by rfl) (by kernel_rfl) (by kernel_rfl) (by kernel_rfl) (by kernel_rfl) (fun _ _ _ h => h) (Or.inl ⟨by rfl, ?_⟩) (by assumption) ?_
              rotate_left
              · (intro w' hSw; (try dsimp only at hSw); (try simp only [List.getElem_toArray, List.getElem_cons_zero]); go_simp; try (with_reducible rfl))
              simp only [Act.put, List.getElem_toArray, List.getElem_cons_zero, List.setIfInBounds_toArray, List.set_cons_zero, List.set_cons_succ]
              refine wpAnyG_take (v := ?_) 1 (by rfl) (by kernel_rfl) (by kernel_rfl) (by kernel_rfl) (by kernel_rfl) (fun _ _ _ h => h) (Or.inl ⟨by rfl, ?_⟩) (by assumption) ?_
              rotate_left
              · (intro w' hSw; (try dsimp only at hSw); (try simp only [List.getElem_toArray, List.getElem_cons_succ, List.getElem_cons_zero]); go_simp; try (with_reducible rfl))
              simp only [Act.put, List.getElem_toArray, List.getElem_cons_succ, List.getElem_cons_zero, List.setIfInBounds_toArray, List.set_cons_zero, List.set_cons_succ]
              refine wpAnyG_ready [2] (by kernel_rfl) (by simp) ?_
              refine AllReadyG.cons 2 (by rfl) (fun K hK => ?_) ?_
              · simp only [List.getElem_toArray, List.getElem_cons_succ, List.getElem_cons_zero]
                go_simp
                go_at_call 20
                refine (unhide HK3 _ hb18d).mono ?_
                rintro e w19 ⟨rfl, hl19⟩
                have hb19 := unhide HTR2 _ _ hb18d hl19
                clear hl19
                refine hK.out _ _ ⟨unhide HX1 _ hb19, (unhide HBX2 _ hb19).1⟩ (fun _ => ?_)
                clear hK K
                try simp only [Act.put, List.setIfInBounds_toArray, List.set_cons_zero, List.set_cons_succ]
                refine wpAnyG_take (v := ?_) 3 (by rfl) (by kernel_rfl) (by kernel_rfl) (by kernel_rfl) (by kernel_rfl) (fun _ _ _ h => h) (Or.inl ⟨by rfl, ?_⟩) (by assumption) ?_
                rotate_left
                · (intro w' hSw; (try dsimp only at hSw); (try simp only [List.getElem_toArray, List.getElem_cons_succ, List.getElem_cons_zero]); go_simp; try (with_reducible rfl))
                simp only [Act.put, List.getElem_toArray, List.getElem_cons_succ, List.getElem_cons_zero, List.setIfInBounds_toArray, List.set_cons_zero, List.set_cons_succ]
                refine wpAnyG_take (v := ?_) 4 (by rfl) (by kernel_rfl) (by kernel_rfl) (by kernel_rfl) (by kernel_rfl) (fun _ _ _ h => h) (Or.inl ⟨by rfl, ?_⟩) (by assumption) ?_
                rotate_left
                · (intro w' hSw; (try dsimp only at hSw); (try simp only [List.getElem_toArray, List.getElem_cons_succ, List.getElem_cons_zero]); go_simp; try (with_reducible rfl))
                simp only [Act.put, List.getElem_toArray, List.getElem_cons_succ, List.getElem_cons_zero, List.setIfInBounds_toArray, List.set_cons_zero, List.set_cons_succ]
                refine wpAnyG_take (v := ?_) 5 (by rfl) (by kernel_rfl) (by kernel_rfl) (by kernel_rfl) (by kernel_rfl) (fun _ _ _ h => h) (Or.inl ⟨by rfl, ?_⟩) (by assumption) ?_
                rotate_left
                · (intro w' hSw; (try dsimp only at hSw); (try simp only [List.getElem_toArray, List.getElem_cons_succ, List.getElem_cons_zero]); go_simp; try (with_reducible rfl))
                simp only [Act.put, List.getElem_toArray, List.getElem_cons_succ, List.getElem_cons_zero, List.setIfInBounds_toArray, List.set_cons_zero, List.set_cons_succ]
                refine wpAnyG_take (v := ?_) 6 (by rfl) (by kernel_rfl) (by kernel_rfl) (by kernel_rfl) (by kernel_rfl) (fun _ _ _ h => h) (Or.inl ⟨by rfl, ?_⟩) (by assumption) ?_
                rotate_left
                · (intro w' hSw; (try dsimp only at hSw); (try simp only [List.getElem_toArray, List.getElem_cons_succ, List.getElem_cons_zero]); go_simp; try (with_reducible rfl))
                simp only [Act.put, List.getElem_toArray, List.getElem_cons_succ, List.getElem_cons_zero, List.setIfInBounds_toArray, List.set_cons_zero, List.set_cons_succ]
                refine wpAnyG_take (v := ?_) 7 (by rfl) (by kernel_rfl) (by kernel_rfl) (by kernel_rfl) (by kernel_rfl) (fun _ _ _ h => h) (Or.inl ⟨by rfl, ?_⟩) (by assumption) ?_
                rotate_left
                · (intro w' hSw; (try dsimp only at hSw); (try simp only [List.getElem_toArray, List.getElem_cons_succ, List.getElem_cons_zero]); go_simp; try (with_reducible rfl))
                simp only [Act.put, List.getElem_toArray, List.getElem_cons_succ, List.getElem_cons_zero, List.setIfInBounds_toArray, List.set_cons_zero, List.set_cons_succ]
                refine wpAnyG_take (v := undef) 8 (by rfl) (by kernel_rfl) (by kernel_rfl) (by kernel_rfl) (by kernel_rfl) (fun _ _ _ h => h) (Or.inr ⟨by rfl, rfl⟩) (by assumption) ?_
                simp only [Act.put, List.getElem_toArray, List.getElem_cons_succ, List.getElem_cons_zero, List.setIfInBounds_toArray, List.set_cons_zero, List.set_cons_succ]
                refine wpAnyG_take (v := undef) 9 (by rfl) (by kernel_rfl) (by kernel_rfl) (by kernel_rfl) (by kernel_rfl) (fun _ _ _ h => h) (Or.inr ⟨by rfl, rfl⟩) (by assumption) ?_
                simp only [Act.put, List.getElem_toArray, List.getElem_cons_succ, List.getElem_cons_zero, List.setIfInBounds_toArray, List.set_cons_zero, List.set_cons_succ]
                refine wpAnyG_take (v := ?_) 10 (by rfl) (by kernel_rfl) (by kernel_rfl) (by kernel_rfl) (by kernel_rfl) (fun _ _ _ h => h) (Or.inl ⟨by rfl, ?_⟩) (by assumption) ?_
                rotate_left
                · (intro w' hSw; (try dsimp only at hSw); (try simp only [List.getElem_toArray, List.getElem_cons_succ, List.getElem_cons_zero]); go_simp; try (with_reducible rfl))
                simp only [Act.put, List.getElem_toArray, List.getElem_cons_succ, List.getElem_cons_zero, List.setIfInBounds_toArray, List.set_cons_zero, List.set_cons_succ]
                refine wpAnyG_take (v := ?_) 11 (by rfl) (by kernel_rfl) (by kernel_rfl) (by kernel_rfl) (by kernel_rfl) (fun _ _ _ h => h) (Or.inl ⟨by rfl, ?_⟩) (by assumption) ?_
                rotate_left
                · (intro w' hSw; (try dsimp only at hSw); (try simp only [List.getElem_toArray, List.getElem_cons_succ, List.getElem_cons_zero]); go_simp; try (with_reducible rfl))
                simp only [Act.put, List.getElem_toArray, List.getElem_cons_succ, List.getElem_cons_zero, List.setIfInBounds_toArray, List.set_cons_zero, List.set_cons_succ]
                refine wpAnyG_take (v := ?_) 12 (by rfl) (by kernel_rfl) (by kernel_rfl) (by kernel_rfl) (by kernel_rfl) (fun _ _ _ h => h) (Or.inl ⟨by rfl, ?_⟩) (by assumption) ?_
                rotate_left
                · (intro w' hSw; (try dsimp only at hSw); (try simp only [List.getElem_toArray, List.getElem_cons_succ, List.getElem_cons_zero]); go_simp; try (with_reducible rfl))
                simp only [Act.put, List.getElem_toArray, List.getElem_cons_succ, List.getElem_cons_zero, List.setIfInBounds_toArray, List.set_cons_zero, List.set_cons_succ]
                refine wpAnyG_take (v := ?_) 13 (by rfl) (by kernel_rfl) (by kernel_rfl) (by kernel_rfl) (by kernel_rfl) (fun _ _ _ h => h) (Or.inl ⟨by rfl, ?_⟩) (by assumption) ?_
                rotate_left
                · (intro w' hSw; (try dsimp only at hSw); (try simp only [List.getElem_toArray, List.getElem_cons_succ, List.getElem_cons_zero]); go_simp; try (with_reducible rfl))
                simp only [Act.put, List.getElem_toArray, List.getElem_cons_succ, List.getElem_cons_zero, List.setIfInBounds_toArray, List.set_cons_zero, List.set_cons_succ]
                refine wpAnyG_take (v := ?_) 16 (by rfl) (by kernel_rfl) (by kernel_rfl) (by kernel_rfl) (by kernel_rfl) (fun _ _ _ h => h) (Or.inl ⟨by rfl, ?_⟩) (by assumption) ?_
                rotate_left
                · (intro w' hSw; (try dsimp only at hSw); (try simp only [List.getElem_toArray, List.getElem_cons_succ, List.getElem_cons_zero]); go_simp; try (with_reducible rfl))
                simp only [Act.put, List.getElem_toArray, List.getElem_cons_succ, List.getElem_cons_zero, List.setIfInBounds_toArray, List.set_cons_zero, List.set_cons_succ]
                refine wpAnyG_take (v := ?_) 17 (by rfl) (by kernel_rfl) (by kernel_rfl) (by kernel_rfl) (by kernel_rfl) (fun _ _ _ h => h) (Or.inl ⟨by rfl, ?_⟩) (by assumption) ?_
                rotate_left
                · (intro w' hSw; (try dsimp only at hSw); (try simp only [List.getElem_toArray, List.getElem_cons_succ, List.getElem_cons_zero]); go_simp; try (with_reducible rfl))
                simp only [Act.put, List.getElem_toArray, List.getElem_cons_succ, List.getElem_cons_zero, List.setIfInBounds_toArray, List.set_cons_zero, List.set_cons_succ]
                refine wpAnyG_ready [14] (by kernel_rfl) (by simp) ?_
                refine AllReadyG.cons 14 (by rfl) (fun K hK => ?_) ?_
                · simp only [List.getElem_toArray, List.getElem_cons_succ, List.getElem_cons_zero]
                  go_simp
                  go_at_call 15
                  refine (unhide HTm _ hb19).mono ?_
                  rintro e w20 ⟨tv, nv, cv, rfl, g1, g2, g3, hl20⟩
                  obtain ⟨_, _, rfl, -, -⟩ := g1.ints.form
                  obtain ⟨_, _, rfl, -, -⟩ := g2.ints.form
                  obtain ⟨_, _, rfl, -, -⟩ := g3.ints.form
                  have hb20 := unhide HTR2 _ _ hb19 hl20
                  clear g1 g2 g3 hl20
                  refine hK.out _ _ ⟨unhide HX1 _ hb20, (unhide HBX2 _ hb20).1⟩ (fun _ => ?_)
                  clear hK K
                  try simp only [Act.put, List.setIfInBounds_toArray, List.set_cons_zero, List.set_cons_succ]
                  refine wpAnyG_take (v := ?_) 15 (by rfl) (by kernel_rfl) (by kernel_rfl) (by kernel_rfl) (by kernel_rfl) (fun _ _ _ h => h) (Or.inl ⟨by rfl, ?_⟩) (by assumption) ?_
                  rotate_left
                  · (intro w' hSw; (try dsimp only at hSw); (try simp only [List.getElem_toArray, List.getElem_cons_succ, List.getElem_cons_zero]); go_simp; try (with_reducible rfl))
                  simp only [Act.put, List.getElem_toArray, List.getElem_cons_succ, List.getElem_cons_zero, List.setIfInBounds_toArray, List.set_cons_zero, List.set_cons_succ]
                  refine wpAnyG_take (v := ?_) 18 (by rfl) (by kernel_rfl) (by kernel_rfl) (by kernel_rfl) (by kernel_rfl) (fun _ _ _ h => h) (Or.inl ⟨by rfl, ?_⟩) (by assumption) ?_
                  rotate_left
                  · (intro w' hSw; (try dsimp only at hSw); (try simp only [List.getElem_toArray, List.getElem_cons_succ, List.getElem_cons_zero]); go_simp; try (with_reducible rfl))
                  simp only [Act.put, List.getElem_toArray, List.getElem_cons_succ, List.getElem_cons_zero, List.setIfInBounds_toArray, List.set_cons_zero, List.set_cons_succ]
                  refine wpAnyG_take (v := ?_) 19 (by rfl) (by kernel_rfl) (by kernel_rfl) (by kernel_rfl) (by kernel_rfl) (fun _ _ _ h => h) (Or.inl ⟨by rfl, ?_⟩) (by assumption) ?_
                  rotate_left
                  · (intro w' hSw; (try dsimp only at hSw); (try simp only [List.getElem_toArray, List.getElem_cons_succ, List.getElem_cons_zero]); go_simp; try (with_reducible rfl))
                  simp only [Act.put, List.getElem_toArray, List.getElem_cons_succ, List.getElem_cons_zero, List.setIfInBounds_toArray, List.set_cons_zero, List.set_cons_succ]
                  refine wpAnyG_take (v := ?_) 20 (by rfl) (by kernel_rfl) (by kernel_rfl) (by kernel_rfl) (by kernel_rfl) (fun _ _ _ h => h) (Or.inl ⟨by rfl, ?_⟩) (by assumption) ?_
                  rotate_left
                  · (intro w' hSw; (try dsimp only at hSw); (try simp only [List.getElem_toArray, List.getElem_cons_succ, List.getElem_cons_zero]); go_simp; try (with_reducible rfl))
                  simp only [Act.put, List.getElem_toArray, List.getElem_cons_succ, List.getElem_cons_zero, List.setIfInBounds_toArray, List.set_cons_zero, List.set_cons_succ]
                  refine wpAnyG_done (by kernel_rfl) ?_ _
                  refine NoPanic.normal ?_
                  go_wp2
                  rw [unhide HP]
                  exact ⟨by rfl, unhide HF1 _ hb20⟩
                exact AllReadyG.nil
              exact AllReadyG.nil
            · subst hck
              go_upto_region 18 with fail
              rw [← unhide HW18]
              go_region_held3 (fun w' => (w'.cell? ⟨w3.heap.size, 0, none⟩ = some (.int .i64 q.n) ∧ w'.cell? ⟨w3.heap.size, 1, none⟩ = some (.slice ta ln tc) ∧ w'.cell? ⟨w3.heap.size, 2, none⟩ = some (.slice (some ⟨gn, 0, none⟩) ln nc) ∧ w'.cell? ⟨w3.heap.size, 3, none⟩ = some (.slice ca ln cc)) ∧ w'.cell? ⟨w17.heap.size, 0, none⟩ = some (.int .i64 m.n) ∧ w'.cell? ⟨w17.heap.size, 1, none⟩ = some (.slice ma m.tail.length mc) ∧ w'.cell? ⟨w17.heap.size, 2, none⟩ = some (.slice mna m.next.length mnc) ∧ w'.cell? ⟨w17.heap.size, 3, none⟩ = some (.slice mca m.cap.length mcc))
                (exact ⟨unhide HX1 _ (by assumption), (unhide HBX2 _ (by assumption)).1⟩)
                (first
                  | (go_at_call 15
                     refine (unhide HTm _ (by assumption)).mono ?_
                     rintro e w20 ⟨tv, nv, cv, rfl, g1, g2, g3, hl20⟩
                     obtain ⟨_, _, rfl, -, -⟩ := g1.ints.form
                     obtain ⟨_, _, rfl, -, -⟩ := g2.ints.form
                     obtain ⟨_, _, rfl, -, -⟩ := g3.ints.form
                     have hb20 := unhide HTR2 _ _ (by assumption) hl20)
                  | (go_at_call 20
                     refine (unhide HK3 _ (by assumption)).mono ?_
                     rintro e w19 ⟨rfl, hl19⟩
                     have hb19 := unhide HTR2 _ _ (by assumption) hl19))
              all_goals
                go_wp2
                rw [unhide HP]
                exact ⟨by rfl, unhide HF1 _ hb20⟩
end Go.Proofs.Ytnkkgeammohemab


