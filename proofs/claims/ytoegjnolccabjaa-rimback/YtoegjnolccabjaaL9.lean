/- What the proof needs, part 9. -/
import Derived.Test.YtoegjnolccabjaaL8
/- The walk of the second law's Plane. -/
namespace Go.Proofs.Ytoegjnolccabjaa
open Go Go.RowKit

/-- Plane's frame: its net, grown so far. -/
structure PlAt (w wr : World) (i : Nat) (q : Sp.Net) (tv nv cv : Value) : Prop where
  net : NetV wr (w.heap.size + 2) (.agg #[.int .i64 q.n, tv, nv, cv]) q tv nv cv
  at' : MakeAt w wr q.n tv nv cv
  ok : Sp.PlaneQ q i
theorem Sp.planeK_eq (q : Sp.Net) (k : Int) : Sp.planeK q k = if q.tail.length = 0 then (if k % 5 = 0 then ⟨1, [0, 0], [1, 0], [Sp.capOf (k / 30), Sp.capOf (k / 7000)]⟩ else ⟨2, [0, 1], [0, 1], [Sp.capOf (k / 30), Sp.capOf (k / 7000)]⟩)
  else if k % 5 < 2 then Sp.growN q (Sp.planeE q k) (Sp.capOf (k / 30)) (Sp.capOf (k / 7000))
  else Sp.growF q (Sp.planeE q k) (Sp.planeG q k) (Sp.capOf (k / 30)) (Sp.capOf (k / 7000)) := rfl
theorem PlAt.of {w X : World} {i : Nat} {q : Sp.Net} {m : Int} {l1 l2 l3 : List Int} {tv nv cv : Value} (hq : q = ⟨m, l1, l2, l3⟩) (h1 : NetV X (w.heap.size + 2) (.agg #[.int .i64 m, tv, nv, cv]) ⟨m, l1, l2, l3⟩ tv nv cv) (h2 : MakeAt w X m tv nv cv) (h3 : Sp.PlaneQ q i) : PlAt w X i q tv nv cv := by
  subst hq
  exact ⟨h1, h2, h3⟩
theorem PlAt.below {w wr wy : World} {i : Nat} {q : Sp.Net} {tv nv cv : Value} (h : PlAt w wr i q tv nv cv) (hb : Below wr.heap.size wr wy) : PlAt w wy i q tv nv cv := ⟨h.net.keep hb, h.at'.below hb, h.ok⟩
theorem MakeAt.cells3 {w wx : World} {n : Int} {tv nv cv : Value} (h : MakeAt w wx n tv nv cv) (o1 o2 o3 : Obj) :
    (((wx.alloc o1).alloc o2).alloc o3).cell? ⟨w.heap.size + 1, 0, none⟩ = some (.int .i64 n) ∧ (((wx.alloc o1).alloc o2).alloc o3).cell? ⟨w.heap.size + 1, 1, none⟩ = some tv ∧ (((wx.alloc o1).alloc o2).alloc o3).cell? ⟨w.heap.size + 1, 2, none⟩ = some nv ∧ (((wx.alloc o1).alloc o2).alloc o3).cell? ⟨w.heap.size + 1, 3, none⟩ = some cv ∧
      (((wx.alloc o1).alloc o2).alloc o3).frozen? ⟨w.heap.size + 1, 0, none⟩ = false ∧ (((wx.alloc o1).alloc o2).alloc o3).frozen? ⟨w.heap.size + 1, 1, none⟩ = false ∧ (((wx.alloc o1).alloc o2).alloc o3).frozen? ⟨w.heap.size + 1, 2, none⟩ = false ∧ (((wx.alloc o1).alloc o2).alloc o3).frozen? ⟨w.heap.size + 1, 3, none⟩ = false :=
  obj_cells (h.below ((((Below.refl _ _).alloc (Nat.le_refl _) _).alloc (by simp) _).alloc (by simp; omega) _)).b1
set_option maxRecDepth 100000 in
set_option maxHeartbeats 4000000 in
theorem plane_any (ns : List Int) (x : Value) (w : World) (hx : Ints w x ns) :
    Calls Try.prog 10 #[x] w fun e w' => ∃ v tv nv cv, e = .returned v ∧ NetV w' w.heap.size v (Sp.plane ns) tv nv cv ∧ Below w.heap.size w w' := by
  obtain ⟨a, c, rfl, hc, hm, HX⟩ := hx.all
  clear hx
  obtain ⟨n, hn⟩ : ∃ n, ns.length = n := ⟨_, rfl⟩
  have HR : Hid (Sp.plane ns = Sp.planeN ns (min n 24)) := hide (by rw [← hn]; rfl)
  have HX' : Hid (∀ k, (h : k < n) → ∃ b o, a = some ⟨b, o, none⟩ ∧ ∀ w', Below w.heap.size w w' → w'.cell? ⟨b, o + k, none⟩ = some (.int .i64 (ns.getD k 0))) := by
    refine hide fun k h => ?_
    have hk : k < ns.length := by omega
    obtain ⟨b, o, e, -, h2⟩ := unhide HX k hk
    exact ⟨b, o, e, fun w' hb => by rw [h2 w' hb, Sp.getD_eq _ _ hk]⟩
  rw [hn] at hc ⊢
  clear hn HX
  generalize Sp.plane ns = Q at *
  obtain ⟨M, hM⟩ : ∃ M, M = min n 24 := ⟨_, rfl⟩
  rw [← hM] at HR
  have hMn : M ≤ n := by omega
  have hM24 : M ≤ 24 := by omega
  have hMe : M = n ∨ M = 24 := by omega
  clear hM
  obtain ⟨P, hP⟩ : ∃ P : Ending → World → Prop, P = fun e w' => ∃ v tv nv cv, e = .returned v ∧ NetV w' w.heap.size v Q tv nv cv ∧ Below w.heap.size w w' := ⟨_, rfl⟩
  rw [← hP]
  have HP := hide hP
  clear hP
  go_enter Try.func10, Try.ntmps10
  go_wp2
  have HX0 := hide (MakeAt.start w 1 (.slice none 0 0) (.slice none 0 0) (.slice none 0 0))
  generalize (w.alloc (.cells #[.int .i64 0, .slice none 0 0, .slice none 0 0, .slice none 0 0] 25)).alloc (.cells #[.int .i64 1, .slice none 0 0, .slice none 0 0, .slice none 0 0] 25) = W1 at *
  go_loopg [4] M (fun g s4 wr => ∃ (i : Nat) (tv nv cv : Value), i + g = M ∧ s4 = .int .i64 (i : Int) ∧ Hid (PlAt w wr i (Sp.planeN ns i) tv nv cv))
  case atStart => exact ⟨0, _, _, _, by omega, rfl, hide ⟨⟨rfl, World.ownsRow_nil _ _ _ _, World.ownsRow_nil _ _ _ _, World.ownsRow_nil _ _ _ _, .inl rfl, .inl rfl, .inl rfl⟩, unhide HX0, Sp.planeN_ok ns 0⟩⟩
  case round =>
    clear HX0
    obtain ⟨i, tv, nv, cv, hig, rfl, HI⟩ := hrel
    cases gk with
    | zero =>
      obtain rfl : i = M := by omega
      go_upto_region 3 with fail
      go_cut [24] (fun s wx => s = .bool false ∧ wr = wx)
      case first =>
        by_cases h1 : i < n
        · obtain rfl : i = 24 := by omega
          have h1I : ((24 : Nat) : Int) < (n : Int) := by omega
          have h1J : (24 : Int) < (n : Int) := by omega
          clear h1 hig
          go_wp2
          go_meet
          exact ⟨rfl, rfl⟩
        · obtain rfl : i = n := by omega
          clear h1 hig
          go_wp2
          go_meet
          exact ⟨rfl, rfl⟩
      case rest =>
        obtain ⟨rfl, rfl⟩ := hcut
        clear hMe
        generalize Sp.planeN ns i = q at *
        have HV := hide (unhide HI).net
        have HB := hide (unhide HI).at'
        obtain ⟨x0, x1, x2, x3, z0, z1, z2, z3⟩ := obj_cells (unhide HI).at'.b1
        obtain ⟨p0, p1, p2, p3, s0, s1, s2, s3⟩ := obj_cells (unhide HI).at'.b0
        obtain ⟨ta, tc, rfl, htc, htm⟩ := (unhide HI).net.tail.ints.form
        obtain ⟨na, nc, rfl, hnc, hnm⟩ := (unhide HI).net.next.ints.form
        obtain ⟨ca, cc, rfl, hcc, hcm⟩ := (unhide HI).net.cap.ints.form
        go_wp2
        have hfin := (unhide HB).done q.n (.slice ta q.tail.length tc) (.slice na q.next.length nc) (.slice ca q.cap.length cc)
        have HT' := four_own (unhide HV).tail (show w.heap.size < w.heap.size + 2 by omega) q.n (.slice ta q.tail.length tc) (.slice na q.next.length nc) (.slice ca q.cap.length cc)
        have HN' := four_own (unhide HV).next (show w.heap.size < w.heap.size + 2 by omega) q.n (.slice ta q.tail.length tc) (.slice na q.next.length nc) (.slice ca q.cap.length cc)
        have HC' := four_own (unhide HV).cap (show w.heap.size < w.heap.size + 2 by omega) q.n (.slice ta q.tail.length tc) (.slice na q.next.length nc) (.slice ca q.cap.length cc)
        have hbl' := four_below0 (unhide HB).bel q.n (.slice ta q.tail.length tc) (.slice na q.next.length nc) (.slice ca q.cap.length cc)
        clear p0 p1 p2 p3 s0 s1 s2 s3 x0 x1 x2 x3 z0 z1 z2 z3
        generalize (((wr.setCell ⟨w.heap.size, 0, none⟩ (.int .i64 q.n)).setCell ⟨w.heap.size, 1, none⟩ (.slice ta q.tail.length tc)).setCell ⟨w.heap.size, 2, none⟩ (.slice na q.next.length nc)).setCell ⟨w.heap.size, 3, none⟩ (.slice ca q.cap.length cc) = WF at *
        obtain ⟨r0, r1, r2, r3, -, -, -, -⟩ := obj_cells hfin
        have hNV : NetV WF w.heap.size (.agg #[.int .i64 q.n, .slice ta q.tail.length tc, .slice na q.next.length nc, .slice ca q.cap.length cc]) Q (.slice ta q.tail.length tc) (.slice na q.next.length nc) (.slice ca q.cap.length cc) := by
          rw [unhide HR]
          exact ⟨rfl, own_base HT' (by omega), own_base HN' (by omega), own_base HC' (by omega), (unhide HV).tn, (unhide HV).tc, (unhide HV).nc⟩
        rw [unhide HP]
        refine bodyPost_ret (v := .agg #[.int .i64 q.n, .slice ta q.tail.length tc, .slice na q.next.length nc, .slice ca q.cap.length cc]) (by simp [results, Try.results10, go_sem, r0, r1, r2, r3]) rfl ?_
        first
          | exact ⟨_, _, _, _, rfl, hNV, hbl'⟩
          | exact ⟨⟨_, _, _, hNV⟩, hbl'⟩
          | exact ⟨_, rfl, ⟨_, _, _, hNV⟩, hbl'⟩
    | succ g' =>
      have hlt : i < n := by omega
      have hltI : (i : Int) < (n : Int) := by omega
      have hlt24 : (i : Int) < 24 := by omega
      have hi24 : i < 24 := by omega
      obtain ⟨b, o, rfl, hcx⟩ := unhide HX' i hlt
      have g1 := hcx _ (unhide HI).at'.bel
      clear hcx hMe
      have HQ : Hid (Sp.planeN ns (i + 1) = Sp.planeK (Sp.planeN ns i) (ns.getD i 0 % 1125899906842624)) := hide rfl
      have HOK := hide (unhide HI).ok
      generalize Sp.planeN ns i = q at *
      generalize ns.getD i 0 = y at *
      have HK := hide (fun w' => within2_any y 1125899906842624 w' (by omega) (by omega))
      have hk0 : 0 ≤ y % 1125899906842624 := Int.emod_nonneg _ (by omega)
      have hk1 : y % 1125899906842624 < 1125899906842624 := Int.emod_lt_of_pos _ (by omega)
      generalize y % 1125899906842624 = k at *
      rw [Sp.planeK_eq] at HQ
      have HC1 := hide (fun w' => cap_any (k / 30) w')
      have HC2 := hide (fun w' => cap_any (k / 7000) w')
      have HCb := hide (And.intro (Sp.capOf_bd (k / 30)) (Sp.capOf_bd (k / 7000)))
      generalize Sp.capOf (k / 30) = c1 at *
      generalize Sp.capOf (k / 7000) = d1 at *
      have hw30 : IntKind.i64.wrap (k.tdiv 30) = k / 30 := by rw [IntKind.wrap_i64, Int.tdiv_eq_ediv_of_nonneg hk0]; omega
      have hw70 : IntKind.i64.wrap (k.tdiv 7000) = k / 7000 := by rw [IntKind.wrap_i64, Int.tdiv_eq_ediv_of_nonneg hk0]; omega
      have Hr5 : Hid (k.tmod 5 = k % 5 ∧ 0 ≤ k % 5 ∧ k % 5 < 5) := hide ⟨Int.tmod_eq_emod_of_nonneg hk0, by omega, by omega⟩
      obtain ⟨ta, tc, htv, htc, htm⟩ := (unhide HI).net.tail.ints.form
      obtain ⟨na, nc, hnv, hnc, hnm⟩ := (unhide HI).net.next.ints.form
      obtain ⟨ca, cc, hcv, hcc, hcm⟩ := (unhide HI).net.cap.ints.form
      obtain ⟨ln, hln⟩ : ∃ ln, q.tail.length = ln := ⟨_, rfl⟩
      have hln48 : ln ≤ 48 := by have := (unhide HOK).le; omega
      rw [hln] at htv htc HQ
      rw [(unhide HOK).nx, hln] at hnv hnc
      rw [(unhide HOK).cp, hln] at hcv hcc
      subst htv hnv hcv
      have Hln := hide hln
      clear hln
      obtain ⟨x0, x1, x2, x3, z0, z1, z2, z3⟩ := obj_cells (unhide HI).at'.b1
      go_wp2_with fail
      go_at_call 23
      refine (unhide HK _).mono ?_
      rintro e w1 ⟨rfl, rfl⟩
      clear HK g1
      go_wp2_with fail
      go_at_call 24
      refine (unhide HC1 _).mono ?_
      rintro e w1 ⟨rfl, rfl⟩
      clear HC1
      go_wp2_with fail
      go_at_call 24
      refine (unhide HC2 _).mono ?_
      rintro e w1 ⟨rfl, rfl⟩
      clear HC2 hw30 hw70
      by_cases hz : ln = 0
      · subst hz
        rw [if_pos rfl] at HQ
        have HL := hide ((unhide HI).at'.lits 2 0 1 0 1 c1 d1 _ _ _ rfl rfl rfl)
        clear x0 x1 x2 x3 z0 z1 z2 z3 htc hnc hcc
        obtain ⟨x0, x1, x2, x3, z0, z1, z2, z3⟩ := (unhide HI).at'.cells3 (.cells #[.int .i64 0, .int .i64 1] 3) (.cells #[.int .i64 0, .int .i64 1] 3) (.cells #[.int .i64 c1, .int .i64 d1] 3)
        go_upto_region 10 with fail
        have HL' := hide (unhide HL _ rfl)
        clear HL x0 x1 x2 x3 z0 z1 z2 z3
        generalize ((((((w1.alloc (.cells #[.int .i64 0, .int .i64 1] 3)).alloc (.cells #[.int .i64 0, .int .i64 1] 3)).alloc (.cells #[.int .i64 c1, .int .i64 d1] 3)).setCell ⟨w.heap.size + 1, 0, none⟩ (.int .i64 2)).setCell ⟨w.heap.size + 1, 1, none⟩ (.slice (some ⟨w1.heap.size, 0, none⟩) 2 2)).setCell ⟨w.heap.size + 1, 2, none⟩ (.slice (some ⟨w1.heap.size + 1, 0, none⟩) 2 2)).setCell ⟨w.heap.size + 1, 3, none⟩ (.slice (some ⟨w1.heap.size + 2, 0, none⟩) 2 2) = W5 at *
        generalize w1.heap.size = s1 at *
        by_cases h5 : k % 5 = 0
        · have h5t : k.tmod 5 = 0 := by rw [(unhide Hr5).1]; exact h5
          rw [if_pos h5] at HQ
          clear h5
          have HL2 := hide ((unhide HL').2.lits 1 0 0 1 0 c1 d1 _ _ _ rfl rfl rfl)
          obtain ⟨x0, x1, x2, x3, z0, z1, z2, z3⟩ := (unhide HL').2.cells3 (.cells #[.int .i64 0, .int .i64 0] 3) (.cells #[.int .i64 1, .int .i64 0] 3) (.cells #[.int .i64 c1, .int .i64 d1] 3)
          clear HL'
          go_upto_region 4 with fail
          have HL' := hide (unhide HL2 _ rfl)
          clear HL2 x0 x1 x2 x3 z0 z1 z2 z3
          generalize ((((((W5.alloc (.cells #[.int .i64 0, .int .i64 0] 3)).alloc (.cells #[.int .i64 1, .int .i64 0] 3)).alloc (.cells #[.int .i64 c1, .int .i64 d1] 3)).setCell ⟨w.heap.size + 1, 0, none⟩ (.int .i64 1)).setCell ⟨w.heap.size + 1, 1, none⟩ (.slice (some ⟨W5.heap.size, 0, none⟩) 2 2)).setCell ⟨w.heap.size + 1, 2, none⟩ (.slice (some ⟨W5.heap.size + 1, 0, none⟩) 2 2)).setCell ⟨w.heap.size + 1, 3, none⟩ (.slice (some ⟨W5.heap.size + 2, 0, none⟩) 2 2) = W6 at *
          generalize W5.heap.size = s5 at *
          go_wp2
          go_roundg g'
          case rel => exact ⟨i + 1, _, _, _, by omega, by go_num, hide (PlAt.of (unhide HQ) (unhide HL').1 (unhide HL').2 (Sp.planeN_ok ns (i + 1)))⟩
          case measure => omega
        · obtain ⟨r5, hr5⟩ : ∃ r5, k.tmod 5 = r5 := ⟨_, rfl⟩
          have h5t : ¬ r5 = 0 := by rw [← hr5, (unhide Hr5).1]; exact h5
          have h5b : (r5 == 0) = false := beq_eq_false_iff_ne.2 h5t
          rw [if_neg h5] at HQ
          clear h5
          go_wp2
          go_roundg g'
          case rel => exact ⟨i + 1, _, _, _, by omega, by go_num, hide (PlAt.of (unhide HQ) (unhide HL').1 (unhide HL').2 (Sp.planeN_ok ns (i + 1)))⟩
          case measure => omega
      · rw [if_neg hz] at HQ
        have hzI : ¬ (ln : Int) = 0 := by omega
        have hzB : ((ln : Int) == 0) = false := beq_eq_false_iff_ne.2 hzI
        have hlp : 0 < ln := by omega
        obtain ⟨e, he⟩ : ∃ e, Sp.planeE q k = e := ⟨_, rfl⟩
        have hel : e < ln := by rw [← he, ← unhide Hln]; exact Sp.planeE_lt q k (by rw [unhide Hln]; exact hlp)
        have helI : (e : Int) < (ln : Int) := by omega
        have hw5 : IntKind.i64.wrap (k.tdiv 5) = k / 5 := by rw [IntKind.wrap_i64, Int.tdiv_eq_ediv_of_nonneg hk0]; omega
        have hte : (k / 5).tmod (ln : Int) = (e : Int) := by
          rw [Int.tmod_eq_emod_of_nonneg (by omega), ← he]
          unfold Sp.planeE
          rw [unhide Hln, Int.toNat_of_nonneg (Int.emod_nonneg _ hzI)]
        obtain ⟨FL, hFL⟩ : ∃ FL, (Sp.faces2 q).1 = FL := ⟨_, rfl⟩
        have HFlen : Hid (FL.length = ln) := hide (by rw [← hFL, Sp.faces2_len, unhide Hln])
        have HS0 : Hid (Sp.planeS q k = Sp.sameL FL q.next e ln) := hide (by unfold Sp.planeS; rw [hFL, he, unhide Hln])
        rw [he] at HQ
        have HF := hide (faces2_any q _ _ _ _ w1 (unhide HI).net.netI (unhide HOK).nx (by rw [unhide Hln]; omega) (unhide HOK).ev (unhide HOK).pm)
        rw [hFL] at HF
        generalize ((max (Sp.faces2 q).2 1 : Nat) : Int) = fk at *
        have He := hide he
        clear he hFL
        go_wp2_with fail
        go_at_call 25
        refine (unhide HF).mono ?_
        clear HF x0 x1 x2 x3 z0 z1 z2 z3 hw5 hte
        rintro e' w2 ⟨fv, rfl, hownF, hb2⟩
        have HI2 := hide ((unhide HI).below hb2)
        have HFb : Hid (∀ j : Nat, j < ln → 0 ≤ q.next.getD j 0 ∧ q.next.getD j 0 < (ln : Int)) := hide fun j hj => by
          have h := (unhide HOK).pm.bd _ (Sp.getD_mem (l := q.next) (k := j) (by rw [(unhide HOK).nx, unhide Hln]; exact hj))
          rw [(unhide HOK).nx, unhide Hln] at h
          exact h
        obtain ⟨fg, fcp, hfv, hfg1, hfg2, hfc1, hfc2⟩ := own_form hownF (by rw [unhide HFlen]; exact hlp)
        rw [unhide HFlen] at hfv hfc1
        subst hfv
        obtain ⟨ng, ncp, hnv, hng1, hng2, -, -⟩ := own_form (unhide HI2).net.next (by rw [(unhide HOK).nx, unhide Hln]; exact hlp)
        injection hnv with hnv1 hnv2 hnv3
        subst hnv1
        have HFo := hide hownF
        clear hnv2 hnv3 hb2 HI hownF ncp
        go_wp2
        go_loopg [12, 13] ln (fun g s12 s13 wr => ∃ (x : Nat) (sv : Value), sv = s12 ∧ x + g = ln ∧ s13 = .int .i64 (x : Int) ∧ Hid (OwnI wr w2.heap.size sv ((Sp.sameL FL q.next e x).map fun y : Nat => (y : Int)) ∧ Below w2.heap.size w2 wr))
        case atStart => exact ⟨0, _, rfl, by omega, rfl, hide ⟨World.ownsRow_nil _ _ _ _, Below.refl _ _⟩⟩
        case round =>
          obtain ⟨x, sv, rfl, hxg, rfl, HJ⟩ := hrel
          cases gk with
          | succ g2 =>
            have hxl : x < ln := by omega
            have hxI : (x : Int) < (ln : Int) := by omega
            obtain ⟨sa, sc, rfl, hsc, hsm⟩ := (unhide HJ).1.ints.form
            have hsl := Sp.sameL_le FL q.next e x
            obtain ⟨sl, hsle⟩ : ∃ sl, ((Sp.sameL FL q.next e x).map fun y : Nat => (y : Int)).length = sl := ⟨_, rfl⟩
            have hsl2 : sl ≤ 48 := by rw [List.length_map] at hsle; omega
            rw [hsle] at HJ hsc ⊢
            have Hsle := hide hsle
            clear hsle hsl
            have HI3 := hide ((unhide HI2).below (unhide HJ).2)
            have hnl : q.next.length = ln := by rw [(unhide HOK).nx, unhide Hln]
            have c1' := own_cell (unhide HI3).net.next x (by rw [hnl]; exact hxl)
            have c2' := own_cell (unhide HI3).net.next e (by rw [hnl]; exact hel)
            rw [← Sp.getD_eq] at c1' c2'
            have b1 := unhide HFb x hxl
            have b2 := unhide HFb e hel
            obtain ⟨j1, hj1⟩ : ∃ j1 : Nat, q.next.getD x 0 = (j1 : Int) := ⟨(q.next.getD x 0).toNat, by omega⟩
            obtain ⟨j2, hj2⟩ : ∃ j2 : Nat, q.next.getD e 0 = (j2 : Int) := ⟨(q.next.getD e 0).toNat, by omega⟩
            have HSS := hide (Sp.sameL_succ FL q.next e x)
            rw [hj1, hj2, Int.toNat_natCast, Int.toNat_natCast] at HSS
            rw [hj1] at c1' b1
            rw [hj2] at c2' b2
            have hj1l : j1 < ln := by omega
            have hj2l : j2 < ln := by omega
            have c3' := own_cell (own_below (unhide HFo) (unhide HJ).2) j1 (by rw [unhide HFlen]; exact hj1l)
            have c4' := own_cell (own_below (unhide HFo) (unhide HJ).2) j2 (by rw [unhide HFlen]; exact hj2l)
            rw [← Sp.getD_eq] at c3' c4'
            generalize FL.getD j1 0 = f1 at *
            generalize FL.getD j2 0 = f2 at *
            obtain ⟨x0, x1, x2, x3, -, -, -, -⟩ := obj_cells (unhide HI3).at'.b1
            have hj1I : (j1 : Int) < (ln : Int) := by omega
            have hj2I : (j2 : Int) < (ln : Int) := by omega
            clear hnl b1 b2 hj1 hj2 x0 x1 x3
            by_cases hf : f1 = f2
            · subst hf
              have HSN : Hid ((Sp.sameL FL q.next e (x + 1)).map (fun y : Nat => (y : Int)) = (Sp.sameL FL q.next e x).map (fun y : Nat => (y : Int)) ++ [(x : Int)]) := hide (by rw [unhide HSS, if_pos rfl, List.map_append]; rfl)
              clear HSS
              go_wp2
              go_quiet (fail)
              have HJ' := hide (And.intro (own_dn (unhide HJ).1 ⟨nq, rfl⟩) (below_dn (unhide HJ).2 nq))
              have hss := (unhide HJ').2.size
              clear HJ HI3 c1' c2' c3' c4' x2
              generalize wr.drewN nq = wq at *
              go_wp2_with (at_builtin; refine wpList_app (w := wq.alloc (.cells #[.int .i64 (x : Int)] 3)) rfl _ _ rfl w2.heap.size _ _ ((Sp.sameL FL q.next e x).map fun y : Nat => (y : Int)) [(x : Int)] rfl rfl (World.ownsRow.alloc (unhide HJ').1 _) (OwnI.ints (own_lit wq 0 _ 1 [(x : Int)] rfl rfl (by omega) (by simp))) (sl + 1) (by rw [unhide Hsle]; rfl) (by omega) (by simp; omega) ?_)
              intro a6 c6 w6 hown6 hb6 hgr6
              have HJ6 : Hid (OwnI w6 w2.heap.size (.slice a6 (sl + 1) c6) ((Sp.sameL FL q.next e (x + 1)).map fun y : Nat => (y : Int)) ∧ Below w2.heap.size w2 w6) := hide ⟨by rw [unhide HSN]; exact hown6, ((unhide HJ').2.alloc hss _).trans hb6⟩
              clear hown6 hb6 hgr6 HSN HJ'
              go_wp2
              go_roundg g2
              case rel => exact ⟨x + 1, _, rfl, by omega, by go_num, HJ6⟩
              case measure => omega
            · have hfb : (f1 == f2) = false := beq_eq_false_iff_ne.2 hf
              have HSN : Hid (Sp.sameL FL q.next e (x + 1) = Sp.sameL FL q.next e x) := hide (by rw [unhide HSS, if_neg hf, List.append_nil])
              clear HSS
              go_wp2
              go_quiet (fail)
              have HJ' := hide (And.intro (own_dn (unhide HJ).1 ⟨nq, rfl⟩) (below_dn (unhide HJ).2 nq))
              clear HJ HI3 c1' c2' c3' c4' x2
              generalize wr.drewN nq = wq at *
              go_wp2
              go_roundg g2
              case rel => exact ⟨x + 1, _, rfl, by omega, by go_num, by rw [unhide HSN]; exact HJ'⟩
              case measure => omega
          | zero =>
            have hxe : x = ln := by omega
            rw [hxe] at HJ ⊢
            clear hxe hxg
            have hsp : 0 < (Sp.planeS q k).length := Sp.planeS_pos q k (by rw [unhide Hln]; exact hlp)
            obtain ⟨SL, hSL⟩ : ∃ SL, Sp.sameL FL q.next e ln = SL := ⟨_, rfl⟩
            have HG0 : Hid (Sp.planeG q k = SL.getD (k / 1200 % (SL.length : Int)).toNat 0) := hide (by unfold Sp.planeG; rw [unhide HS0, hSL])
            have hsl := Sp.sameL_le FL q.next e ln
            rw [unhide HS0, hSL] at hsp
            rw [hSL] at HJ hsl
            obtain ⟨sg, scp, hsv, hsg1, hsg2, hsc1, hsc2⟩ := own_form (unhide HJ).1 (by rw [List.length_map]; exact hsp)
            rw [List.length_map] at hsv hsc1
            obtain ⟨gg, hgg⟩ : ∃ gg, Sp.planeG q k = gg := ⟨_, rfl⟩
            have hgl : gg < ln := by rw [← hgg, ← unhide Hln]; exact Sp.planeG_lt q k (by rw [unhide Hln]; exact hlp)
            rw [hgg] at HG0 HQ
            obtain ⟨sl, hsle⟩ : ∃ sl, SL.length = sl := ⟨_, rfl⟩
            have hm0 : 0 ≤ k / 1200 % (sl : Int) := Int.emod_nonneg _ (by omega)
            have hm1 : k / 1200 % (sl : Int) < sl := Int.emod_lt_of_pos _ (by omega)
            obtain ⟨m, hmm⟩ : ∃ m : Nat, k / 1200 % (sl : Int) = (m : Int) := ⟨(k / 1200 % (sl : Int)).toNat, by omega⟩
            have hml : m < sl := by omega
            have hmI : (m : Int) < (sl : Int) := by omega
            rw [hsle] at HG0 hsv hsc1 hsl hsp
            rw [hmm, Int.toNat_natCast] at HG0
            have c1' : wr.cell? ⟨sg, m, none⟩ = some (.int .i64 (gg : Int)) := by
              have h : OwnI wr w2.heap.size (.slice (some ⟨sg, 0, none⟩) sl scp) (SL.map fun y : Nat => (y : Int)) := by rw [← hsv]; exact (unhide HJ).1
              have h2 := own_cell h m (by rw [List.length_map, hsle]; exact hml)
              have hms : m < SL.length := by rw [hsle]; exact hml
              rw [h2, List.getElem_map, unhide HG0, List.getD_eq_getElem?_getD, List.getElem?_eq_getElem hms]
              rfl
            subst hsv
            have hw12 : IntKind.i64.wrap (k.tdiv 1200) = k / 1200 := by rw [IntKind.wrap_i64, Int.tdiv_eq_ediv_of_nonneg hk0]; omega
            have htm12 : (k / 1200).tmod (sl : Int) = (m : Int) := by rw [Int.tmod_eq_emod_of_nonneg (by omega), hmm]
            have hslz : ¬ (sl : Int) = 0 := by omega
            have HI3 := hide ((unhide HI2).below (unhide HJ).2)
            clear hSL HG0 HS0 hsl hsle hm0 hm1 hmm hgg HJ HI2 HFo HFb HFlen hfg1 hfg2 hfc1 hfc2 SL
            obtain ⟨tg, tcp, htv, htg1, htg2, -, -⟩ := own_form (unhide HI3).net.tail (by rw [unhide Hln]; exact hlp)
            injection htv with htv1 htv2 htv3
            subst htv1
            clear htv2 htv3 tcp
            have c2' := own_cell (unhide HI3).net.tail gg (by rw [unhide Hln]; exact hgl)
            rw [← Sp.getD_eq] at c2'
            obtain ⟨y0, hy0⟩ : ∃ y0, q.tail.getD e 0 = y0 := ⟨_, rfl⟩
            obtain ⟨yg, hyg⟩ : ∃ yg, q.tail.getD gg 0 = yg := ⟨_, rfl⟩
            rw [hyg] at c2'
            have Hy0 := hide hy0
            have Hyg := hide hyg
            clear hy0 hyg
            have hggI : (gg : Int) < (ln : Int) := by omega
            obtain ⟨x0, x1, x2, x3, z0, z1, z2, z3⟩ := obj_cells (unhide HI3).at'.b1
            obtain ⟨r5, hr5⟩ : ∃ r5, k.tmod 5 = r5 := ⟨_, rfl⟩
            have Hq5 : Hid (k % 5 = r5) := hide (by rw [← hr5, (unhide Hr5).1])
            have hsI3 := (unhide HI3).at'.size
            by_cases h2 : r5 < 2
            · have h2' : decide (r5 < 2) = true := decide_eq_true h2
              have h2n : ¬ (2 ≤ r5) := by omega
              have hn0 := (unhide HOK).n0
              have hn1 := (unhide HOK).n1
              have hwn : IntKind.i64.wrap (q.n + 1) = q.n + 1 := by rw [IntKind.wrap_i64]; omega
              have HQ' : Hid (Sp.planeN ns (i + 1) = ⟨q.n + 1, q.tail ++ [y0, q.n], Sp.layIn (q.next ++ [(ln : Int), (ln : Int) + 1]) e ln, q.cap ++ [c1, d1]⟩) := by
                have h := unhide HQ
                rw [if_pos (by rw [unhide Hq5]; exact h2)] at h
                rw [h]
                unfold Sp.growN
                rw [unhide Hln, unhide Hy0]
                exact hide rfl
              clear HQ
              go_upto_region 25 with fail
              have HX0 := hide ((unhide HI3).at'.setF0 (q.n + 1))
              have HT := hide (own_store (unhide HI3).net.tail (show w.heap.size + 1 < w.heap.size + 2 by omega) 0 (.int .i64 (q.n + 1)))
              have HN := hide (own_store (unhide HI3).net.next (show w.heap.size + 1 < w.heap.size + 2 by omega) 0 (.int .i64 (q.n + 1)))
              have HCp := hide (own_store (unhide HI3).net.cap (show w.heap.size + 1 < w.heap.size + 2 by omega) 0 (.int .i64 (q.n + 1)))
              clear x0 x1 x2 x3 z0 z1 z2 z3 c1' c2' HI3
              generalize wr.setCell ⟨w.heap.size + 1, 0, none⟩ (.int .i64 (q.n + 1)) = W2 at *
              obtain ⟨nn, hnn⟩ : ∃ nn, nn = q.n + 1 := ⟨_, rfl⟩
              rw [← hnn] at HX0
              rw [← hnn] at HQ'
              go_upto_region 25 with fail
              go_cut [] (fun wx => ∃ a' c', OwnI wx W2.heap.size (.slice a' (ln + 2) c') (q.tail ++ [y0, q.n]) ∧ MakeAt w wx nn (.slice a' (ln + 2) c') (.slice (some ⟨ng, 0, none⟩) ln nc) (.slice ca ln cc) ∧ OwnI wx (w.heap.size + 2) (.slice (some ⟨ng, 0, none⟩) ln nc) q.next ∧ OwnI wx (w.heap.size + 2) (.slice ca ln cc) q.cap)
              case first =>
                have HX1 := hide ((unhide HX0).below (Below.refl _ _).drew)
                have HT1 := hide (own_drew (unhide HT))
                have HS : Hid (∀ w', Below W2.drew.heap.size W2.drew w' → w'.cell? ⟨w.heap.size + 1, 1, none⟩ = some (.slice (some ⟨tg, 0, none⟩) ln tc) ∧ w'.cell? ⟨tg, e, none⟩ = some (.int .i64 y0)) := by
                  refine hide fun w' hb => ?_
                  have h := (unhide HX1).below hb
                  refine ⟨(obj_cells h.b1).2.1, ?_⟩
                  have h2 := own_cell (own_below (unhide HT1) hb) e (by rw [unhide Hln]; exact hel)
                  rw [← Sp.getD_eq, unhide Hy0] at h2
                  exact h2
                have HU : Hid (∀ w', Below W2.drew.heap.size W2.drew w' → Ints w' (.slice (some ⟨tg, 0, none⟩) ln tc) q.tail) := hide fun w' hb => OwnI.ints (own_below (unhide HT1) hb)
                have hN3 := hide (own_drew (unhide HN))
                have hC3 := hide (own_drew (unhide HCp))
                have hWW : Hid (W2.drew.heap.size = W2.heap.size) := hide rfl
                have hsz := (unhide HX1).size
                refine wp_region_G (fun w' => w'.cell? ⟨w.heap.size + 1, 1, none⟩ = some (.slice (some ⟨tg, 0, none⟩) ln tc) ∧ w'.cell? ⟨tg, e, none⟩ = some (.int .i64 y0)) (fun i => i == 13) (by kernel_rfl) (unhide HS _ (Below.refl _ _)) (fun hHeld => ?_)
                generalize W2.drew = W3 at *
                refine wpAnyG_take (v := ?_) 1 (by rfl) (by kernel_rfl) (by kernel_rfl) (by kernel_rfl) (by kernel_rfl) (fun _ _ _ h => h) (Or.inl ⟨by rfl, ?_⟩) (by assumption) ?_
                rotate_left
                · (intro w' hSw; (try dsimp only at hSw); (try simp only [List.getElem_toArray, List.getElem_cons_succ, List.getElem_cons_zero]); go_simp; try (with_reducible rfl))
                simp only [Act.put, List.getElem_toArray, List.getElem_cons_succ, List.getElem_cons_zero, List.setIfInBounds_toArray, List.set_cons_zero, List.set_cons_succ]
                refine wpAnyG_take (v := ?_) 2 (by rfl) (by kernel_rfl) (by kernel_rfl) (by kernel_rfl) (by kernel_rfl) (fun _ _ _ h => h) (Or.inl ⟨by rfl, ?_⟩) (by assumption) ?_
                rotate_left
                · (intro w' hSw; (try dsimp only at hSw); (try simp only [List.getElem_toArray, List.getElem_cons_succ, List.getElem_cons_zero]); go_simp; try (with_reducible rfl))
                simp only [Act.put, List.getElem_toArray, List.getElem_cons_succ, List.getElem_cons_zero, List.setIfInBounds_toArray, List.set_cons_zero, List.set_cons_succ]
                refine wpAnyG_take (v := ?_) 4 (by rfl) (by kernel_rfl) (by kernel_rfl) (by kernel_rfl) (by kernel_rfl) (fun _ _ _ h => h) (Or.inl ⟨by rfl, ?_⟩) (by assumption) ?_
                rotate_left
                · (intro w' hSw; (try dsimp only at hSw); (try simp only [List.getElem_toArray, List.getElem_cons_succ, List.getElem_cons_zero]); go_simp; try (with_reducible rfl))
                simp only [Act.put, List.getElem_toArray, List.getElem_cons_succ, List.getElem_cons_zero, List.setIfInBounds_toArray, List.set_cons_zero, List.set_cons_succ]
                refine wpAnyG_take (v := ?_) 5 (by rfl) (by kernel_rfl) (by kernel_rfl) (by kernel_rfl) (by kernel_rfl) (fun _ _ _ h => h) (Or.inl ⟨by rfl, ?_⟩) (by assumption) ?_
                rotate_left
                · (intro w' hSw; (try dsimp only at hSw); (try simp only [List.getElem_toArray, List.getElem_cons_succ, List.getElem_cons_zero]); go_simp; try (with_reducible rfl))
                simp only [Act.put, List.getElem_toArray, List.getElem_cons_succ, List.getElem_cons_zero, List.setIfInBounds_toArray, List.set_cons_zero, List.set_cons_succ]
                refine wpAnyG_take (v := ?_) 6 (by rfl) (by kernel_rfl) (by kernel_rfl) (by kernel_rfl) (by kernel_rfl) (fun _ _ _ h => h) (Or.inl ⟨by rfl, ?_⟩) (by assumption) ?_
                rotate_left
                · (intro w' hSw; (try dsimp only at hSw); (try simp only [List.getElem_toArray, List.getElem_cons_succ, List.getElem_cons_zero]); go_simp; try (with_reducible rfl))
                simp only [Act.put, List.getElem_toArray, List.getElem_cons_succ, List.getElem_cons_zero, List.setIfInBounds_toArray, List.set_cons_zero, List.set_cons_succ]
                refine wpAnyG_take (v := ?_) 7 (by rfl) (by kernel_rfl) (by kernel_rfl) (by kernel_rfl) (by kernel_rfl) (fun _ _ _ h => h) (Or.inl ⟨by rfl, ?_⟩) (by assumption) ?_
                rotate_left
                · (intro w' hSw; (try dsimp only at hSw); (try simp only [List.getElem_toArray, List.getElem_cons_succ, List.getElem_cons_zero]); go_simp; try (with_reducible rfl))
                simp only [Act.put, List.getElem_toArray, List.getElem_cons_succ, List.getElem_cons_zero, List.setIfInBounds_toArray, List.set_cons_zero, List.set_cons_succ]
                refine wpAnyG_take (v := ?_) 8 (by rfl) (by kernel_rfl) (by kernel_rfl) (by kernel_rfl) (by kernel_rfl) (fun _ _ _ h => h) (Or.inl ⟨by rfl, ?_⟩) (by assumption) ?_
                rotate_left
                · (intro w' hSw; (try dsimp only at hSw); (try simp only [List.getElem_toArray, List.getElem_cons_succ, List.getElem_cons_zero]); go_simp; try (with_reducible rfl))
                simp only [Act.put, List.getElem_toArray, List.getElem_cons_succ, List.getElem_cons_zero, List.setIfInBounds_toArray, List.set_cons_zero, List.set_cons_succ]
                refine wpAnyG_take (v := ?_) 9 (by rfl) (by kernel_rfl) (by kernel_rfl) (by kernel_rfl) (by kernel_rfl) (fun _ _ _ h => h) (Or.inl ⟨by rfl, ?_⟩) (by assumption) ?_
                rotate_left
                · (intro w' hSw; (try dsimp only at hSw); (try simp only [List.getElem_toArray, List.getElem_cons_succ, List.getElem_cons_zero]); go_simp; try (with_reducible rfl))
                simp only [Act.put, List.getElem_toArray, List.getElem_cons_succ, List.getElem_cons_zero, List.setIfInBounds_toArray, List.set_cons_zero, List.set_cons_succ]
                refine wpAnyG_ready [0, 10] (by kernel_rfl) (by simp) ?_
                refine AllReadyG.cons 0 (by rfl) (fun K hK => ?_) ?_
                · simp only [List.getElem_toArray, List.getElem_cons_zero]
                  go_simp
                  refine hK.out _ _ (unhide HS _ (by repeat (first | assumption | exact Below.refl _ _ | refine Below.drew ?_ | refine Below.alloc ?_ (by first | omega | (simp; done) | (simp; omega)) _))) (fun _ => ?_)
                  clear hK K
                  try simp only [Act.put, List.setIfInBounds_toArray, List.set_cons_zero, List.set_cons_succ]
                  refine wpAnyG_ready [3, 10] (by kernel_rfl) (by simp) ?_
                  refine AllReadyG.cons 3 (by rfl) (fun K hK => ?_) ?_
                  · simp only [List.getElem_toArray, List.getElem_cons_succ, List.getElem_cons_zero]
                    refine if_wanted (by rfl) (wp_app (w := W3.alloc (.cells #[] 3)) _ _ (by rfl) W3.heap.size _ _ [] q.tail (by rfl) (by rfl) (own_lit (W3) _ (W3.heap.size) 0 [] (by simp) rfl (by first | omega | (simp; done) | (simp; omega)) (by simp)) (unhide HU _ (by repeat (first | assumption | exact Below.refl _ _ | refine Below.drew ?_ | refine Below.alloc ?_ (by first | omega | (simp; done) | (simp; omega)) _))) ln (by rw [unhide Hln]; exact Nat.zero_add _) (by omega) (by first | omega | (simp; done) | (simp; omega)) ?_)
                    intro a5 c5 w5 hown5 hb5 hgr5
                    have hb5' : Below W3.heap.size W3 w5 := Below.trans (by repeat (first | assumption | exact Below.refl _ _ | refine Below.drew ?_ | refine Below.alloc ?_ (by first | omega | (simp; done) | (simp; omega)) _)) hb5
                    have hs5 := hb5'.size
                    skip
                    clear hb5 hgr5
                    refine hK.out _ _ (unhide HS _ (by repeat (first | assumption | exact Below.refl _ _ | refine Below.drew ?_ | refine Below.alloc ?_ (by first | omega | (simp; done) | (simp; omega)) _))) (fun _ => ?_)
                    clear hK K
                    try simp only [Act.put, List.setIfInBounds_toArray, List.set_cons_zero, List.set_cons_succ]
                    refine wpAnyG_ready [10] (by kernel_rfl) (by simp) ?_
                    refine AllReadyG.cons 10 (by rfl) (fun K hK => ?_) ?_
                    · simp only [List.getElem_toArray, List.getElem_cons_succ, List.getElem_cons_zero]
                      go_simp
                      refine hK.out _ _ (unhide HS _ (by repeat (first | assumption | exact Below.refl _ _ | refine Below.drew ?_ | refine Below.alloc ?_ (by first | omega | (simp; done) | (simp; omega)) _))) (fun _ => ?_)
                      clear hK K
                      try simp only [Act.put, List.setIfInBounds_toArray, List.set_cons_zero, List.set_cons_succ]
                      refine wpAnyG_ready [11] (by kernel_rfl) (by simp) ?_
                      refine AllReadyG.cons 11 (by rfl) (fun K hK => ?_) ?_
                      · simp only [List.getElem_toArray, List.getElem_cons_succ, List.getElem_cons_zero]
                        refine if_wanted (by rfl) (wp_app (w := w5.alloc (.cells #[.int .i64 y0, .int .i64 q.n] 3)) _ _ (by rfl) W3.heap.size _ _ q.tail [y0, q.n] (by rfl) (by rfl) (World.ownsRow.alloc hown5 _) (OwnI.ints (own_lit (w5) 0 (w5.heap.size) 2 [y0, q.n] (by simp) rfl (by omega) (by simp))) (ln + 2) (by rw [unhide Hln]; rfl) (by omega) (by first | omega | (simp; done) | (simp; omega)) ?_)
                        intro a6 c6 w6 hown6 hb6 hgr6
                        have hb6' : Below W3.heap.size W3 w6 := Below.trans (by repeat (first | assumption | exact Below.refl _ _ | refine Below.drew ?_ | refine Below.alloc ?_ (by first | omega | (simp; done) | (simp; omega)) _)) hb6
                        have hbox6 := (unhide HX1).below hb6'
                        obtain ⟨m0, m1, m2, m3, n0, n1, n2, n3⟩ := obj_cells hbox6.b1
                        clear hb6 hgr6
                        refine hK.out _ _ (unhide HS _ (by repeat (first | assumption | exact Below.refl _ _ | refine Below.drew ?_ | refine Below.alloc ?_ (by first | omega | (simp; done) | (simp; omega)) _))) (fun _ => ?_)
                        clear hK K
                        try simp only [Act.put, List.setIfInBounds_toArray, List.set_cons_zero, List.set_cons_succ]
                        refine wpAnyG_take (v := ?_) 12 (by rfl) (by kernel_rfl) (by kernel_rfl) (by kernel_rfl) (by kernel_rfl) (fun _ _ _ h => h) (Or.inl ⟨by rfl, ?_⟩) (by assumption) ?_
                        rotate_left
                        · (intro w' hSw; (try dsimp only at hSw); (try simp only [List.getElem_toArray, List.getElem_cons_succ, List.getElem_cons_zero]); go_simp; try (with_reducible rfl))
                        simp only [Act.put, List.getElem_toArray, List.getElem_cons_succ, List.getElem_cons_zero, List.setIfInBounds_toArray, List.set_cons_zero, List.set_cons_succ]
                        refine wpAnyG_ready [13] (by kernel_rfl) (by simp) ?_
                        refine AllReadyG.last 13 (by rfl) (by kernel_rfl) (fun K hK => ?_) ?_
                        · simp only [List.getElem_toArray, List.getElem_cons_succ, List.getElem_cons_zero]
                          go_simp
                          refine hK.out _ _ ?_
                          clear hK K
                          try simp only [Act.put, List.setIfInBounds_toArray, List.set_cons_zero, List.set_cons_succ]
                          refine wpAnyG_done (by kernel_rfl) ?_ _
                          refine NoPanic.normal ?_
                          go_wp2
                          go_meet
                          have hWW' := unhide hWW
                          exact ⟨_, _, own_store (own_base hown6 (by omega)) (by omega) _ _, hbox6.setF1 _, own_store (own_below (unhide hN3) hb6') (by omega) _ _, own_store (own_below (unhide hC3) hb6') (by omega) _ _⟩
                        exact AllReadyG.nil
                      exact AllReadyG.nil
                    exact AllReadyG.nil
                  refine AllReadyG.cons 10 (by rfl) (fun K hK => ?_) ?_
                  · simp only [List.getElem_toArray, List.getElem_cons_succ, List.getElem_cons_zero]
                    go_simp
                    refine hK.out _ _ (unhide HS _ (by repeat (first | assumption | exact Below.refl _ _ | refine Below.drew ?_ | refine Below.alloc ?_ (by first | omega | (simp; done) | (simp; omega)) _))) (fun _ => ?_)
                    clear hK K
                    try simp only [Act.put, List.setIfInBounds_toArray, List.set_cons_zero, List.set_cons_succ]
                    refine wpAnyG_ready [3] (by kernel_rfl) (by simp) ?_
                    refine AllReadyG.cons 3 (by rfl) (fun K hK => ?_) ?_
                    · simp only [List.getElem_toArray, List.getElem_cons_succ, List.getElem_cons_zero]
                      refine if_wanted (by rfl) (wp_app (w := (W3.alloc (.cells #[] 3)).alloc (.cells #[.int .i64 y0, .int .i64 q.n] 3)) _ _ (by rfl) W3.heap.size _ _ [] q.tail (by rfl) (by rfl) (World.ownsRow.alloc (own_lit (W3) _ (W3.heap.size) 0 [] (by simp) rfl (by first | omega | (simp; done) | (simp; omega)) (by simp)) _) (unhide HU _ (by repeat (first | assumption | exact Below.refl _ _ | refine Below.drew ?_ | refine Below.alloc ?_ (by first | omega | (simp; done) | (simp; omega)) _))) ln (by rw [unhide Hln]; exact Nat.zero_add _) (by omega) (by first | omega | (simp; done) | (simp; omega)) ?_)
                      intro a5 c5 w5 hown5 hb5 hgr5
                      have hb5' : Below W3.heap.size W3 w5 := Below.trans (by repeat (first | assumption | exact Below.refl _ _ | refine Below.drew ?_ | refine Below.alloc ?_ (by first | omega | (simp; done) | (simp; omega)) _)) hb5
                      have hs5 := hb5'.size
                      have hlit5 := lit_kept (own_lit (W3.alloc (.cells #[] 3)) 0 (W3.heap.size + 1) 2 [y0, q.n] (by simp) rfl (by omega) (by simp)) hgr5 (by first | omega | (simp; done) | (simp; omega))
                      clear hb5 hgr5
                      refine hK.out _ _ (unhide HS _ (by repeat (first | assumption | exact Below.refl _ _ | refine Below.drew ?_ | refine Below.alloc ?_ (by first | omega | (simp; done) | (simp; omega)) _))) (fun _ => ?_)
                      clear hK K
                      try simp only [Act.put, List.setIfInBounds_toArray, List.set_cons_zero, List.set_cons_succ]
                      refine wpAnyG_ready [11] (by kernel_rfl) (by simp) ?_
                      refine AllReadyG.cons 11 (by rfl) (fun K hK => ?_) ?_
                      · simp only [List.getElem_toArray, List.getElem_cons_succ, List.getElem_cons_zero]
                        refine if_wanted (by rfl) (wp_app (w := w5) _ _ (by rfl) W3.heap.size _ _ q.tail [y0, q.n] (by rfl) (by rfl) (hown5) (OwnI.ints (hlit5)) (ln + 2) (by rw [unhide Hln]; rfl) (by omega) (by first | omega | (simp; done) | (simp; omega)) ?_)
                        intro a6 c6 w6 hown6 hb6 hgr6
                        have hb6' : Below W3.heap.size W3 w6 := Below.trans (by repeat (first | assumption | exact Below.refl _ _ | refine Below.drew ?_ | refine Below.alloc ?_ (by first | omega | (simp; done) | (simp; omega)) _)) hb6
                        have hbox6 := (unhide HX1).below hb6'
                        obtain ⟨m0, m1, m2, m3, n0, n1, n2, n3⟩ := obj_cells hbox6.b1
                        clear hb6 hgr6
                        refine hK.out _ _ (unhide HS _ (by repeat (first | assumption | exact Below.refl _ _ | refine Below.drew ?_ | refine Below.alloc ?_ (by first | omega | (simp; done) | (simp; omega)) _))) (fun _ => ?_)
                        clear hK K
                        try simp only [Act.put, List.setIfInBounds_toArray, List.set_cons_zero, List.set_cons_succ]
                        refine wpAnyG_take (v := ?_) 12 (by rfl) (by kernel_rfl) (by kernel_rfl) (by kernel_rfl) (by kernel_rfl) (fun _ _ _ h => h) (Or.inl ⟨by rfl, ?_⟩) (by assumption) ?_
                        rotate_left
                        · (intro w' hSw; (try dsimp only at hSw); (try simp only [List.getElem_toArray, List.getElem_cons_succ, List.getElem_cons_zero]); go_simp; try (with_reducible rfl))
                        simp only [Act.put, List.getElem_toArray, List.getElem_cons_succ, List.getElem_cons_zero, List.setIfInBounds_toArray, List.set_cons_zero, List.set_cons_succ]
                        refine wpAnyG_ready [13] (by kernel_rfl) (by simp) ?_
                        refine AllReadyG.last 13 (by rfl) (by kernel_rfl) (fun K hK => ?_) ?_
                        · simp only [List.getElem_toArray, List.getElem_cons_succ, List.getElem_cons_zero]
                          go_simp
                          refine hK.out _ _ ?_
                          clear hK K
                          try simp only [Act.put, List.setIfInBounds_toArray, List.set_cons_zero, List.set_cons_succ]
                          refine wpAnyG_done (by kernel_rfl) ?_ _
                          refine NoPanic.normal ?_
                          go_wp2
                          go_meet
                          have hWW' := unhide hWW
                          exact ⟨_, _, own_store (own_base hown6 (by omega)) (by omega) _ _, hbox6.setF1 _, own_store (own_below (unhide hN3) hb6') (by omega) _ _, own_store (own_below (unhide hC3) hb6') (by omega) _ _⟩
                        exact AllReadyG.nil
                      exact AllReadyG.nil
                    exact AllReadyG.nil
                  exact AllReadyG.nil
                refine AllReadyG.cons 10 (by rfl) (fun K hK => ?_) ?_
                · simp only [List.getElem_toArray, List.getElem_cons_succ, List.getElem_cons_zero]
                  go_simp
                  refine hK.out _ _ (unhide HS _ (by repeat (first | assumption | exact Below.refl _ _ | refine Below.drew ?_ | refine Below.alloc ?_ (by first | omega | (simp; done) | (simp; omega)) _))) (fun _ => ?_)
                  clear hK K
                  try simp only [Act.put, List.setIfInBounds_toArray, List.set_cons_zero, List.set_cons_succ]
                  refine wpAnyG_ready [0] (by kernel_rfl) (by simp) ?_
                  refine AllReadyG.cons 0 (by rfl) (fun K hK => ?_) ?_
                  · simp only [List.getElem_toArray, List.getElem_cons_zero]
                    go_simp
                    refine hK.out _ _ (unhide HS _ (by repeat (first | assumption | exact Below.refl _ _ | refine Below.drew ?_ | refine Below.alloc ?_ (by first | omega | (simp; done) | (simp; omega)) _))) (fun _ => ?_)
                    clear hK K
                    try simp only [Act.put, List.setIfInBounds_toArray, List.set_cons_zero, List.set_cons_succ]
                    refine wpAnyG_ready [3] (by kernel_rfl) (by simp) ?_
                    refine AllReadyG.cons 3 (by rfl) (fun K hK => ?_) ?_
                    · simp only [List.getElem_toArray, List.getElem_cons_succ, List.getElem_cons_zero]
                      refine if_wanted (by rfl) (wp_app (w := (W3.alloc (.cells #[.int .i64 y0, .int .i64 q.n] 3)).alloc (.cells #[] 3)) _ _ (by rfl) W3.heap.size _ _ [] q.tail (by rfl) (by rfl) (own_lit (W3.alloc (.cells #[.int .i64 y0, .int .i64 q.n] 3)) _ (W3.heap.size + 1) 0 [] (by simp) rfl (by first | omega | (simp; done) | (simp; omega)) (by simp)) (unhide HU _ (by repeat (first | assumption | exact Below.refl _ _ | refine Below.drew ?_ | refine Below.alloc ?_ (by first | omega | (simp; done) | (simp; omega)) _))) ln (by rw [unhide Hln]; exact Nat.zero_add _) (by omega) (by first | omega | (simp; done) | (simp; omega)) ?_)
                      intro a5 c5 w5 hown5 hb5 hgr5
                      have hb5' : Below W3.heap.size W3 w5 := Below.trans (by repeat (first | assumption | exact Below.refl _ _ | refine Below.drew ?_ | refine Below.alloc ?_ (by first | omega | (simp; done) | (simp; omega)) _)) hb5
                      have hs5 := hb5'.size
                      have hlit5 := lit_kept (World.ownsRow.alloc (own_lit (W3) 0 (W3.heap.size) 2 [y0, q.n] (by simp) rfl (by omega) (by simp)) _) hgr5 (by first | omega | (simp; done) | (simp; omega))
                      clear hb5 hgr5
                      refine hK.out _ _ (unhide HS _ (by repeat (first | assumption | exact Below.refl _ _ | refine Below.drew ?_ | refine Below.alloc ?_ (by first | omega | (simp; done) | (simp; omega)) _))) (fun _ => ?_)
                      clear hK K
                      try simp only [Act.put, List.setIfInBounds_toArray, List.set_cons_zero, List.set_cons_succ]
                      refine wpAnyG_ready [11] (by kernel_rfl) (by simp) ?_
                      refine AllReadyG.cons 11 (by rfl) (fun K hK => ?_) ?_
                      · simp only [List.getElem_toArray, List.getElem_cons_succ, List.getElem_cons_zero]
                        refine if_wanted (by rfl) (wp_app (w := w5) _ _ (by rfl) W3.heap.size _ _ q.tail [y0, q.n] (by rfl) (by rfl) (hown5) (OwnI.ints (hlit5)) (ln + 2) (by rw [unhide Hln]; rfl) (by omega) (by first | omega | (simp; done) | (simp; omega)) ?_)
                        intro a6 c6 w6 hown6 hb6 hgr6
                        have hb6' : Below W3.heap.size W3 w6 := Below.trans (by repeat (first | assumption | exact Below.refl _ _ | refine Below.drew ?_ | refine Below.alloc ?_ (by first | omega | (simp; done) | (simp; omega)) _)) hb6
                        have hbox6 := (unhide HX1).below hb6'
                        obtain ⟨m0, m1, m2, m3, n0, n1, n2, n3⟩ := obj_cells hbox6.b1
                        clear hb6 hgr6
                        refine hK.out _ _ (unhide HS _ (by repeat (first | assumption | exact Below.refl _ _ | refine Below.drew ?_ | refine Below.alloc ?_ (by first | omega | (simp; done) | (simp; omega)) _))) (fun _ => ?_)
                        clear hK K
                        try simp only [Act.put, List.setIfInBounds_toArray, List.set_cons_zero, List.set_cons_succ]
                        refine wpAnyG_take (v := ?_) 12 (by rfl) (by kernel_rfl) (by kernel_rfl) (by kernel_rfl) (by kernel_rfl) (fun _ _ _ h => h) (Or.inl ⟨by rfl, ?_⟩) (by assumption) ?_
                        rotate_left
                        · (intro w' hSw; (try dsimp only at hSw); (try simp only [List.getElem_toArray, List.getElem_cons_succ, List.getElem_cons_zero]); go_simp; try (with_reducible rfl))
                        simp only [Act.put, List.getElem_toArray, List.getElem_cons_succ, List.getElem_cons_zero, List.setIfInBounds_toArray, List.set_cons_zero, List.set_cons_succ]
                        refine wpAnyG_ready [13] (by kernel_rfl) (by simp) ?_
                        refine AllReadyG.last 13 (by rfl) (by kernel_rfl) (fun K hK => ?_) ?_
                        · simp only [List.getElem_toArray, List.getElem_cons_succ, List.getElem_cons_zero]
                          go_simp
                          refine hK.out _ _ ?_
                          clear hK K
                          try simp only [Act.put, List.setIfInBounds_toArray, List.set_cons_zero, List.set_cons_succ]
                          refine wpAnyG_done (by kernel_rfl) ?_ _
                          refine NoPanic.normal ?_
                          go_wp2
                          go_meet
                          have hWW' := unhide hWW
                          exact ⟨_, _, own_store (own_base hown6 (by omega)) (by omega) _ _, hbox6.setF1 _, own_store (own_below (unhide hN3) hb6') (by omega) _ _, own_store (own_below (unhide hC3) hb6') (by omega) _ _⟩
                        exact AllReadyG.nil
                      exact AllReadyG.nil
                    exact AllReadyG.nil
                  exact AllReadyG.nil
                exact AllReadyG.nil
              case rest =>
                obtain ⟨wA, rfl⟩ : ∃ wA, wA = wc := ⟨_, rfl⟩
                obtain ⟨a8, c8, hown8, hbox8, hnx8, hcp8⟩ := hcut
                have hsW2 := (unhide HX0).size
                clear HX0 HT HN HCp
                have hs8 := hbox8.size
                obtain ⟨m0, m1, m2, m3, n0, n1, n2, n3⟩ := obj_cells hbox8.b1
                have HB8 := hide hbox8
                have hlt8 : ∀ k, (Value.slice a8 (ln + 2) c8).ownBlock = some k → k < wA.heap.size := fun k hk => (hown8.lt k hk).2
                have H8 := hide (And.intro hown8 (And.intro hcp8 hlt8))
                have k2 : ∀ ob, (wA.alloc ob).cell? ⟨w.heap.size + 1, 2, none⟩ = some (.slice (some ⟨ng, 0, none⟩) ln nc) := fun ob => (obj_cells ((unhide HB8).below ((Below.refl _ _).alloc (Nat.le_refl _) ob)).b1).2.2.1
                have HNx := hide hnx8
                clear hown8 hbox8 hnx8 hcp8 hlt8
                go_wp2_with (at_builtin; refine wpList_app (w := wA.alloc (.cells #[] 3)) rfl _ _ rfl wA.heap.size _ _ [] q.next rfl rfl (own_lit wA _ _ 0 [] rfl rfl (Nat.le_refl _) (by simp)) (OwnI.ints (World.ownsRow.alloc (unhide HNx) _)) ln (by rw [(unhide HOK).nx, unhide Hln]; exact Nat.zero_add _) (by omega) (by simp) ?_)
                intro a9 c9 w9 hown9 hb9 hgr9
                have hb9' : Below wA.heap.size wA w9 := ((Below.refl _ _).alloc (Nat.le_refl _) _).trans hb9
                have hs9 := hb9'.size
                clear hgr9 hb9
                go_wp2_with (at_builtin; refine wpList_app (w := w9.alloc (.cells #[.int .i64 (ln : Int), .int .i64 ((ln : Int) + 1)] 3)) rfl _ _ rfl wA.heap.size _ _ q.next [(ln : Int), (ln : Int) + 1] rfl rfl (World.ownsRow.alloc hown9 _) (OwnI.ints (own_lit w9 0 _ 2 [(ln : Int), (ln : Int) + 1] rfl rfl (by omega) (by simp))) (ln + 2) (by rw [(unhide HOK).nx, unhide Hln]; rfl) (by omega) (by first | omega | (simp; omega)) ?_)
                intro a10 c10 w10 hown10 hb10 hgr10
                have hb10' : Below wA.heap.size wA w10 := (hb9'.alloc (by omega) _).trans hb10
                have HB10 := hide ((unhide HB8).below hb10')
                have hlt10 : ∀ k, (Value.slice a10 (ln + 2) c10).ownBlock = some k → k < w10.heap.size := fun k hk => (hown10.lt k hk).2
                have H10 := hide (And.intro hown10 (And.intro (own_below (unhide H8).1 hb10') (And.intro (own_below (unhide H8).2.1 hb10') hlt10)))
                have hs10 := hb10'.size
                clear m0 m1 m2 m3 n0 n1 n2 n3 k2 hgr10 hb10 hb9' hown9 hown10 hb10' hlt10
                obtain ⟨m0, m1, m2, m3, n0, n1, n2, n3⟩ := obj_cells (unhide HB10).b1
                go_upto_region 27 with fail
                have HB11 := hide ((unhide HB10).setF2 (.slice a10 (ln + 2) c10))
                have H11 : Hid (OwnI (w10.setCell ⟨w.heap.size + 1, 2, none⟩ (.slice a10 (ln + 2) c10)) wA.heap.size (.slice a10 (ln + 2) c10) (q.next ++ [(ln : Int), (ln : Int) + 1]) ∧ OwnI (w10.setCell ⟨w.heap.size + 1, 2, none⟩ (.slice a10 (ln + 2) c10)) W2.heap.size (.slice a8 (ln + 2) c8) (q.tail ++ [y0, q.n]) ∧ OwnI (w10.setCell ⟨w.heap.size + 1, 2, none⟩ (.slice a10 (ln + 2) c10)) (w.heap.size + 2) (.slice ca ln cc) q.cap) := hide ⟨own_store (unhide H10).1 (by omega) _ _, own_store (unhide H10).2.1 (by omega) _ _, own_store (unhide H10).2.2.1 (by omega) _ _⟩
                have hs11 : (w10.setCell ⟨w.heap.size + 1, 2, none⟩ (.slice a10 (ln + 2) c10)).heap.size = w10.heap.size := World.size_setCell _ _ _
                clear m0 m1 m2 m3 n0 n1 n2 n3
                generalize w10.setCell ⟨w.heap.size + 1, 2, none⟩ (.slice a10 (ln + 2) c10) = w11 at *
                obtain ⟨hs11a, hs11b⟩ : w.heap.size + 2 ≤ w11.heap.size ∧ wA.heap.size ≤ w11.heap.size := by omega
                have Hs11 := hide hs11
                clear hs11
                have k3 : ∀ ob, (w11.alloc ob).cell? ⟨w.heap.size + 1, 3, none⟩ = some (.slice ca ln cc) := fun ob => (obj_cells ((unhide HB11).below ((Below.refl _ _).alloc (Nat.le_refl _) ob)).b1).2.2.2.1
                go_wp2_with (at_builtin; refine wpList_app (w := w11.alloc (.cells #[] 3)) rfl _ _ rfl w11.heap.size _ _ [] q.cap rfl rfl (own_lit w11 _ _ 0 [] rfl rfl (Nat.le_refl _) (by simp)) (OwnI.ints (World.ownsRow.alloc (unhide H11).2.2 _)) ln (by rw [(unhide HOK).cp, unhide Hln]; exact Nat.zero_add _) (by omega) (by simp) ?_)
                intro a12 c12 w12 hown12 hb12 hgr12
                have hb12' : Below w11.heap.size w11 w12 := ((Below.refl _ _).alloc (Nat.le_refl _) _).trans hb12
                have hs12 := hb12'.size
                clear hgr12 hb12
                go_wp2_with (at_builtin; refine wpList_app (w := w12.alloc (.cells #[.int .i64 c1, .int .i64 d1] 3)) rfl _ _ rfl w11.heap.size _ _ q.cap [c1, d1] rfl rfl (World.ownsRow.alloc hown12 _) (OwnI.ints (own_lit w12 0 _ 2 [c1, d1] rfl rfl (by omega) (by simp))) (ln + 2) (by rw [(unhide HOK).cp, unhide Hln]; rfl) (by omega) (by first | omega | (simp; omega)) ?_)
                intro a13 c13 w13 hown13 hb13 hgr13
                have hb13' : Below w11.heap.size w11 w13 := (hb12'.alloc (by omega) _).trans hb13
                have HB13 := hide ((unhide HB11).below hb13')
                have hs13 := hb13'.size
                have H13 := hide (And.intro hown13 (And.intro (own_below (unhide H11).1 hb13') (own_below (unhide H11).2.1 hb13')))
                clear k3 hgr13 hb13 hb12' hown12 hown13 hb13'
                obtain ⟨m0, m1, m2, m3, n0, n1, n2, n3⟩ := obj_cells (unhide HB13).b1
                go_upto_region 28 with fail
                have HB14 := hide ((unhide HB13).setF3 (.slice a13 (ln + 2) c13))
                have H14 : Hid (OwnI (w13.setCell ⟨w.heap.size + 1, 3, none⟩ (.slice a13 (ln + 2) c13)) w11.heap.size (.slice a13 (ln + 2) c13) (q.cap ++ [c1, d1]) ∧ OwnI (w13.setCell ⟨w.heap.size + 1, 3, none⟩ (.slice a13 (ln + 2) c13)) wA.heap.size (.slice a10 (ln + 2) c10) (q.next ++ [(ln : Int), (ln : Int) + 1]) ∧ OwnI (w13.setCell ⟨w.heap.size + 1, 3, none⟩ (.slice a13 (ln + 2) c13)) W2.heap.size (.slice a8 (ln + 2) c8) (q.tail ++ [y0, q.n])) := hide ⟨own_store (unhide H13).1 (by omega) _ _, own_store (unhide H13).2.1 (by omega) _ _, own_store (unhide H13).2.2 (by omega) _ _⟩
                have HN2 : Hid ((q.next ++ [(ln : Int), (ln : Int) + 1]).length = ln + 2) := hide (by rw [List.length_append, (unhide HOK).nx, unhide Hln]; rfl)
                clear m0 m1 m2 m3 n0 n1 n2 n3 HB13 H13 HB11 H11 HB10
                have hltA : ∀ k, (Value.slice a8 (ln + 2) c8).ownBlock = some k → k < wA.heap.size := (unhide H8).2.2
                have hltB : ∀ k, (Value.slice a10 (ln + 2) c10).ownBlock = some k → k < w11.heap.size := fun k hk => by rw [unhide Hs11]; exact (unhide H10).2.2.2 k hk
                have HltA := hide hltA
                have HltB := hide hltB
                clear H8 H10 hltA hltB HNx HB8
                generalize w13.setCell ⟨w.heap.size + 1, 3, none⟩ (.slice a13 (ln + 2) c13) = w14 at *
                obtain ⟨g10, c10', hv10, hg10, hg10', -, -⟩ := own_form (unhide H14).2.1 (by rw [unhide HN2]; omega)
                rw [unhide HN2] at hv10
                injection hv10 with hv1 hv2 hv3
                subst hv1
                clear hv2 hv3 c10'
                have HC := hide (lay_any (q.next ++ [(ln : Int), (ln : Int) + 1]) wA.heap.size g10 (ln + 2) c10 e ln w14 (unhide H14).2.1 (unhide HN2) (by omega) (by omega) (by omega) (by omega))
                obtain ⟨m0, m1, m2, m3, n0, n1, n2, n3⟩ := obj_cells (unhide HB14).b1
                have hW2A : w.heap.size + 2 ≤ wA.heap.size := by omega
                go_wp2_with fail
                go_at_call 26
                refine (unhide HC).mono ?_
                clear HC m0 m1 m2 m3 n0 n1 n2 n3
                rintro e' w15 ⟨⟨vl, rfl⟩, hown15, hbut15⟩
                have h8ne : (Value.slice a8 (ln + 2) c8).ownBlock ≠ some g10 := fun h => by have := unhide HltA _ h; omega
                have h13ne : (Value.slice a13 (ln + 2) c13).ownBlock ≠ some g10 := fun h => by
                  have h1 := ((unhide H14).1.lt _ h).1
                  have h2 := unhide HltB g10 rfl
                  omega
                have HB15 := hide ((unhide HB14).but hbut15 (by omega))
                have H15 := hide (And.intro (own_but (unhide H14).1 hbut15 h13ne) (And.intro hown15 (own_but (unhide H14).2.2 hbut15 h8ne)))
                clear hown15 hbut15 H14 HB14
                have Hne := hide (And.intro h8ne h13ne)
                clear h8ne h13ne
                go_wp2
                go_roundg g'
                case rel =>
                  refine ⟨i + 1, _, _, _, by omega, by go_num, hide (PlAt.of (unhide HQ') ⟨rfl, own_base (unhide H15).2.2 (by omega), own_base (unhide H15).2.1 hW2A, own_base (unhide H15).1 (by omega), ?_, ?_, ?_⟩ (unhide HB15) (Sp.planeN_ok ns (i + 1)))⟩
                  · exact sep_bases (unhide HltA) (unhide H15).2.1
                  · exact sep_bases (fun k hk => by have := unhide HltA k hk; omega) (unhide H15).1
                  · exact sep_bases (unhide HltB) (unhide H15).1
                case measure => omega
            · have h2n : ¬ (r5 < 2) := h2
              have h2' : 2 ≤ r5 := by omega
              have HQ' : Hid (Sp.planeN ns (i + 1) = ⟨q.n, q.tail ++ [y0, yg], Sp.layIn (Sp.layIn (q.next ++ [(ln : Int), (ln : Int) + 1]) e ln) (if gg = e then ln else gg) (ln + 1), q.cap ++ [c1, d1]⟩) := by
                have h := unhide HQ
                rw [if_neg (by rw [unhide Hq5]; exact h2n)] at h
                rw [h]
                unfold Sp.growF
                rw [unhide Hln, unhide Hy0, unhide Hyg]
                exact hide rfl
              clear HQ h2
              go_upto_region 25 with fail
              have HX0 := hide ((unhide HI3).at')
              have HT := hide ((unhide HI3).net.tail)
              have HN := hide ((unhide HI3).net.next)
              have HCp := hide ((unhide HI3).net.cap)
              clear x0 x1 x2 x3 z0 z1 z2 z3 c1' c2' HI3
              generalize wr = W2 at *
              go_upto_region 25 with fail
              go_cut [] (fun wx => ∃ a' c', OwnI wx W2.heap.size (.slice a' (ln + 2) c') (q.tail ++ [y0, yg]) ∧ MakeAt w wx q.n (.slice a' (ln + 2) c') (.slice (some ⟨ng, 0, none⟩) ln nc) (.slice ca ln cc) ∧ OwnI wx (w.heap.size + 2) (.slice (some ⟨ng, 0, none⟩) ln nc) q.next ∧ OwnI wx (w.heap.size + 2) (.slice ca ln cc) q.cap)
              case first =>
                have HX1 := hide ((unhide HX0).below (Below.refl _ _).drew)
                have HT1 := hide (own_drew (unhide HT))
                have HS : Hid (∀ w', Below W2.drew.heap.size W2.drew w' → w'.cell? ⟨w.heap.size + 1, 1, none⟩ = some (.slice (some ⟨tg, 0, none⟩) ln tc) ∧ w'.cell? ⟨tg, e, none⟩ = some (.int .i64 y0)) := by
                  refine hide fun w' hb => ?_
                  have h := (unhide HX1).below hb
                  refine ⟨(obj_cells h.b1).2.1, ?_⟩
                  have h2 := own_cell (own_below (unhide HT1) hb) e (by rw [unhide Hln]; exact hel)
                  rw [← Sp.getD_eq, unhide Hy0] at h2
                  exact h2
                have HU : Hid (∀ w', Below W2.drew.heap.size W2.drew w' → Ints w' (.slice (some ⟨tg, 0, none⟩) ln tc) q.tail) := hide fun w' hb => OwnI.ints (own_below (unhide HT1) hb)
                have hN3 := hide (own_drew (unhide HN))
                have hC3 := hide (own_drew (unhide HCp))
                have hWW : Hid (W2.drew.heap.size = W2.heap.size) := hide rfl
                have hsz := (unhide HX1).size
                refine wp_region_G (fun w' => w'.cell? ⟨w.heap.size + 1, 1, none⟩ = some (.slice (some ⟨tg, 0, none⟩) ln tc) ∧ w'.cell? ⟨tg, e, none⟩ = some (.int .i64 y0)) (fun i => i == 13) (by kernel_rfl) (unhide HS _ (Below.refl _ _)) (fun hHeld => ?_)
                generalize W2.drew = W3 at *
                refine wpAnyG_take (v := ?_) 1 (by rfl) (by kernel_rfl) (by kernel_rfl) (by kernel_rfl) (by kernel_rfl) (fun _ _ _ h => h) (Or.inl ⟨by rfl, ?_⟩) (by assumption) ?_
                rotate_left
                · (intro w' hSw; (try dsimp only at hSw); (try simp only [List.getElem_toArray, List.getElem_cons_succ, List.getElem_cons_zero]); go_simp; try (with_reducible rfl))
                simp only [Act.put, List.getElem_toArray, List.getElem_cons_succ, List.getElem_cons_zero, List.setIfInBounds_toArray, List.set_cons_zero, List.set_cons_succ]
                refine wpAnyG_take (v := ?_) 2 (by rfl) (by kernel_rfl) (by kernel_rfl) (by kernel_rfl) (by kernel_rfl) (fun _ _ _ h => h) (Or.inl ⟨by rfl, ?_⟩) (by assumption) ?_
                rotate_left
                · (intro w' hSw; (try dsimp only at hSw); (try simp only [List.getElem_toArray, List.getElem_cons_succ, List.getElem_cons_zero]); go_simp; try (with_reducible rfl))
                simp only [Act.put, List.getElem_toArray, List.getElem_cons_succ, List.getElem_cons_zero, List.setIfInBounds_toArray, List.set_cons_zero, List.set_cons_succ]
                refine wpAnyG_take (v := ?_) 4 (by rfl) (by kernel_rfl) (by kernel_rfl) (by kernel_rfl) (by kernel_rfl) (fun _ _ _ h => h) (Or.inl ⟨by rfl, ?_⟩) (by assumption) ?_
                rotate_left
                · (intro w' hSw; (try dsimp only at hSw); (try simp only [List.getElem_toArray, List.getElem_cons_succ, List.getElem_cons_zero]); go_simp; try (with_reducible rfl))
                simp only [Act.put, List.getElem_toArray, List.getElem_cons_succ, List.getElem_cons_zero, List.setIfInBounds_toArray, List.set_cons_zero, List.set_cons_succ]
                refine wpAnyG_take (v := ?_) 5 (by rfl) (by kernel_rfl) (by kernel_rfl) (by kernel_rfl) (by kernel_rfl) (fun _ _ _ h => h) (Or.inl ⟨by rfl, ?_⟩) (by assumption) ?_
                rotate_left
                · (intro w' hSw; (try dsimp only at hSw); (try simp only [List.getElem_toArray, List.getElem_cons_succ, List.getElem_cons_zero]); go_simp; try (with_reducible rfl))
                simp only [Act.put, List.getElem_toArray, List.getElem_cons_succ, List.getElem_cons_zero, List.setIfInBounds_toArray, List.set_cons_zero, List.set_cons_succ]
                refine wpAnyG_take (v := ?_) 6 (by rfl) (by kernel_rfl) (by kernel_rfl) (by kernel_rfl) (by kernel_rfl) (fun _ _ _ h => h) (Or.inl ⟨by rfl, ?_⟩) (by assumption) ?_
                rotate_left
                · (intro w' hSw; (try dsimp only at hSw); (try simp only [List.getElem_toArray, List.getElem_cons_succ, List.getElem_cons_zero]); go_simp; try (with_reducible rfl))
                simp only [Act.put, List.getElem_toArray, List.getElem_cons_succ, List.getElem_cons_zero, List.setIfInBounds_toArray, List.set_cons_zero, List.set_cons_succ]
                refine wpAnyG_take (v := ?_) 7 (by rfl) (by kernel_rfl) (by kernel_rfl) (by kernel_rfl) (by kernel_rfl) (fun _ _ _ h => h) (Or.inl ⟨by rfl, ?_⟩) (by assumption) ?_
                rotate_left
                · (intro w' hSw; (try dsimp only at hSw); (try simp only [List.getElem_toArray, List.getElem_cons_succ, List.getElem_cons_zero]); go_simp; try (with_reducible rfl))
                simp only [Act.put, List.getElem_toArray, List.getElem_cons_succ, List.getElem_cons_zero, List.setIfInBounds_toArray, List.set_cons_zero, List.set_cons_succ]
                refine wpAnyG_take (v := ?_) 8 (by rfl) (by kernel_rfl) (by kernel_rfl) (by kernel_rfl) (by kernel_rfl) (fun _ _ _ h => h) (Or.inl ⟨by rfl, ?_⟩) (by assumption) ?_
                rotate_left
                · (intro w' hSw; (try dsimp only at hSw); (try simp only [List.getElem_toArray, List.getElem_cons_succ, List.getElem_cons_zero]); go_simp; try (with_reducible rfl))
                simp only [Act.put, List.getElem_toArray, List.getElem_cons_succ, List.getElem_cons_zero, List.setIfInBounds_toArray, List.set_cons_zero, List.set_cons_succ]
                refine wpAnyG_take (v := ?_) 9 (by rfl) (by kernel_rfl) (by kernel_rfl) (by kernel_rfl) (by kernel_rfl) (fun _ _ _ h => h) (Or.inl ⟨by rfl, ?_⟩) (by assumption) ?_
                rotate_left
                · (intro w' hSw; (try dsimp only at hSw); (try simp only [List.getElem_toArray, List.getElem_cons_succ, List.getElem_cons_zero]); go_simp; try (with_reducible rfl))
                simp only [Act.put, List.getElem_toArray, List.getElem_cons_succ, List.getElem_cons_zero, List.setIfInBounds_toArray, List.set_cons_zero, List.set_cons_succ]
                refine wpAnyG_ready [0, 10] (by kernel_rfl) (by simp) ?_
                refine AllReadyG.cons 0 (by rfl) (fun K hK => ?_) ?_
                · simp only [List.getElem_toArray, List.getElem_cons_zero]
                  go_simp
                  refine hK.out _ _ (unhide HS _ (by repeat (first | assumption | exact Below.refl _ _ | refine Below.drew ?_ | refine Below.alloc ?_ (by first | omega | (simp; done) | (simp; omega)) _))) (fun _ => ?_)
                  clear hK K
                  try simp only [Act.put, List.setIfInBounds_toArray, List.set_cons_zero, List.set_cons_succ]
                  refine wpAnyG_ready [3, 10] (by kernel_rfl) (by simp) ?_
                  refine AllReadyG.cons 3 (by rfl) (fun K hK => ?_) ?_
                  · simp only [List.getElem_toArray, List.getElem_cons_succ, List.getElem_cons_zero]
                    refine if_wanted (by rfl) (wp_app (w := W3.alloc (.cells #[] 3)) _ _ (by rfl) W3.heap.size _ _ [] q.tail (by rfl) (by rfl) (own_lit (W3) _ (W3.heap.size) 0 [] (by simp) rfl (by first | omega | (simp; done) | (simp; omega)) (by simp)) (unhide HU _ (by repeat (first | assumption | exact Below.refl _ _ | refine Below.drew ?_ | refine Below.alloc ?_ (by first | omega | (simp; done) | (simp; omega)) _))) ln (by rw [unhide Hln]; exact Nat.zero_add _) (by omega) (by first | omega | (simp; done) | (simp; omega)) ?_)
                    intro a5 c5 w5 hown5 hb5 hgr5
                    have hb5' : Below W3.heap.size W3 w5 := Below.trans (by repeat (first | assumption | exact Below.refl _ _ | refine Below.drew ?_ | refine Below.alloc ?_ (by first | omega | (simp; done) | (simp; omega)) _)) hb5
                    have hs5 := hb5'.size
                    skip
                    clear hb5 hgr5
                    refine hK.out _ _ (unhide HS _ (by repeat (first | assumption | exact Below.refl _ _ | refine Below.drew ?_ | refine Below.alloc ?_ (by first | omega | (simp; done) | (simp; omega)) _))) (fun _ => ?_)
                    clear hK K
                    try simp only [Act.put, List.setIfInBounds_toArray, List.set_cons_zero, List.set_cons_succ]
                    refine wpAnyG_ready [10] (by kernel_rfl) (by simp) ?_
                    refine AllReadyG.cons 10 (by rfl) (fun K hK => ?_) ?_
                    · simp only [List.getElem_toArray, List.getElem_cons_succ, List.getElem_cons_zero]
                      go_simp
                      refine hK.out _ _ (unhide HS _ (by repeat (first | assumption | exact Below.refl _ _ | refine Below.drew ?_ | refine Below.alloc ?_ (by first | omega | (simp; done) | (simp; omega)) _))) (fun _ => ?_)
                      clear hK K
                      try simp only [Act.put, List.setIfInBounds_toArray, List.set_cons_zero, List.set_cons_succ]
                      refine wpAnyG_ready [11] (by kernel_rfl) (by simp) ?_
                      refine AllReadyG.cons 11 (by rfl) (fun K hK => ?_) ?_
                      · simp only [List.getElem_toArray, List.getElem_cons_succ, List.getElem_cons_zero]
                        refine if_wanted (by rfl) (wp_app (w := w5.alloc (.cells #[.int .i64 y0, .int .i64 yg] 3)) _ _ (by rfl) W3.heap.size _ _ q.tail [y0, yg] (by rfl) (by rfl) (World.ownsRow.alloc hown5 _) (OwnI.ints (own_lit (w5) 0 (w5.heap.size) 2 [y0, yg] (by simp) rfl (by omega) (by simp))) (ln + 2) (by rw [unhide Hln]; rfl) (by omega) (by first | omega | (simp; done) | (simp; omega)) ?_)
                        intro a6 c6 w6 hown6 hb6 hgr6
                        have hb6' : Below W3.heap.size W3 w6 := Below.trans (by repeat (first | assumption | exact Below.refl _ _ | refine Below.drew ?_ | refine Below.alloc ?_ (by first | omega | (simp; done) | (simp; omega)) _)) hb6
                        have hbox6 := (unhide HX1).below hb6'
                        obtain ⟨m0, m1, m2, m3, n0, n1, n2, n3⟩ := obj_cells hbox6.b1
                        clear hb6 hgr6
                        refine hK.out _ _ (unhide HS _ (by repeat (first | assumption | exact Below.refl _ _ | refine Below.drew ?_ | refine Below.alloc ?_ (by first | omega | (simp; done) | (simp; omega)) _))) (fun _ => ?_)
                        clear hK K
                        try simp only [Act.put, List.setIfInBounds_toArray, List.set_cons_zero, List.set_cons_succ]
                        refine wpAnyG_take (v := ?_) 12 (by rfl) (by kernel_rfl) (by kernel_rfl) (by kernel_rfl) (by kernel_rfl) (fun _ _ _ h => h) (Or.inl ⟨by rfl, ?_⟩) (by assumption) ?_
                        rotate_left
                        · (intro w' hSw; (try dsimp only at hSw); (try simp only [List.getElem_toArray, List.getElem_cons_succ, List.getElem_cons_zero]); go_simp; try (with_reducible rfl))
                        simp only [Act.put, List.getElem_toArray, List.getElem_cons_succ, List.getElem_cons_zero, List.setIfInBounds_toArray, List.set_cons_zero, List.set_cons_succ]
                        refine wpAnyG_ready [13] (by kernel_rfl) (by simp) ?_
                        refine AllReadyG.last 13 (by rfl) (by kernel_rfl) (fun K hK => ?_) ?_
                        · simp only [List.getElem_toArray, List.getElem_cons_succ, List.getElem_cons_zero]
                          go_simp
                          refine hK.out _ _ ?_
                          clear hK K
                          try simp only [Act.put, List.setIfInBounds_toArray, List.set_cons_zero, List.set_cons_succ]
                          refine wpAnyG_done (by kernel_rfl) ?_ _
                          refine NoPanic.normal ?_
                          go_wp2
                          go_meet
                          have hWW' := unhide hWW
                          exact ⟨_, _, own_store (own_base hown6 (by omega)) (by omega) _ _, hbox6.setF1 _, own_store (own_below (unhide hN3) hb6') (by omega) _ _, own_store (own_below (unhide hC3) hb6') (by omega) _ _⟩
                        exact AllReadyG.nil
                      exact AllReadyG.nil
                    exact AllReadyG.nil
                  refine AllReadyG.cons 10 (by rfl) (fun K hK => ?_) ?_
                  · simp only [List.getElem_toArray, List.getElem_cons_succ, List.getElem_cons_zero]
                    go_simp
                    refine hK.out _ _ (unhide HS _ (by repeat (first | assumption | exact Below.refl _ _ | refine Below.drew ?_ | refine Below.alloc ?_ (by first | omega | (simp; done) | (simp; omega)) _))) (fun _ => ?_)
                    clear hK K
                    try simp only [Act.put, List.setIfInBounds_toArray, List.set_cons_zero, List.set_cons_succ]
                    refine wpAnyG_ready [3] (by kernel_rfl) (by simp) ?_
                    refine AllReadyG.cons 3 (by rfl) (fun K hK => ?_) ?_
                    · simp only [List.getElem_toArray, List.getElem_cons_succ, List.getElem_cons_zero]
                      refine if_wanted (by rfl) (wp_app (w := (W3.alloc (.cells #[] 3)).alloc (.cells #[.int .i64 y0, .int .i64 yg] 3)) _ _ (by rfl) W3.heap.size _ _ [] q.tail (by rfl) (by rfl) (World.ownsRow.alloc (own_lit (W3) _ (W3.heap.size) 0 [] (by simp) rfl (by first | omega | (simp; done) | (simp; omega)) (by simp)) _) (unhide HU _ (by repeat (first | assumption | exact Below.refl _ _ | refine Below.drew ?_ | refine Below.alloc ?_ (by first | omega | (simp; done) | (simp; omega)) _))) ln (by rw [unhide Hln]; exact Nat.zero_add _) (by omega) (by first | omega | (simp; done) | (simp; omega)) ?_)
                      intro a5 c5 w5 hown5 hb5 hgr5
                      have hb5' : Below W3.heap.size W3 w5 := Below.trans (by repeat (first | assumption | exact Below.refl _ _ | refine Below.drew ?_ | refine Below.alloc ?_ (by first | omega | (simp; done) | (simp; omega)) _)) hb5
                      have hs5 := hb5'.size
                      have hlit5 := lit_kept (own_lit (W3.alloc (.cells #[] 3)) 0 (W3.heap.size + 1) 2 [y0, yg] (by simp) rfl (by omega) (by simp)) hgr5 (by first | omega | (simp; done) | (simp; omega))
                      clear hb5 hgr5
                      refine hK.out _ _ (unhide HS _ (by repeat (first | assumption | exact Below.refl _ _ | refine Below.drew ?_ | refine Below.alloc ?_ (by first | omega | (simp; done) | (simp; omega)) _))) (fun _ => ?_)
                      clear hK K
                      try simp only [Act.put, List.setIfInBounds_toArray, List.set_cons_zero, List.set_cons_succ]
                      refine wpAnyG_ready [11] (by kernel_rfl) (by simp) ?_
                      refine AllReadyG.cons 11 (by rfl) (fun K hK => ?_) ?_
                      · simp only [List.getElem_toArray, List.getElem_cons_succ, List.getElem_cons_zero]
                        refine if_wanted (by rfl) (wp_app (w := w5) _ _ (by rfl) W3.heap.size _ _ q.tail [y0, yg] (by rfl) (by rfl) (hown5) (OwnI.ints (hlit5)) (ln + 2) (by rw [unhide Hln]; rfl) (by omega) (by first | omega | (simp; done) | (simp; omega)) ?_)
                        intro a6 c6 w6 hown6 hb6 hgr6
                        have hb6' : Below W3.heap.size W3 w6 := Below.trans (by repeat (first | assumption | exact Below.refl _ _ | refine Below.drew ?_ | refine Below.alloc ?_ (by first | omega | (simp; done) | (simp; omega)) _)) hb6
                        have hbox6 := (unhide HX1).below hb6'
                        obtain ⟨m0, m1, m2, m3, n0, n1, n2, n3⟩ := obj_cells hbox6.b1
                        clear hb6 hgr6
                        refine hK.out _ _ (unhide HS _ (by repeat (first | assumption | exact Below.refl _ _ | refine Below.drew ?_ | refine Below.alloc ?_ (by first | omega | (simp; done) | (simp; omega)) _))) (fun _ => ?_)
                        clear hK K
                        try simp only [Act.put, List.setIfInBounds_toArray, List.set_cons_zero, List.set_cons_succ]
                        refine wpAnyG_take (v := ?_) 12 (by rfl) (by kernel_rfl) (by kernel_rfl) (by kernel_rfl) (by kernel_rfl) (fun _ _ _ h => h) (Or.inl ⟨by rfl, ?_⟩) (by assumption) ?_
                        rotate_left
                        · (intro w' hSw; (try dsimp only at hSw); (try simp only [List.getElem_toArray, List.getElem_cons_succ, List.getElem_cons_zero]); go_simp; try (with_reducible rfl))
                        simp only [Act.put, List.getElem_toArray, List.getElem_cons_succ, List.getElem_cons_zero, List.setIfInBounds_toArray, List.set_cons_zero, List.set_cons_succ]
                        refine wpAnyG_ready [13] (by kernel_rfl) (by simp) ?_
                        refine AllReadyG.last 13 (by rfl) (by kernel_rfl) (fun K hK => ?_) ?_
                        · simp only [List.getElem_toArray, List.getElem_cons_succ, List.getElem_cons_zero]
                          go_simp
                          refine hK.out _ _ ?_
                          clear hK K
                          try simp only [Act.put, List.setIfInBounds_toArray, List.set_cons_zero, List.set_cons_succ]
                          refine wpAnyG_done (by kernel_rfl) ?_ _
                          refine NoPanic.normal ?_
                          go_wp2
                          go_meet
                          have hWW' := unhide hWW
                          exact ⟨_, _, own_store (own_base hown6 (by omega)) (by omega) _ _, hbox6.setF1 _, own_store (own_below (unhide hN3) hb6') (by omega) _ _, own_store (own_below (unhide hC3) hb6') (by omega) _ _⟩
                        exact AllReadyG.nil
                      exact AllReadyG.nil
                    exact AllReadyG.nil
                  exact AllReadyG.nil
                refine AllReadyG.cons 10 (by rfl) (fun K hK => ?_) ?_
                · simp only [List.getElem_toArray, List.getElem_cons_succ, List.getElem_cons_zero]
                  go_simp
                  refine hK.out _ _ (unhide HS _ (by repeat (first | assumption | exact Below.refl _ _ | refine Below.drew ?_ | refine Below.alloc ?_ (by first | omega | (simp; done) | (simp; omega)) _))) (fun _ => ?_)
                  clear hK K
                  try simp only [Act.put, List.setIfInBounds_toArray, List.set_cons_zero, List.set_cons_succ]
                  refine wpAnyG_ready [0] (by kernel_rfl) (by simp) ?_
                  refine AllReadyG.cons 0 (by rfl) (fun K hK => ?_) ?_
                  · simp only [List.getElem_toArray, List.getElem_cons_zero]
                    go_simp
                    refine hK.out _ _ (unhide HS _ (by repeat (first | assumption | exact Below.refl _ _ | refine Below.drew ?_ | refine Below.alloc ?_ (by first | omega | (simp; done) | (simp; omega)) _))) (fun _ => ?_)
                    clear hK K
                    try simp only [Act.put, List.setIfInBounds_toArray, List.set_cons_zero, List.set_cons_succ]
                    refine wpAnyG_ready [3] (by kernel_rfl) (by simp) ?_
                    refine AllReadyG.cons 3 (by rfl) (fun K hK => ?_) ?_
                    · simp only [List.getElem_toArray, List.getElem_cons_succ, List.getElem_cons_zero]
                      refine if_wanted (by rfl) (wp_app (w := (W3.alloc (.cells #[.int .i64 y0, .int .i64 yg] 3)).alloc (.cells #[] 3)) _ _ (by rfl) W3.heap.size _ _ [] q.tail (by rfl) (by rfl) (own_lit (W3.alloc (.cells #[.int .i64 y0, .int .i64 yg] 3)) _ (W3.heap.size + 1) 0 [] (by simp) rfl (by first | omega | (simp; done) | (simp; omega)) (by simp)) (unhide HU _ (by repeat (first | assumption | exact Below.refl _ _ | refine Below.drew ?_ | refine Below.alloc ?_ (by first | omega | (simp; done) | (simp; omega)) _))) ln (by rw [unhide Hln]; exact Nat.zero_add _) (by omega) (by first | omega | (simp; done) | (simp; omega)) ?_)
                      intro a5 c5 w5 hown5 hb5 hgr5
                      have hb5' : Below W3.heap.size W3 w5 := Below.trans (by repeat (first | assumption | exact Below.refl _ _ | refine Below.drew ?_ | refine Below.alloc ?_ (by first | omega | (simp; done) | (simp; omega)) _)) hb5
                      have hs5 := hb5'.size
                      have hlit5 := lit_kept (World.ownsRow.alloc (own_lit (W3) 0 (W3.heap.size) 2 [y0, yg] (by simp) rfl (by omega) (by simp)) _) hgr5 (by first | omega | (simp; done) | (simp; omega))
                      clear hb5 hgr5
                      refine hK.out _ _ (unhide HS _ (by repeat (first | assumption | exact Below.refl _ _ | refine Below.drew ?_ | refine Below.alloc ?_ (by first | omega | (simp; done) | (simp; omega)) _))) (fun _ => ?_)
                      clear hK K
                      try simp only [Act.put, List.setIfInBounds_toArray, List.set_cons_zero, List.set_cons_succ]
                      refine wpAnyG_ready [11] (by kernel_rfl) (by simp) ?_
                      refine AllReadyG.cons 11 (by rfl) (fun K hK => ?_) ?_
                      · simp only [List.getElem_toArray, List.getElem_cons_succ, List.getElem_cons_zero]
                        refine if_wanted (by rfl) (wp_app (w := w5) _ _ (by rfl) W3.heap.size _ _ q.tail [y0, yg] (by rfl) (by rfl) (hown5) (OwnI.ints (hlit5)) (ln + 2) (by rw [unhide Hln]; rfl) (by omega) (by first | omega | (simp; done) | (simp; omega)) ?_)
                        intro a6 c6 w6 hown6 hb6 hgr6
                        have hb6' : Below W3.heap.size W3 w6 := Below.trans (by repeat (first | assumption | exact Below.refl _ _ | refine Below.drew ?_ | refine Below.alloc ?_ (by first | omega | (simp; done) | (simp; omega)) _)) hb6
                        have hbox6 := (unhide HX1).below hb6'
                        obtain ⟨m0, m1, m2, m3, n0, n1, n2, n3⟩ := obj_cells hbox6.b1
                        clear hb6 hgr6
                        refine hK.out _ _ (unhide HS _ (by repeat (first | assumption | exact Below.refl _ _ | refine Below.drew ?_ | refine Below.alloc ?_ (by first | omega | (simp; done) | (simp; omega)) _))) (fun _ => ?_)
                        clear hK K
                        try simp only [Act.put, List.setIfInBounds_toArray, List.set_cons_zero, List.set_cons_succ]
                        refine wpAnyG_take (v := ?_) 12 (by rfl) (by kernel_rfl) (by kernel_rfl) (by kernel_rfl) (by kernel_rfl) (fun _ _ _ h => h) (Or.inl ⟨by rfl, ?_⟩) (by assumption) ?_
                        rotate_left
                        · (intro w' hSw; (try dsimp only at hSw); (try simp only [List.getElem_toArray, List.getElem_cons_succ, List.getElem_cons_zero]); go_simp; try (with_reducible rfl))
                        simp only [Act.put, List.getElem_toArray, List.getElem_cons_succ, List.getElem_cons_zero, List.setIfInBounds_toArray, List.set_cons_zero, List.set_cons_succ]
                        refine wpAnyG_ready [13] (by kernel_rfl) (by simp) ?_
                        refine AllReadyG.last 13 (by rfl) (by kernel_rfl) (fun K hK => ?_) ?_
                        · simp only [List.getElem_toArray, List.getElem_cons_succ, List.getElem_cons_zero]
                          go_simp
                          refine hK.out _ _ ?_
                          clear hK K
                          try simp only [Act.put, List.setIfInBounds_toArray, List.set_cons_zero, List.set_cons_succ]
                          refine wpAnyG_done (by kernel_rfl) ?_ _
                          refine NoPanic.normal ?_
                          go_wp2
                          go_meet
                          have hWW' := unhide hWW
                          exact ⟨_, _, own_store (own_base hown6 (by omega)) (by omega) _ _, hbox6.setF1 _, own_store (own_below (unhide hN3) hb6') (by omega) _ _, own_store (own_below (unhide hC3) hb6') (by omega) _ _⟩
                        exact AllReadyG.nil
                      exact AllReadyG.nil
                    exact AllReadyG.nil
                  exact AllReadyG.nil
                exact AllReadyG.nil
              case rest =>
                obtain ⟨wA, rfl⟩ : ∃ wA, wA = wc := ⟨_, rfl⟩
                obtain ⟨a8, c8, hown8, hbox8, hnx8, hcp8⟩ := hcut
                have hsW2 := (unhide HX0).size
                clear HX0 HT HN HCp
                have hs8 := hbox8.size
                obtain ⟨m0, m1, m2, m3, n0, n1, n2, n3⟩ := obj_cells hbox8.b1
                have HB8 := hide hbox8
                have hlt8 : ∀ k, (Value.slice a8 (ln + 2) c8).ownBlock = some k → k < wA.heap.size := fun k hk => (hown8.lt k hk).2
                have H8 := hide (And.intro hown8 (And.intro hcp8 hlt8))
                have k2 : ∀ ob, (wA.alloc ob).cell? ⟨w.heap.size + 1, 2, none⟩ = some (.slice (some ⟨ng, 0, none⟩) ln nc) := fun ob => (obj_cells ((unhide HB8).below ((Below.refl _ _).alloc (Nat.le_refl _) ob)).b1).2.2.1
                have HNx := hide hnx8
                clear hown8 hbox8 hnx8 hcp8 hlt8
                go_wp2_with (at_builtin; refine wpList_app (w := wA.alloc (.cells #[] 3)) rfl _ _ rfl wA.heap.size _ _ [] q.next rfl rfl (own_lit wA _ _ 0 [] rfl rfl (Nat.le_refl _) (by simp)) (OwnI.ints (World.ownsRow.alloc (unhide HNx) _)) ln (by rw [(unhide HOK).nx, unhide Hln]; exact Nat.zero_add _) (by omega) (by simp) ?_)
                intro a9 c9 w9 hown9 hb9 hgr9
                have hb9' : Below wA.heap.size wA w9 := ((Below.refl _ _).alloc (Nat.le_refl _) _).trans hb9
                have hs9 := hb9'.size
                clear hgr9 hb9
                go_wp2_with (at_builtin; refine wpList_app (w := w9.alloc (.cells #[.int .i64 (ln : Int), .int .i64 ((ln : Int) + 1)] 3)) rfl _ _ rfl wA.heap.size _ _ q.next [(ln : Int), (ln : Int) + 1] rfl rfl (World.ownsRow.alloc hown9 _) (OwnI.ints (own_lit w9 0 _ 2 [(ln : Int), (ln : Int) + 1] rfl rfl (by omega) (by simp))) (ln + 2) (by rw [(unhide HOK).nx, unhide Hln]; rfl) (by omega) (by first | omega | (simp; omega)) ?_)
                intro a10 c10 w10 hown10 hb10 hgr10
                have hb10' : Below wA.heap.size wA w10 := (hb9'.alloc (by omega) _).trans hb10
                have HB10 := hide ((unhide HB8).below hb10')
                have hlt10 : ∀ k, (Value.slice a10 (ln + 2) c10).ownBlock = some k → k < w10.heap.size := fun k hk => (hown10.lt k hk).2
                have H10 := hide (And.intro hown10 (And.intro (own_below (unhide H8).1 hb10') (And.intro (own_below (unhide H8).2.1 hb10') hlt10)))
                have hs10 := hb10'.size
                clear m0 m1 m2 m3 n0 n1 n2 n3 k2 hgr10 hb10 hb9' hown9 hown10 hb10' hlt10
                obtain ⟨m0, m1, m2, m3, n0, n1, n2, n3⟩ := obj_cells (unhide HB10).b1
                go_upto_region 27 with fail
                have HB11 := hide ((unhide HB10).setF2 (.slice a10 (ln + 2) c10))
                have H11 : Hid (OwnI (w10.setCell ⟨w.heap.size + 1, 2, none⟩ (.slice a10 (ln + 2) c10)) wA.heap.size (.slice a10 (ln + 2) c10) (q.next ++ [(ln : Int), (ln : Int) + 1]) ∧ OwnI (w10.setCell ⟨w.heap.size + 1, 2, none⟩ (.slice a10 (ln + 2) c10)) W2.heap.size (.slice a8 (ln + 2) c8) (q.tail ++ [y0, yg]) ∧ OwnI (w10.setCell ⟨w.heap.size + 1, 2, none⟩ (.slice a10 (ln + 2) c10)) (w.heap.size + 2) (.slice ca ln cc) q.cap) := hide ⟨own_store (unhide H10).1 (by omega) _ _, own_store (unhide H10).2.1 (by omega) _ _, own_store (unhide H10).2.2.1 (by omega) _ _⟩
                have hs11 : (w10.setCell ⟨w.heap.size + 1, 2, none⟩ (.slice a10 (ln + 2) c10)).heap.size = w10.heap.size := World.size_setCell _ _ _
                clear m0 m1 m2 m3 n0 n1 n2 n3
                generalize w10.setCell ⟨w.heap.size + 1, 2, none⟩ (.slice a10 (ln + 2) c10) = w11 at *
                obtain ⟨hs11a, hs11b⟩ : w.heap.size + 2 ≤ w11.heap.size ∧ wA.heap.size ≤ w11.heap.size := by omega
                have Hs11 := hide hs11
                clear hs11
                have k3 : ∀ ob, (w11.alloc ob).cell? ⟨w.heap.size + 1, 3, none⟩ = some (.slice ca ln cc) := fun ob => (obj_cells ((unhide HB11).below ((Below.refl _ _).alloc (Nat.le_refl _) ob)).b1).2.2.2.1
                go_wp2_with (at_builtin; refine wpList_app (w := w11.alloc (.cells #[] 3)) rfl _ _ rfl w11.heap.size _ _ [] q.cap rfl rfl (own_lit w11 _ _ 0 [] rfl rfl (Nat.le_refl _) (by simp)) (OwnI.ints (World.ownsRow.alloc (unhide H11).2.2 _)) ln (by rw [(unhide HOK).cp, unhide Hln]; exact Nat.zero_add _) (by omega) (by simp) ?_)
                intro a12 c12 w12 hown12 hb12 hgr12
                have hb12' : Below w11.heap.size w11 w12 := ((Below.refl _ _).alloc (Nat.le_refl _) _).trans hb12
                have hs12 := hb12'.size
                clear hgr12 hb12
                go_wp2_with (at_builtin; refine wpList_app (w := w12.alloc (.cells #[.int .i64 c1, .int .i64 d1] 3)) rfl _ _ rfl w11.heap.size _ _ q.cap [c1, d1] rfl rfl (World.ownsRow.alloc hown12 _) (OwnI.ints (own_lit w12 0 _ 2 [c1, d1] rfl rfl (by omega) (by simp))) (ln + 2) (by rw [(unhide HOK).cp, unhide Hln]; rfl) (by omega) (by first | omega | (simp; omega)) ?_)
                intro a13 c13 w13 hown13 hb13 hgr13
                have hb13' : Below w11.heap.size w11 w13 := (hb12'.alloc (by omega) _).trans hb13
                have HB13 := hide ((unhide HB11).below hb13')
                have hs13 := hb13'.size
                have H13 := hide (And.intro hown13 (And.intro (own_below (unhide H11).1 hb13') (own_below (unhide H11).2.1 hb13')))
                clear k3 hgr13 hb13 hb12' hown12 hown13 hb13'
                obtain ⟨m0, m1, m2, m3, n0, n1, n2, n3⟩ := obj_cells (unhide HB13).b1
                go_upto_region 28 with fail
                have HB14 := hide ((unhide HB13).setF3 (.slice a13 (ln + 2) c13))
                have H14 : Hid (OwnI (w13.setCell ⟨w.heap.size + 1, 3, none⟩ (.slice a13 (ln + 2) c13)) w11.heap.size (.slice a13 (ln + 2) c13) (q.cap ++ [c1, d1]) ∧ OwnI (w13.setCell ⟨w.heap.size + 1, 3, none⟩ (.slice a13 (ln + 2) c13)) wA.heap.size (.slice a10 (ln + 2) c10) (q.next ++ [(ln : Int), (ln : Int) + 1]) ∧ OwnI (w13.setCell ⟨w.heap.size + 1, 3, none⟩ (.slice a13 (ln + 2) c13)) W2.heap.size (.slice a8 (ln + 2) c8) (q.tail ++ [y0, yg])) := hide ⟨own_store (unhide H13).1 (by omega) _ _, own_store (unhide H13).2.1 (by omega) _ _, own_store (unhide H13).2.2 (by omega) _ _⟩
                have HN2 : Hid ((q.next ++ [(ln : Int), (ln : Int) + 1]).length = ln + 2) := hide (by rw [List.length_append, (unhide HOK).nx, unhide Hln]; rfl)
                clear m0 m1 m2 m3 n0 n1 n2 n3 HB13 H13 HB11 H11 HB10
                have hltA : ∀ k, (Value.slice a8 (ln + 2) c8).ownBlock = some k → k < wA.heap.size := (unhide H8).2.2
                have hltB : ∀ k, (Value.slice a10 (ln + 2) c10).ownBlock = some k → k < w11.heap.size := fun k hk => by rw [unhide Hs11]; exact (unhide H10).2.2.2 k hk
                have HltA := hide hltA
                have HltB := hide hltB
                clear H8 H10 hltA hltB HNx HB8
                generalize w13.setCell ⟨w.heap.size + 1, 3, none⟩ (.slice a13 (ln + 2) c13) = w14 at *
                obtain ⟨g10, c10', hv10, hg10, hg10', -, -⟩ := own_form (unhide H14).2.1 (by rw [unhide HN2]; omega)
                rw [unhide HN2] at hv10
                injection hv10 with hv1 hv2 hv3
                subst hv1
                clear hv2 hv3 c10'
                have HC := hide (lay_any (q.next ++ [(ln : Int), (ln : Int) + 1]) wA.heap.size g10 (ln + 2) c10 e ln w14 (unhide H14).2.1 (unhide HN2) (by omega) (by omega) (by omega) (by omega))
                obtain ⟨m0, m1, m2, m3, n0, n1, n2, n3⟩ := obj_cells (unhide HB14).b1
                have hW2A : w.heap.size + 2 ≤ wA.heap.size := by omega
                go_wp2_with fail
                go_at_call 26
                refine (unhide HC).mono ?_
                clear HC m0 m1 m2 m3 n0 n1 n2 n3
                rintro e' w15 ⟨⟨vl, rfl⟩, hown15, hbut15⟩
                have h8ne : (Value.slice a8 (ln + 2) c8).ownBlock ≠ some g10 := fun h => by have := unhide HltA _ h; omega
                have h13ne : (Value.slice a13 (ln + 2) c13).ownBlock ≠ some g10 := fun h => by
                  have h1 := ((unhide H14).1.lt _ h).1
                  have h2 := unhide HltB g10 rfl
                  omega
                have HB15 := hide ((unhide HB14).but hbut15 (by omega))
                have H15 := hide (And.intro (own_but (unhide H14).1 hbut15 h13ne) (And.intro hown15 (own_but (unhide H14).2.2 hbut15 h8ne)))
                clear hown15 hbut15 H14 HB14
                have Hne := hide (And.intro h8ne h13ne)
                clear h8ne h13ne
                by_cases hge : gg = e
                · rw [if_pos hge] at HQ'
                  have hgI : (gg : Int) = (e : Int) := by omega
                  have hgB : ((gg : Int) == (e : Int)) = true := beq_iff_eq.2 hgI
                  subst hge
                  clear hgI
                  have HC : Hid (Calls Try.prog 26 #[.slice (some ⟨g10, 0, none⟩) (ln + 2) c10, .int .i64 (ln : Int), .int .i64 ((ln : Int) + 1)] w15 fun e' w' => (∃ v, e' = .returned v) ∧ OwnI w' wA.heap.size (.slice (some ⟨g10, 0, none⟩) (ln + 2) c10) (Sp.layIn (Sp.layIn (q.next ++ [(ln : Int), (ln : Int) + 1]) gg ln) ln (ln + 1)) ∧ ButRow g10 w15 w') := by
                    have h := lay_any (Sp.layIn (q.next ++ [(ln : Int), (ln : Int) + 1]) gg ln) wA.heap.size g10 (ln + 2) c10 ln (ln + 1) w15 (unhide H15).2.1 (by rw [Sp.layIn_len]; exact unhide HN2) (by omega) (by omega) (by omega) (by omega)
                    rw [show ((ln + 1 : Nat) : Int) = (ln : Int) + 1 by omega] at h
                    exact hide h
                  obtain ⟨m0, m1, m2, m3, n0, n1, n2, n3⟩ := obj_cells (unhide HB15).b1
                  go_wp2_with fail
                  go_at_call 26
                  refine (unhide HC).mono ?_
                  clear HC m0 m1 m2 m3 n0 n1 n2 n3
                  rintro e' w16 ⟨⟨vl2, rfl⟩, hown16, hbut16⟩
                  have HB16 := hide ((unhide HB15).but hbut16 (by omega))
                  have H16 := hide (And.intro (own_but (unhide H15).1 hbut16 (unhide Hne).2) (And.intro hown16 (own_but (unhide H15).2.2 hbut16 (unhide Hne).1)))
                  clear hown16 hbut16
                  go_wp2
                  go_roundg g'
                  case rel =>
                    refine ⟨i + 1, _, _, _, by omega, by go_num, hide (PlAt.of (unhide HQ') ⟨rfl, own_base (unhide H16).2.2 (by omega), own_base (unhide H16).2.1 hW2A, own_base (unhide H16).1 (by omega), ?_, ?_, ?_⟩ (unhide HB16) (Sp.planeN_ok ns (i + 1)))⟩
                    · exact sep_bases (unhide HltA) (unhide H16).2.1
                    · exact sep_bases (fun k hk => by have := unhide HltA k hk; omega) (unhide H16).1
                    · exact sep_bases (unhide HltB) (unhide H16).1
                  case measure => omega
                · rw [if_neg hge] at HQ'
                  have hgI : ¬ (gg : Int) = (e : Int) := by omega
                  have hgB : ((gg : Int) == (e : Int)) = false := beq_eq_false_iff_ne.2 hgI
                  have HC : Hid (Calls Try.prog 26 #[.slice (some ⟨g10, 0, none⟩) (ln + 2) c10, .int .i64 (gg : Int), .int .i64 ((ln : Int) + 1)] w15 fun e' w' => (∃ v, e' = .returned v) ∧ OwnI w' wA.heap.size (.slice (some ⟨g10, 0, none⟩) (ln + 2) c10) (Sp.layIn (Sp.layIn (q.next ++ [(ln : Int), (ln : Int) + 1]) e ln) gg (ln + 1)) ∧ ButRow g10 w15 w') := by
                    have h := lay_any (Sp.layIn (q.next ++ [(ln : Int), (ln : Int) + 1]) e ln) wA.heap.size g10 (ln + 2) c10 gg (ln + 1) w15 (unhide H15).2.1 (by rw [Sp.layIn_len]; exact unhide HN2) (by omega) (by omega) (by omega) (by omega)
                    rw [show ((ln + 1 : Nat) : Int) = (ln : Int) + 1 by omega] at h
                    exact hide h
                  obtain ⟨m0, m1, m2, m3, n0, n1, n2, n3⟩ := obj_cells (unhide HB15).b1
                  go_wp2_with fail
                  go_at_call 26
                  refine (unhide HC).mono ?_
                  clear HC m0 m1 m2 m3 n0 n1 n2 n3
                  rintro e' w16 ⟨⟨vl2, rfl⟩, hown16, hbut16⟩
                  have HB16 := hide ((unhide HB15).but hbut16 (by omega))
                  have H16 := hide (And.intro (own_but (unhide H15).1 hbut16 (unhide Hne).2) (And.intro hown16 (own_but (unhide H15).2.2 hbut16 (unhide Hne).1)))
                  clear hown16 hbut16
                  go_wp2
                  go_roundg g'
                  case rel =>
                    refine ⟨i + 1, _, _, _, by omega, by go_num, hide (PlAt.of (unhide HQ') ⟨rfl, own_base (unhide H16).2.2 (by omega), own_base (unhide H16).2.1 hW2A, own_base (unhide H16).1 (by omega), ?_, ?_, ?_⟩ (unhide HB16) (Sp.planeN_ok ns (i + 1)))⟩
                    · exact sep_bases (unhide HltA) (unhide H16).2.1
                    · exact sep_bases (fun k hk => by have := unhide HltA k hk; omega) (unhide H16).1
                    · exact sep_bases (unhide HltB) (unhide H16).1
                  case measure => omega
end Go.Proofs.Ytoegjnolccabjaa


