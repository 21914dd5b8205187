/- What the proof needs, part 9. -/
import Derived.Test.YtlmlibhkloingabL8
/- The law PathLow, walked. -/
namespace Go.Proofs.Ytlmlibhkloingab
open Go Go.RowKit

theorem tdiv3_in (z : Int) (h0 : -9223372036854775808 ≤ z) (h1 : z ≤ 9223372036854775807) : -9223372036854775808 ≤ z.tdiv 3 ∧ z.tdiv 3 ≤ 9223372036854775807 := by
  by_cases h : 0 ≤ z
  · rw [Int.tdiv_eq_ediv_of_nonneg h]; omega
  · have e : z = -(-z) := by omega
    rw [e, Int.neg_tdiv, Int.tdiv_eq_ediv_of_nonneg (by omega)]; omega
set_option maxRecDepth 100000 in
set_option maxHeartbeats 16000000 in
theorem pathLow_any (size : Int) (ls : List Int) (nv : Value) (w : World) (hv : Ints w nv ls) (hbd : ∀ n ∈ ls, -9223372036854775808 ≤ n ∧ n ≤ 9223372036854775807) :
    Calls Try.prog 4 #[.int .i64 size, nv] w fun e w' => e = .returned (.bool true) ∧ Below w.heap.size w w' := by
  have HK := hide (known6_any w)
  have HN0 := hide (fun w' => within6_any size 12 w' (by omega) (by omega))
  have hm0 : 0 ≤ size % 12 := Int.emod_nonneg _ (by omega)
  have hm1 : size % 12 < 12 := Int.emod_lt_of_pos _ (by omega)
  obtain ⟨N, hN⟩ : ∃ N : Nat, 1 + size % 12 = (N : Int) := ⟨(1 + size % 12).toNat, by omega⟩
  have hN1 : 0 < N := by omega
  have hN2 : N ≤ 12 := by omega
  generalize size % 12 = sz at *
  obtain ⟨na, nc, rfl, -, -, HLS⟩ := hv.allA
  have HBd := hide hbd
  obtain ⟨P, hP⟩ : ∃ P : Ending → World → Prop, P = fun e w' => e = .returned (.bool true) ∧ Below w.heap.size w w' := ⟨_, rfl⟩
  rw [← hP]
  have HP := hide hP
  clear hP hbd
  go_enter Try.func4, Try.ntmps4
  go_wp2_with fail
  go_at_call 7
  refine (unhide HK).mono ?_
  rintro e w1 ⟨rfl, hb1⟩
  have HB1 := hide hb1
  clear hb1 HK
  go_wp2_with fail
  go_at_call 8
  refine (unhide HN0 w1).mono ?_
  rintro e wz ⟨rfl, hwz⟩
  have hwz' := hwz.symm
  subst hwz'
  clear hwz
  clear HN0
  go_wp2_with (at_make; refine wpList_mk rfl _ _ rfl w1.heap.size N rfl rfl (by omega) (Nat.le_refl _) ?_)
  rintro w2 hown2 hb2 -
  have HNN := hide hN
  obtain ⟨G, hG⟩ : ∃ G, w1.heap.size = G := ⟨_, rfl⟩
  rw [hG] at hown2 ⊢
  have hGw : w.heap.size ≤ G := by rw [← hG]; exact (unhide HB1).size
  have HI2 : Hid (Below w.heap.size w w2 ∧ RowAt w2 G N (fun v => if v = 0 then 0 else if v < 1 then 1152921504606846976 else 0)) := hide ⟨(unhide HB1).trans (hb2.mono (unhide HB1).size), (RowAt.of_rep hown2).1.congr fun j hj => by
    by_cases e : j = 0
    · rw [if_pos e]
    · rw [if_neg e, if_neg (by omega)]⟩
  clear hown2 hb2 HB1 hG hN
  go_wp2
  go_loopg [8] (N - 1) (fun g s8 wr => ∃ d : Nat, d + g = N ∧ 1 ≤ d ∧ s8 = .int .i64 (d : Int) ∧ Hid (Below w.heap.size w wr ∧ RowAt wr G N (fun v => if v = 0 then 0 else if v < d then 1152921504606846976 else 0)))
  case atStart => exact ⟨1, by omega, by omega, rfl, HI2⟩
  case round =>
    clear HI2
    obtain ⟨d, hdg, hd1, rfl, HI⟩ := hrel
    cases gk with
    | succ g' =>
      have hd : d < N := by omega
      have hdI : (d : Int) < (N : Int) := by omega
      have k0 := (unhide HI).2.cell hd
      have kf := fun i => (unhide HI).2.frozen i none
      have HI3 : Hid (Below w.heap.size w (wr.setCell ⟨G, d, none⟩ (.int .i64 1152921504606846976)) ∧ RowAt (wr.setCell ⟨G, d, none⟩ (.int .i64 1152921504606846976)) G N (fun v => if v = 0 then 0 else if v < d + 1 then 1152921504606846976 else 0)) := hide ⟨(unhide HI).1.setCell (p := ⟨G, d, none⟩) hGw _, ((unhide HI).2.set _ _).congr fun j hj => by
        unfold Sp.upd
        by_cases e : j = d
        · subst e; rw [if_pos rfl, if_neg (by omega), if_pos (by omega)]
        · rw [if_neg e]
          show (if j = 0 then _ else if j < d then _ else _) = _
          by_cases e0 : j = 0
          · rw [if_pos e0, if_pos e0]
          · rw [if_neg e0, if_neg e0]
            by_cases e2 : j < d
            · rw [if_pos e2, if_pos (by omega)]
            · rw [if_neg e2, if_neg (by omega)]⟩
      clear HI
      go_wp2
      go_roundg g'
      case rel => exact ⟨d + 1, by omega, by omega, by go_num, HI3⟩
      case measure => omega
    | zero =>
      obtain rfl : d = N := by omega
      have hnn : ¬ (d : Int) < (d : Int) := by omega
      obtain ⟨w3, hw3⟩ : ∃ w3, w3 = wr := ⟨_, rfl⟩
      have H3 : Hid (Below w.heap.size w w3 ∧ RowAt w3 G d (Sp.d0 1152921504606846976 0)) := hide (by
        rw [hw3]
        refine ⟨(unhide HI).1, (unhide HI).2.congr fun j hj => ?_⟩
        unfold Sp.d0
        by_cases e : j = 0
        · rw [if_pos e, if_pos e]
        · rw [if_neg e, if_neg e, if_pos hj])
      rw [← hw3]
      have hG3 := (unhide H3).2.lt
      have HI0 : Hid (Below w3.heap.size w3 w3 ∧ OwnA w3 w3.heap.size (.slice none 0 0) []) := hide ⟨Below.refl _ _, OwnA.nil _ _⟩
      clear HI hw3 hdg
      obtain ⟨N, rfl⟩ : ∃ N, N = d := ⟨d, rfl⟩
      go_wp2
      rename_i sK3 sJ sK2 sa3 sa2 sK1 sa1 sK sa
      clear sa3 sa2 sa1
      go_loopg [6, 9] N (fun g s6 s9 wr => ∃ (i : Nat) (L : List Sp.Arc), i + g = N ∧ s9 = .int .i64 (i : Int) ∧ L.length ≤ i * 13 ∧ Hid (∀ a ∈ L, a.f < a.t ∧ a.t < N ∧ -10 ≤ a.l ∧ a.l ≤ 10) ∧ Hid (Below w3.heap.size w3 wr ∧ OwnA wr w3.heap.size s6 L))
      case atStart => exact ⟨0, [], by omega, rfl, by simp, hide (fun a ha => by cases ha), HI0⟩
      case round =>
        clear HI0
        obtain ⟨i, L, hig, rfl, hLl, HR, HI⟩ := hrel
        obtain ⟨ra, rc, rfl, -⟩ := (unhide HI).2.arcs.form
        cases gk with
        | succ gi =>
          have hi : i < N := by omega
          have hiI : (i : Int) < (N : Int) := by omega
          obtain ⟨p, hp⟩ : ∃ p : Nat, i * N = p := ⟨_, rfl⟩
          have hpI : (i : Int) * (N : Int) = (p : Int) := by rw [← hp]; push_cast; rfl
          have hp2 : p ≤ 144 := by
            have := Nat.mul_le_mul (show i ≤ 12 by omega) hN2
            omega
          clear hp
          go_wp2
          go_loopg [6, 10] (N - (i + 1)) (fun g s6 s10 wr => ∃ (k : Nat) (L : List Sp.Arc), k + g = N ∧ i < k ∧ s10 = .int .i64 (k : Int) ∧ L.length ≤ i * 13 + k ∧ Hid (∀ a ∈ L, a.f < a.t ∧ a.t < N ∧ -10 ≤ a.l ∧ a.l ≤ 10) ∧ Hid (Below w3.heap.size w3 wr ∧ OwnA wr w3.heap.size s6 L))
          case atStart => exact ⟨i + 1, L, by omega, by omega, by go_num, by omega, HR, HI⟩
          case round =>
            clear HI HR hLl
            obtain ⟨k, L, hkg, hik, rfl, hLl, HR, HI⟩ := hrel
            obtain ⟨ra, rc, rfl, -⟩ := (unhide HI).2.arcs.form
            cases gk with
            | zero =>
              obtain rfl : k = N := by omega
              have hkk : ¬ (k : Int) < (k : Int) := by omega
              go_wp2
              go_roundg gi
              case rel => exact ⟨i + 1, L, by omega, by go_num, by omega, HR, HI⟩
              case measure => omega
            | succ gk2 =>
              have hk : k < N := by omega
              have hkI : (k : Int) < (N : Int) := by omega
              obtain ⟨j, hj⟩ : ∃ j : Nat, p + k = j := ⟨_, rfl⟩
              have hjI : (p : Int) + (k : Int) = (j : Int) := by omega
              have hj2 : j ≤ 200 := by omega
              by_cases hjl : j < ls.length
              · have hjlI : (j : Int) < (ls.length : Int) := by omega
                obtain ⟨b, o, rfl, hb, hcx⟩ := unhide HLS j hjl
                have c1 := hcx wr ((unhide H3).1.trans ((unhide HI).1.mono (unhide H3).1.size))
                have hz := unhide HBd _ (Sp.getD_memA hjl)
                generalize ls.getD j 0 = z at *
                have HV := hide (fun w' => within6_any z 3 w' (by omega) (by omega))
                have hq := tdiv3_in z hz.1 hz.2
                generalize hqq : z.tdiv 3 = q at *
                have HV2 := hide (fun w' => within6_any q 21 w' (by omega) (by omega))
                have h30 : 0 ≤ z % 3 := Int.emod_nonneg _ (by omega)
                have h31 : z % 3 < 3 := Int.emod_lt_of_pos _ (by omega)
                have h20 : 0 ≤ q % 21 := Int.emod_nonneg _ (by omega)
                have h21 : q % 21 < 21 := Int.emod_lt_of_pos _ (by omega)
                generalize z % 3 = z3 at *
                generalize q % 21 = q21 at *
                obtain ⟨hq1, hq2⟩ := hq
                obtain ⟨hz1, hz2⟩ := hz
                clear hcx
                go_wp2_with fail
                go_at_call 8
                refine (unhide HV _).mono ?_
                rintro e wz ⟨rfl, hwz⟩
                have hwz' := hwz.symm
                subst hwz'
                clear hwz HV
                by_cases h3 : 0 < z3
                · go_wp2_with fail
                  go_at_call 8
                  refine (unhide HV2 _).mono ?_
                  rintro e wz ⟨rfl, hwz⟩
                  have hwz' := hwz.symm
                  subst hwz'
                  clear hwz HV2
                  go_wp2_with (at_builtin; refine wpList_appA (w := wr.alloc (.cells #[.int .i64 (i : Int), .int .i64 (k : Int), .int .i64 (q21 - 10)] 28)) rfl _ _ rfl w3.heap.size _ _ L [⟨i, k, q21 - 10⟩] rfl rfl ((unhide HI).2.alloc _) (OwnA.arcs (own_litA _ 0 _ 1 [⟨i, k, q21 - 10⟩] _ rfl rfl rfl (Nat.zero_le _) (by simp))) (L.length + 1) rfl (by omega) (by have := (unhide HI).1.size; simp; omega) ?_)
                  intro a6 c6 w6 hown6 hg6 ho6
                  have HI6 : Hid (Below w3.heap.size w3 w6 ∧ OwnA w6 w3.heap.size (.slice a6 (L.length + 1) c6) (L ++ [⟨i, k, q21 - 10⟩])) := hide ⟨((unhide HI).1.alloc (unhide HI).1.size _).grown hg6 (by have := (unhide HI).1.size; simp; omega) (fun g hg => ((unhide HI).2.lt g hg).1), hown6⟩
                  have HR6 : Hid (∀ a ∈ L ++ [(⟨i, k, q21 - 10⟩ : Sp.Arc)], a.f < a.t ∧ a.t < N ∧ -10 ≤ a.l ∧ a.l ≤ 10) := hide fun a ha => by
                    rcases List.mem_append.1 ha with h | h
                    · exact unhide HR a h
                    · rw [List.mem_singleton] at h; subst h; exact ⟨hik, hk, by show -10 ≤ q21 - 10; omega, by show q21 - 10 ≤ 10; omega⟩
                  clear hown6 hg6 ho6
                  go_wp2
                  go_roundg gk2
                  case rel => exact ⟨k + 1, _, by omega, by omega, by go_num, by rw [List.length_append]; simp; omega, HR6, HI6⟩
                  case measure => omega
                · go_wp2
                  go_roundg gk2
                  case rel => exact ⟨k + 1, L, by omega, by omega, by go_num, by omega, HR, HI⟩
                  case measure => omega
              · have hjlI : ¬ (j : Int) < (ls.length : Int) := by omega
                go_wp2
                go_roundg gk2
                case rel => exact ⟨k + 1, L, by omega, by omega, by go_num, by omega, HR, HI⟩
                case measure => omega
        | zero =>
          obtain rfl : i = N := by omega
          have hnn2 : ¬ (i : Int) < (i : Int) := by omega
          obtain ⟨w4, hw4⟩ : ∃ w4, w4 = wr := ⟨_, rfl⟩
          rw [← hw4] at HI ⊢
          obtain ⟨n, hn⟩ : ∃ n, L.length = n := ⟨_, rfl⟩
          have hn2 : n ≤ 156 := by omega
          have HRs : Hid (Sp.Rise L i) := hide ⟨by omega, unhide HR⟩
          have HA : Hid (∀ w', Bt (fun b => b = G) w4 w' → ArcsI w' (.slice ra n rc) L) := hide fun w' hb => by
            rw [← hn]
            refine OwnA.arcs ((unhide HI).2.keep fun g hg => hb.block g ((unhide HI).2.lt g hg).2 ?_)
            have h1 := ((unhide HI).2.lt g hg).1
            show ¬ g = G
            omega
          have HB4 : Hid (∀ w', Bt (fun b => b = G) w4 w' → Below w.heap.size w w') := hide fun w' hb => by
            have h0 := (unhide H3).1.trans ((unhide HI).1.mono (unhide H3).1.size)
            exact h0.trans (hb.below (B := w.heap.size) (fun b hb => by have : b = G := hb; omega) h0.size)
          have HI4 : Hid (Bt (fun b => b = G) w4 w4 ∧ RowAt w4 G i (Sp.d0 1152921504606846976 0)) := hide ⟨Bt.refl _ _, (unhide H3).2.below (unhide HI).1⟩
          have HU0 : Hid (Sp.Up6 L i 0 0 (Sp.d0 1152921504606846976 0)) := hide (Sp.Up6.start hN1)
          rw [hn]
          have HNl := hide hn
          clear HI HR hw4 hn hig hLl H3
          obtain ⟨N, rfl⟩ : ∃ N, N = i := ⟨i, rfl⟩
          go_wp2
          rename_i tK3 tJ tK2 ta3 ta2 tK1 ta1 tK ta
          clear ta3 ta2 ta1
          go_loopg [12] N (fun g s12 wr => ∃ (i : Nat) (D : Nat → Int), i + g = N ∧ s12 = .int .i64 (i : Int) ∧ Hid (Sp.Up6 L N i 0 D) ∧ Hid (Bt (fun b => b = G) w4 wr ∧ RowAt wr G N D))
          case atStart => exact ⟨0, _, by omega, rfl, HU0, HI4⟩
          case round =>
            clear HU0 HI4
            obtain ⟨i, D, hig, rfl, HU, HI⟩ := hrel
            cases gk with
            | succ gi =>
              have hi : i < N := by omega
              have hiI : (i : Int) < (N : Int) := by omega
              go_wp2
              go_loopg [13] n (fun g s13 wr => ∃ (k : Nat) (D : Nat → Int), k + g = n ∧ s13 = .int .i64 (k : Int) ∧ Hid (Sp.Up6 L N i k D) ∧ Hid (Bt (fun b => b = G) w4 wr ∧ RowAt wr G N D))
              case atStart => exact ⟨0, D, by omega, rfl, HU, HI⟩
              case round =>
                clear HU HI
                obtain ⟨k, D, hkg, rfl, HU, HI⟩ := hrel
                cases gk with
                | succ g3 =>
                  have hk : k < n := by omega
                  have hkI : (k : Int) < (n : Int) := by omega
                  have hkL : k < L.length := by rw [unhide HNl]; exact hk
                  obtain ⟨a, c, e, -, -, HC⟩ := (unhide HA wr (unhide HI).1).all
                  injection e with e1 e2 e3
                  subst e1 e3
                  obtain ⟨b, o, rfl, hb, hcx⟩ := unhide HC k hkL
                  obtain ⟨c1, c2, c3⟩ := hcx wr (Below.refl _ _)
                  obtain ⟨hft, htN, hl1, hl2⟩ := (unhide HRs).at_ _ (Sp.arc_mem hkL)
                  have d1 := (unhide HI).2.cell hi
                  have hlowi := (unhide HU).low i hi
                  by_cases hf : (L.getD k Sp.arc0).f = i
                  · by_cases hfar : D i = 1152921504606846976
                    · have HU2 := hide ((unhide HU).skip (fun _ => hfar))
                      have hb1 : (((L.getD k Sp.arc0).f : Int) == (i : Int)) = true := by rw [hf]; exact beq_self_eq_true _
                      rw [hf] at c1
                      rw [hfar] at d1
                      clear hcx HC hlowi hb1 e2
                      go_wp2
                      go_roundg g3
                      case rel => exact ⟨k + 1, D, by omega, by go_num, HU2, HI⟩
                      case measure => omega
                    · have HU2 := hide ((unhide HU).take_ (by omega) (unhide HRs) hkL hf hfar)
                      have hdi := hlowi.resolve_left hfar
                      have hlt := (unhide HU).low _ htN
                      have hfb : (D i != 1152921504606846976) = true := bne_iff_ne.2 hfar
                      have hr := (unhide HI).2
                      have HKq0 := fun w' (hb' : Below wr.heap.size wr w') => And.intro ((hr.below hb').cell htN) (And.intro ((hr.below hb').frozen (L.getD k Sp.arc0).t none) (And.intro (((unhide HI).1.trans (Bt.of hb')).set (b := G) (.inl rfl) (L.getD k Sp.arc0).t none (.int .i64 (min (D (L.getD k Sp.arc0).t) (D i + (L.getD k Sp.arc0).l)))) ((hr.below hb').set (L.getD k Sp.arc0).t (min (D (L.getD k Sp.arc0).t) (D i + (L.getD k Sp.arc0).l)))))
                      have HRD0 := fun w' (hb' : Below wr.heap.size wr w') => And.intro (hcx w' hb') (And.intro ((hr.below hb').cell hi) ((hr.below hb').cell htN))
                      rw [hf] at c1 HRD0
                      generalize L.getD k Sp.arc0 = a at *
                      obtain ⟨f, t, l⟩ := a
                      simp only at c1 c2 c3 htN hl1 hl2 hlt HKq0 HRD0 HU2 hft hf
                      generalize D i = di at *
                      have hdt0 : ∃ dt, D t = dt := ⟨_, rfl⟩
                      obtain ⟨dt, hdt⟩ := hdt0
                      rw [hdt] at hlt HKq0 HRD0 HU2
                      have HRD : Hid (∀ w', Below wr.heap.size wr w' → w'.cell? ⟨b, o + k * 3, none⟩ = some (.int .i64 (i : Int)) ∧ w'.cell? ⟨b, o + k * 3 + 1, none⟩ = some (.int .i64 (t : Int)) ∧ w'.cell? ⟨b, o + k * 3 + 2, none⟩ = some (.int .i64 l) ∧ w'.cell? ⟨G, i, none⟩ = some (.int .i64 di) ∧ w'.cell? ⟨G, t, none⟩ = some (.int .i64 dt)) := hide fun w' hb' => ⟨(HRD0 w' hb').1.1, (HRD0 w' hb').1.2.1, (HRD0 w' hb').1.2.2, (HRD0 w' hb').2.1, (HRD0 w' hb').2.2⟩
                      have htI : (t : Int) < (N : Int) := by omega
                      have hb9 : -1000 ≤ di ∧ di ≤ 1000 := by omega
                      have hb8 : -1000 ≤ dt ∧ dt ≤ 1152921504606846976 := by rcases hlt with q | q <;> omega
                      obtain ⟨hb91, hb92⟩ := hb9
                      obtain ⟨hb81, hb82⟩ := hb8
                      have hwr : IntKind.i64.wrap (di + l) = di + l := by rw [IntKind.wrap_i64]; omega
                      clear hcx HC hlowi HRD0 hr hdt hlt hdi hft e2 hfar
                      by_cases hlt2 : di + l < dt
                      · have hmn : min dt (di + l) = di + l := by omega
                        rw [hmn] at HKq0 HU2
                        have HKq := hide HKq0
                        clear HKq0
                        go_upto_region 26 with fail
                        have hbq := (Below.refl wr.heap.size wr).drew
                        have hk1 := (unhide HKq _ hbq).1
                        have hkf := (unhide HKq _ hbq).2.1
                        have HF := hide (unhide HKq _ hbq).2.2
                        refine wp_region_G (fun w' => w'.cell? ⟨b, o + k * 3, none⟩ = some (.int .i64 (i : Int)) ∧ w'.cell? ⟨b, o + k * 3 + 1, none⟩ = some (.int .i64 (t : Int)) ∧ w'.cell? ⟨b, o + k * 3 + 2, none⟩ = some (.int .i64 l) ∧ w'.cell? ⟨G, i, none⟩ = some (.int .i64 di) ∧ w'.cell? ⟨G, t, none⟩ = some (.int .i64 dt)) (fun i => i == 26) (by kernel_rfl) (unhide HRD _ hbq) (fun hHeld => ?_)
                        generalize wr.drew = wq at *
                        refine wpAnyG_take (v := ?_) 0 (by rfl) (by kernel_rfl) (by kernel_rfl) (by kernel_rfl) (by kernel_rfl) (fun _ _ _ h => h) (Or.inl ⟨by rfl, ?_⟩) (by assumption) ?_
                        rotate_left
                        · (intro w' hSw; (try dsimp only at hSw); (try simp only [List.getElem_toArray, List.getElem_cons_zero]); go_simp; try (with_reducible rfl))
                        simp only [Act.put, List.getElem_toArray, List.getElem_cons_zero, List.setIfInBounds_toArray, List.set_cons_zero, List.set_cons_succ]
                        refine wpAnyG_take (v := ?_) 1 (by rfl) (by kernel_rfl) (by kernel_rfl) (by kernel_rfl) (by kernel_rfl) (fun _ _ _ h => h) (Or.inl ⟨by rfl, ?_⟩) (by assumption) ?_
                        rotate_left
                        · (intro w' hSw; (try dsimp only at hSw); (try simp only [List.getElem_toArray, List.getElem_cons_succ, List.getElem_cons_zero]); go_simp; try (with_reducible rfl))
                        simp only [Act.put, List.getElem_toArray, List.getElem_cons_succ, List.getElem_cons_zero, List.setIfInBounds_toArray, List.set_cons_zero, List.set_cons_succ]
                        refine wpAnyG_take (v := ?_) 2 (by rfl) (by kernel_rfl) (by kernel_rfl) (by kernel_rfl) (by kernel_rfl) (fun _ _ _ h => h) (Or.inl ⟨by rfl, ?_⟩) (by assumption) ?_
                        rotate_left
                        · (intro w' hSw; (try dsimp only at hSw); (try simp only [List.getElem_toArray, List.getElem_cons_succ, List.getElem_cons_zero]); go_simp; try (with_reducible rfl))
                        simp only [Act.put, List.getElem_toArray, List.getElem_cons_succ, List.getElem_cons_zero, List.setIfInBounds_toArray, List.set_cons_zero, List.set_cons_succ]
                        refine wpAnyG_take (v := ?_) 3 (by rfl) (by kernel_rfl) (by kernel_rfl) (by kernel_rfl) (by kernel_rfl) (fun _ _ _ h => h) (Or.inl ⟨by rfl, ?_⟩) (by assumption) ?_
                        rotate_left
                        · (intro w' hSw; (try dsimp only at hSw); (try simp only [List.getElem_toArray, List.getElem_cons_succ, List.getElem_cons_zero]); go_simp; try (with_reducible rfl))
                        simp only [Act.put, List.getElem_toArray, List.getElem_cons_succ, List.getElem_cons_zero, List.setIfInBounds_toArray, List.set_cons_zero, List.set_cons_succ]
                        refine wpAnyG_take (v := ?_) 4 (by rfl) (by kernel_rfl) (by kernel_rfl) (by kernel_rfl) (by kernel_rfl) (fun _ _ _ h => h) (Or.inl ⟨by rfl, ?_⟩) (by assumption) ?_
                        rotate_left
                        · (intro w' hSw; (try dsimp only at hSw); (try simp only [List.getElem_toArray, List.getElem_cons_succ, List.getElem_cons_zero]); go_simp; try (with_reducible rfl))
                        simp only [Act.put, List.getElem_toArray, List.getElem_cons_succ, List.getElem_cons_zero, List.setIfInBounds_toArray, List.set_cons_zero, List.set_cons_succ]
                        refine wpAnyG_take (v := ?_) 5 (by rfl) (by kernel_rfl) (by kernel_rfl) (by kernel_rfl) (by kernel_rfl) (fun _ _ _ h => h) (Or.inl ⟨by rfl, ?_⟩) (by assumption) ?_
                        rotate_left
                        · (intro w' hSw; (try dsimp only at hSw); (try simp only [List.getElem_toArray, List.getElem_cons_succ, List.getElem_cons_zero]); go_simp; try (with_reducible rfl))
                        simp only [Act.put, List.getElem_toArray, List.getElem_cons_succ, List.getElem_cons_zero, List.setIfInBounds_toArray, List.set_cons_zero, List.set_cons_succ]
                        refine wpAnyG_take (v := ?_) 6 (by rfl) (by kernel_rfl) (by kernel_rfl) (by kernel_rfl) (by kernel_rfl) (fun _ _ _ h => h) (Or.inl ⟨by rfl, ?_⟩) (by assumption) ?_
                        rotate_left
                        · (intro w' hSw; (try dsimp only at hSw); (try simp only [List.getElem_toArray, List.getElem_cons_succ, List.getElem_cons_zero]); go_simp; try (with_reducible rfl))
                        simp only [Act.put, List.getElem_toArray, List.getElem_cons_succ, List.getElem_cons_zero, List.setIfInBounds_toArray, List.set_cons_zero, List.set_cons_succ]
                        refine wpAnyG_take (v := ?_) 7 (by rfl) (by kernel_rfl) (by kernel_rfl) (by kernel_rfl) (by kernel_rfl) (fun _ _ _ h => h) (Or.inl ⟨by rfl, ?_⟩) (by assumption) ?_
                        rotate_left
                        · (intro w' hSw; (try dsimp only at hSw); (try simp only [List.getElem_toArray, List.getElem_cons_succ, List.getElem_cons_zero]); go_simp; try (with_reducible rfl))
                        simp only [Act.put, List.getElem_toArray, List.getElem_cons_succ, List.getElem_cons_zero, List.setIfInBounds_toArray, List.set_cons_zero, List.set_cons_succ]
                        refine wpAnyG_take (v := ?_) 8 (by rfl) (by kernel_rfl) (by kernel_rfl) (by kernel_rfl) (by kernel_rfl) (fun _ _ _ h => h) (Or.inl ⟨by rfl, ?_⟩) (by assumption) ?_
                        rotate_left
                        · (intro w' hSw; (try dsimp only at hSw); (try simp only [List.getElem_toArray, List.getElem_cons_succ, List.getElem_cons_zero]); go_simp; try (with_reducible rfl))
                        simp only [Act.put, List.getElem_toArray, List.getElem_cons_succ, List.getElem_cons_zero, List.setIfInBounds_toArray, List.set_cons_zero, List.set_cons_succ]
                        refine wpAnyG_take (v := ?_) 9 (by rfl) (by kernel_rfl) (by kernel_rfl) (by kernel_rfl) (by kernel_rfl) (fun _ _ _ h => h) (Or.inl ⟨by rfl, ?_⟩) (by assumption) ?_
                        rotate_left
                        · (intro w' hSw; (try dsimp only at hSw); (try simp only [List.getElem_toArray, List.getElem_cons_succ, List.getElem_cons_zero]); go_simp; try (with_reducible rfl))
                        simp only [Act.put, List.getElem_toArray, List.getElem_cons_succ, List.getElem_cons_zero, List.setIfInBounds_toArray, List.set_cons_zero, List.set_cons_succ]
                        refine wpAnyG_take (v := ?_) 10 (by rfl) (by kernel_rfl) (by kernel_rfl) (by kernel_rfl) (by kernel_rfl) (fun _ _ _ h => h) (Or.inl ⟨by rfl, ?_⟩) (by assumption) ?_
                        rotate_left
                        · (intro w' hSw; (try dsimp only at hSw); (try simp only [List.getElem_toArray, List.getElem_cons_succ, List.getElem_cons_zero]); go_simp; try (with_reducible rfl))
                        simp only [Act.put, List.getElem_toArray, List.getElem_cons_succ, List.getElem_cons_zero, List.setIfInBounds_toArray, List.set_cons_zero, List.set_cons_succ]
                        refine wpAnyG_take (v := ?_) 11 (by rfl) (by kernel_rfl) (by kernel_rfl) (by kernel_rfl) (by kernel_rfl) (fun _ _ _ h => h) (Or.inl ⟨by rfl, ?_⟩) (by assumption) ?_
                        rotate_left
                        · (intro w' hSw; (try dsimp only at hSw); (try simp only [List.getElem_toArray, List.getElem_cons_succ, List.getElem_cons_zero]); go_simp; try (with_reducible rfl))
                        simp only [Act.put, List.getElem_toArray, List.getElem_cons_succ, List.getElem_cons_zero, List.setIfInBounds_toArray, List.set_cons_zero, List.set_cons_succ]
                        refine wpAnyG_take (v := ?_) 12 (by rfl) (by kernel_rfl) (by kernel_rfl) (by kernel_rfl) (by kernel_rfl) (fun _ _ _ h => h) (Or.inl ⟨by rfl, ?_⟩) (by assumption) ?_
                        rotate_left
                        · (intro w' hSw; (try dsimp only at hSw); (try simp only [List.getElem_toArray, List.getElem_cons_succ, List.getElem_cons_zero]); go_simp; try (with_reducible rfl))
                        simp only [Act.put, List.getElem_toArray, List.getElem_cons_succ, List.getElem_cons_zero, List.setIfInBounds_toArray, List.set_cons_zero, List.set_cons_succ]
                        refine wpAnyG_take (v := ?_) 13 (by rfl) (by kernel_rfl) (by kernel_rfl) (by kernel_rfl) (by kernel_rfl) (fun _ _ _ h => h) (Or.inl ⟨by rfl, ?_⟩) (by assumption) ?_
                        rotate_left
                        · (intro w' hSw; (try dsimp only at hSw); (try simp only [List.getElem_toArray, List.getElem_cons_succ, List.getElem_cons_zero]); go_simp; try (with_reducible rfl))
                        simp only [Act.put, List.getElem_toArray, List.getElem_cons_succ, List.getElem_cons_zero, List.setIfInBounds_toArray, List.set_cons_zero, List.set_cons_succ]
                        refine wpAnyG_take (v := ?_) 14 (by rfl) (by kernel_rfl) (by kernel_rfl) (by kernel_rfl) (by kernel_rfl) (fun _ _ _ h => h) (Or.inl ⟨by rfl, ?_⟩) (by assumption) ?_
                        rotate_left
                        · (intro w' hSw; (try dsimp only at hSw); (try simp only [List.getElem_toArray, List.getElem_cons_succ, List.getElem_cons_zero]); go_simp; try (with_reducible rfl))
                        simp only [Act.put, List.getElem_toArray, List.getElem_cons_succ, List.getElem_cons_zero, List.setIfInBounds_toArray, List.set_cons_zero, List.set_cons_succ]
                        refine wpAnyG_take (v := ?_) 15 (by rfl) (by kernel_rfl) (by kernel_rfl) (by kernel_rfl) (by kernel_rfl) (fun _ _ _ h => h) (Or.inl ⟨by rfl, ?_⟩) (by assumption) ?_
                        rotate_left
                        · (intro w' hSw; (try dsimp only at hSw); (try simp only [List.getElem_toArray, List.getElem_cons_succ, List.getElem_cons_zero]); go_simp; try (with_reducible rfl))
                        simp only [Act.put, List.getElem_toArray, List.getElem_cons_succ, List.getElem_cons_zero, List.setIfInBounds_toArray, List.set_cons_zero, List.set_cons_succ]
                        refine wpAnyG_take (v := ?_) 16 (by rfl) (by kernel_rfl) (by kernel_rfl) (by kernel_rfl) (by kernel_rfl) (fun _ _ _ h => h) (Or.inl ⟨by rfl, ?_⟩) (by assumption) ?_
                        rotate_left
                        · (intro w' hSw; (try dsimp only at hSw); (try simp only [List.getElem_toArray, List.getElem_cons_succ, List.getElem_cons_zero]); go_simp; try (with_reducible rfl))
                        simp only [Act.put, List.getElem_toArray, List.getElem_cons_succ, List.getElem_cons_zero, List.setIfInBounds_toArray, List.set_cons_zero, List.set_cons_succ]
                        refine wpAnyG_take (v := ?_) 17 (by rfl) (by kernel_rfl) (by kernel_rfl) (by kernel_rfl) (by kernel_rfl) (fun _ _ _ h => h) (Or.inl ⟨by rfl, ?_⟩) (by assumption) ?_
                        rotate_left
                        · (intro w' hSw; (try dsimp only at hSw); (try simp only [List.getElem_toArray, List.getElem_cons_succ, List.getElem_cons_zero]); go_simp; try (with_reducible rfl))
                        simp only [Act.put, List.getElem_toArray, List.getElem_cons_succ, List.getElem_cons_zero, List.setIfInBounds_toArray, List.set_cons_zero, List.set_cons_succ]
                        refine wpAnyG_take (v := ?_) 18 (by rfl) (by kernel_rfl) (by kernel_rfl) (by kernel_rfl) (by kernel_rfl) (fun _ _ _ h => h) (Or.inl ⟨by rfl, ?_⟩) (by assumption) ?_
                        rotate_left
                        · (intro w' hSw; (try dsimp only at hSw); (try simp only [List.getElem_toArray, List.getElem_cons_succ, List.getElem_cons_zero]); go_simp; try (with_reducible rfl))
                        simp only [Act.put, List.getElem_toArray, List.getElem_cons_succ, List.getElem_cons_zero, List.setIfInBounds_toArray, List.set_cons_zero, List.set_cons_succ]
                        refine wpAnyG_take (v := ?_) 19 (by rfl) (by kernel_rfl) (by kernel_rfl) (by kernel_rfl) (by kernel_rfl) (fun _ _ _ h => h) (Or.inl ⟨by rfl, ?_⟩) (by assumption) ?_
                        rotate_left
                        · (intro w' hSw; (try dsimp only at hSw); (try simp only [List.getElem_toArray, List.getElem_cons_succ, List.getElem_cons_zero]); go_simp; try (with_reducible rfl))
                        simp only [Act.put, List.getElem_toArray, List.getElem_cons_succ, List.getElem_cons_zero, List.setIfInBounds_toArray, List.set_cons_zero, List.set_cons_succ]
                        refine wpAnyG_take (v := ?_) 20 (by rfl) (by kernel_rfl) (by kernel_rfl) (by kernel_rfl) (by kernel_rfl) (fun _ _ _ h => h) (Or.inl ⟨by rfl, ?_⟩) (by assumption) ?_
                        rotate_left
                        · (intro w' hSw; (try dsimp only at hSw); (try simp only [List.getElem_toArray, List.getElem_cons_succ, List.getElem_cons_zero]); go_simp; try (with_reducible rfl))
                        simp only [Act.put, List.getElem_toArray, List.getElem_cons_succ, List.getElem_cons_zero, List.setIfInBounds_toArray, List.set_cons_zero, List.set_cons_succ]
                        refine wpAnyG_take (v := ?_) 21 (by rfl) (by kernel_rfl) (by kernel_rfl) (by kernel_rfl) (by kernel_rfl) (fun _ _ _ h => h) (Or.inl ⟨by rfl, ?_⟩) (by assumption) ?_
                        rotate_left
                        · (intro w' hSw; (try dsimp only at hSw); (try simp only [List.getElem_toArray, List.getElem_cons_succ, List.getElem_cons_zero]); go_simp; try (with_reducible rfl))
                        simp only [Act.put, List.getElem_toArray, List.getElem_cons_succ, List.getElem_cons_zero, List.setIfInBounds_toArray, List.set_cons_zero, List.set_cons_succ]
                        refine wpAnyG_take (v := ?_) 22 (by rfl) (by kernel_rfl) (by kernel_rfl) (by kernel_rfl) (by kernel_rfl) (fun _ _ _ h => h) (Or.inl ⟨by rfl, ?_⟩) (by assumption) ?_
                        rotate_left
                        · (intro w' hSw; (try dsimp only at hSw); (try simp only [List.getElem_toArray, List.getElem_cons_succ, List.getElem_cons_zero]); go_simp; try (with_reducible rfl))
                        simp only [Act.put, List.getElem_toArray, List.getElem_cons_succ, List.getElem_cons_zero, List.setIfInBounds_toArray, List.set_cons_zero, List.set_cons_succ]
                        refine wpAnyG_take (v := ?_) 23 (by rfl) (by kernel_rfl) (by kernel_rfl) (by kernel_rfl) (by kernel_rfl) (fun _ _ _ h => h) (Or.inl ⟨by rfl, ?_⟩) (by assumption) ?_
                        rotate_left
                        · (intro w' hSw; (try dsimp only at hSw); (try simp only [List.getElem_toArray, List.getElem_cons_succ, List.getElem_cons_zero]); go_simp; try (with_reducible rfl))
                        simp only [Act.put, List.getElem_toArray, List.getElem_cons_succ, List.getElem_cons_zero, List.setIfInBounds_toArray, List.set_cons_zero, List.set_cons_succ]
                        refine wpAnyG_take (v := ?_) 24 (by rfl) (by kernel_rfl) (by kernel_rfl) (by kernel_rfl) (by kernel_rfl) (fun _ _ _ h => h) (Or.inl ⟨by rfl, ?_⟩) (by assumption) ?_
                        rotate_left
                        · (intro w' hSw; (try dsimp only at hSw); (try simp only [List.getElem_toArray, List.getElem_cons_succ, List.getElem_cons_zero]); go_simp; try (with_reducible rfl))
                        simp only [Act.put, List.getElem_toArray, List.getElem_cons_succ, List.getElem_cons_zero, List.setIfInBounds_toArray, List.set_cons_zero, List.set_cons_succ]
                        refine wpAnyG_ready [25] (by kernel_rfl) (by simp) ?_
                        refine AllReadyG.cons 25 (by rfl) (fun K hK => ?_) ?_
                        · simp only [List.getElem_toArray, List.getElem_cons_succ, List.getElem_cons_zero]
                          go_simp
                          refine hK.out _ _ (unhide HRD _ hbq) (fun _ => ?_)
                          clear hK K
                          try simp only [Act.put, List.setIfInBounds_toArray, List.set_cons_zero, List.set_cons_succ]
                          refine wpAnyG_ready [26] (by kernel_rfl) (by simp) ?_
                          refine AllReadyG.last 26 (by rfl) (by kernel_rfl) (fun K hK => ?_) ?_
                          · simp only [List.getElem_toArray, List.getElem_cons_succ, List.getElem_cons_zero]
                            go_simp
                            refine hK.out _ _ ?_
                            clear hK K
                            try simp only [Act.put, List.setIfInBounds_toArray, List.set_cons_zero, List.set_cons_succ]
                            refine wpAnyG_done (by kernel_rfl) ?_ _
                            refine NoPanic.normal ?_
                            go_wp2
                            all_goals
                              go_roundg g3
                              case rel => exact ⟨k + 1, _, by omega, by go_num, HU2, HF⟩
                              case measure => omega
                          exact AllReadyG.nil
                        exact AllReadyG.nil
                      · have hmn : min dt (di + l) = dt := by omega
                        rw [hmn] at HKq0 HU2
                        have HKq := hide HKq0
                        clear HKq0
                        go_upto_region 26 with fail
                        have hbq := (Below.refl wr.heap.size wr).drew
                        have hk1 := (unhide HKq _ hbq).1
                        have hkf := (unhide HKq _ hbq).2.1
                        have HF := hide (unhide HKq _ hbq).2.2
                        refine wp_region_G (fun w' => w'.cell? ⟨b, o + k * 3, none⟩ = some (.int .i64 (i : Int)) ∧ w'.cell? ⟨b, o + k * 3 + 1, none⟩ = some (.int .i64 (t : Int)) ∧ w'.cell? ⟨b, o + k * 3 + 2, none⟩ = some (.int .i64 l) ∧ w'.cell? ⟨G, i, none⟩ = some (.int .i64 di) ∧ w'.cell? ⟨G, t, none⟩ = some (.int .i64 dt)) (fun i => i == 26) (by kernel_rfl) (unhide HRD _ hbq) (fun hHeld => ?_)
                        generalize wr.drew = wq at *
                        refine wpAnyG_take (v := ?_) 0 (by rfl) (by kernel_rfl) (by kernel_rfl) (by kernel_rfl) (by kernel_rfl) (fun _ _ _ h => h) (Or.inl ⟨by rfl, ?_⟩) (by assumption) ?_
                        rotate_left
                        · (intro w' hSw; (try dsimp only at hSw); (try simp only [List.getElem_toArray, List.getElem_cons_zero]); go_simp; try (with_reducible rfl))
                        simp only [Act.put, List.getElem_toArray, List.getElem_cons_zero, List.setIfInBounds_toArray, List.set_cons_zero, List.set_cons_succ]
                        refine wpAnyG_take (v := ?_) 1 (by rfl) (by kernel_rfl) (by kernel_rfl) (by kernel_rfl) (by kernel_rfl) (fun _ _ _ h => h) (Or.inl ⟨by rfl, ?_⟩) (by assumption) ?_
                        rotate_left
                        · (intro w' hSw; (try dsimp only at hSw); (try simp only [List.getElem_toArray, List.getElem_cons_succ, List.getElem_cons_zero]); go_simp; try (with_reducible rfl))
                        simp only [Act.put, List.getElem_toArray, List.getElem_cons_succ, List.getElem_cons_zero, List.setIfInBounds_toArray, List.set_cons_zero, List.set_cons_succ]
                        refine wpAnyG_take (v := ?_) 2 (by rfl) (by kernel_rfl) (by kernel_rfl) (by kernel_rfl) (by kernel_rfl) (fun _ _ _ h => h) (Or.inl ⟨by rfl, ?_⟩) (by assumption) ?_
                        rotate_left
                        · (intro w' hSw; (try dsimp only at hSw); (try simp only [List.getElem_toArray, List.getElem_cons_succ, List.getElem_cons_zero]); go_simp; try (with_reducible rfl))
                        simp only [Act.put, List.getElem_toArray, List.getElem_cons_succ, List.getElem_cons_zero, List.setIfInBounds_toArray, List.set_cons_zero, List.set_cons_succ]
                        refine wpAnyG_take (v := ?_) 3 (by rfl) (by kernel_rfl) (by kernel_rfl) (by kernel_rfl) (by kernel_rfl) (fun _ _ _ h => h) (Or.inl ⟨by rfl, ?_⟩) (by assumption) ?_
                        rotate_left
                        · (intro w' hSw; (try dsimp only at hSw); (try simp only [List.getElem_toArray, List.getElem_cons_succ, List.getElem_cons_zero]); go_simp; try (with_reducible rfl))
                        simp only [Act.put, List.getElem_toArray, List.getElem_cons_succ, List.getElem_cons_zero, List.setIfInBounds_toArray, List.set_cons_zero, List.set_cons_succ]
                        refine wpAnyG_take (v := ?_) 4 (by rfl) (by kernel_rfl) (by kernel_rfl) (by kernel_rfl) (by kernel_rfl) (fun _ _ _ h => h) (Or.inl ⟨by rfl, ?_⟩) (by assumption) ?_
                        rotate_left
                        · (intro w' hSw; (try dsimp only at hSw); (try simp only [List.getElem_toArray, List.getElem_cons_succ, List.getElem_cons_zero]); go_simp; try (with_reducible rfl))
                        simp only [Act.put, List.getElem_toArray, List.getElem_cons_succ, List.getElem_cons_zero, List.setIfInBounds_toArray, List.set_cons_zero, List.set_cons_succ]
                        refine wpAnyG_take (v := ?_) 5 (by rfl) (by kernel_rfl) (by kernel_rfl) (by kernel_rfl) (by kernel_rfl) (fun _ _ _ h => h) (Or.inl ⟨by rfl, ?_⟩) (by assumption) ?_
                        rotate_left
                        · (intro w' hSw; (try dsimp only at hSw); (try simp only [List.getElem_toArray, List.getElem_cons_succ, List.getElem_cons_zero]); go_simp; try (with_reducible rfl))
                        simp only [Act.put, List.getElem_toArray, List.getElem_cons_succ, List.getElem_cons_zero, List.setIfInBounds_toArray, List.set_cons_zero, List.set_cons_succ]
                        refine wpAnyG_take (v := ?_) 6 (by rfl) (by kernel_rfl) (by kernel_rfl) (by kernel_rfl) (by kernel_rfl) (fun _ _ _ h => h) (Or.inl ⟨by rfl, ?_⟩) (by assumption) ?_
                        rotate_left
                        · (intro w' hSw; (try dsimp only at hSw); (try simp only [List.getElem_toArray, List.getElem_cons_succ, List.getElem_cons_zero]); go_simp; try (with_reducible rfl))
                        simp only [Act.put, List.getElem_toArray, List.getElem_cons_succ, List.getElem_cons_zero, List.setIfInBounds_toArray, List.set_cons_zero, List.set_cons_succ]
                        refine wpAnyG_take (v := ?_) 7 (by rfl) (by kernel_rfl) (by kernel_rfl) (by kernel_rfl) (by kernel_rfl) (fun _ _ _ h => h) (Or.inl ⟨by rfl, ?_⟩) (by assumption) ?_
                        rotate_left
                        · (intro w' hSw; (try dsimp only at hSw); (try simp only [List.getElem_toArray, List.getElem_cons_succ, List.getElem_cons_zero]); go_simp; try (with_reducible rfl))
                        simp only [Act.put, List.getElem_toArray, List.getElem_cons_succ, List.getElem_cons_zero, List.setIfInBounds_toArray, List.set_cons_zero, List.set_cons_succ]
                        refine wpAnyG_take (v := ?_) 8 (by rfl) (by kernel_rfl) (by kernel_rfl) (by kernel_rfl) (by kernel_rfl) (fun _ _ _ h => h) (Or.inl ⟨by rfl, ?_⟩) (by assumption) ?_
                        rotate_left
                        · (intro w' hSw; (try dsimp only at hSw); (try simp only [List.getElem_toArray, List.getElem_cons_succ, List.getElem_cons_zero]); go_simp; try (with_reducible rfl))
                        simp only [Act.put, List.getElem_toArray, List.getElem_cons_succ, List.getElem_cons_zero, List.setIfInBounds_toArray, List.set_cons_zero, List.set_cons_succ]
                        refine wpAnyG_take (v := ?_) 9 (by rfl) (by kernel_rfl) (by kernel_rfl) (by kernel_rfl) (by kernel_rfl) (fun _ _ _ h => h) (Or.inl ⟨by rfl, ?_⟩) (by assumption) ?_
                        rotate_left
                        · (intro w' hSw; (try dsimp only at hSw); (try simp only [List.getElem_toArray, List.getElem_cons_succ, List.getElem_cons_zero]); go_simp; try (with_reducible rfl))
                        simp only [Act.put, List.getElem_toArray, List.getElem_cons_succ, List.getElem_cons_zero, List.setIfInBounds_toArray, List.set_cons_zero, List.set_cons_succ]
                        refine wpAnyG_take (v := ?_) 10 (by rfl) (by kernel_rfl) (by kernel_rfl) (by kernel_rfl) (by kernel_rfl) (fun _ _ _ h => h) (Or.inl ⟨by rfl, ?_⟩) (by assumption) ?_
                        rotate_left
                        · (intro w' hSw; (try dsimp only at hSw); (try simp only [List.getElem_toArray, List.getElem_cons_succ, List.getElem_cons_zero]); go_simp; try (with_reducible rfl))
                        simp only [Act.put, List.getElem_toArray, List.getElem_cons_succ, List.getElem_cons_zero, List.setIfInBounds_toArray, List.set_cons_zero, List.set_cons_succ]
                        refine wpAnyG_take (v := ?_) 11 (by rfl) (by kernel_rfl) (by kernel_rfl) (by kernel_rfl) (by kernel_rfl) (fun _ _ _ h => h) (Or.inl ⟨by rfl, ?_⟩) (by assumption) ?_
                        rotate_left
                        · (intro w' hSw; (try dsimp only at hSw); (try simp only [List.getElem_toArray, List.getElem_cons_succ, List.getElem_cons_zero]); go_simp; try (with_reducible rfl))
                        simp only [Act.put, List.getElem_toArray, List.getElem_cons_succ, List.getElem_cons_zero, List.setIfInBounds_toArray, List.set_cons_zero, List.set_cons_succ]
                        refine wpAnyG_take (v := ?_) 12 (by rfl) (by kernel_rfl) (by kernel_rfl) (by kernel_rfl) (by kernel_rfl) (fun _ _ _ h => h) (Or.inl ⟨by rfl, ?_⟩) (by assumption) ?_
                        rotate_left
                        · (intro w' hSw; (try dsimp only at hSw); (try simp only [List.getElem_toArray, List.getElem_cons_succ, List.getElem_cons_zero]); go_simp; try (with_reducible rfl))
                        simp only [Act.put, List.getElem_toArray, List.getElem_cons_succ, List.getElem_cons_zero, List.setIfInBounds_toArray, List.set_cons_zero, List.set_cons_succ]
                        refine wpAnyG_take (v := ?_) 13 (by rfl) (by kernel_rfl) (by kernel_rfl) (by kernel_rfl) (by kernel_rfl) (fun _ _ _ h => h) (Or.inl ⟨by rfl, ?_⟩) (by assumption) ?_
                        rotate_left
                        · (intro w' hSw; (try dsimp only at hSw); (try simp only [List.getElem_toArray, List.getElem_cons_succ, List.getElem_cons_zero]); go_simp; try (with_reducible rfl))
                        simp only [Act.put, List.getElem_toArray, List.getElem_cons_succ, List.getElem_cons_zero, List.setIfInBounds_toArray, List.set_cons_zero, List.set_cons_succ]
                        refine wpAnyG_take (v := ?_) 14 (by rfl) (by kernel_rfl) (by kernel_rfl) (by kernel_rfl) (by kernel_rfl) (fun _ _ _ h => h) (Or.inl ⟨by rfl, ?_⟩) (by assumption) ?_
                        rotate_left
                        · (intro w' hSw; (try dsimp only at hSw); (try simp only [List.getElem_toArray, List.getElem_cons_succ, List.getElem_cons_zero]); go_simp; try (with_reducible rfl))
                        simp only [Act.put, List.getElem_toArray, List.getElem_cons_succ, List.getElem_cons_zero, List.setIfInBounds_toArray, List.set_cons_zero, List.set_cons_succ]
                        refine wpAnyG_take (v := ?_) 15 (by rfl) (by kernel_rfl) (by kernel_rfl) (by kernel_rfl) (by kernel_rfl) (fun _ _ _ h => h) (Or.inl ⟨by rfl, ?_⟩) (by assumption) ?_
                        rotate_left
                        · (intro w' hSw; (try dsimp only at hSw); (try simp only [List.getElem_toArray, List.getElem_cons_succ, List.getElem_cons_zero]); go_simp; try (with_reducible rfl))
                        simp only [Act.put, List.getElem_toArray, List.getElem_cons_succ, List.getElem_cons_zero, List.setIfInBounds_toArray, List.set_cons_zero, List.set_cons_succ]
                        refine wpAnyG_take (v := ?_) 16 (by rfl) (by kernel_rfl) (by kernel_rfl) (by kernel_rfl) (by kernel_rfl) (fun _ _ _ h => h) (Or.inl ⟨by rfl, ?_⟩) (by assumption) ?_
                        rotate_left
                        · (intro w' hSw; (try dsimp only at hSw); (try simp only [List.getElem_toArray, List.getElem_cons_succ, List.getElem_cons_zero]); go_simp; try (with_reducible rfl))
                        simp only [Act.put, List.getElem_toArray, List.getElem_cons_succ, List.getElem_cons_zero, List.setIfInBounds_toArray, List.set_cons_zero, List.set_cons_succ]
                        refine wpAnyG_take (v := ?_) 17 (by rfl) (by kernel_rfl) (by kernel_rfl) (by kernel_rfl) (by kernel_rfl) (fun _ _ _ h => h) (Or.inl ⟨by rfl, ?_⟩) (by assumption) ?_
                        rotate_left
                        · (intro w' hSw; (try dsimp only at hSw); (try simp only [List.getElem_toArray, List.getElem_cons_succ, List.getElem_cons_zero]); go_simp; try (with_reducible rfl))
                        simp only [Act.put, List.getElem_toArray, List.getElem_cons_succ, List.getElem_cons_zero, List.setIfInBounds_toArray, List.set_cons_zero, List.set_cons_succ]
                        refine wpAnyG_take (v := ?_) 18 (by rfl) (by kernel_rfl) (by kernel_rfl) (by kernel_rfl) (by kernel_rfl) (fun _ _ _ h => h) (Or.inl ⟨by rfl, ?_⟩) (by assumption) ?_
                        rotate_left
                        · (intro w' hSw; (try dsimp only at hSw); (try simp only [List.getElem_toArray, List.getElem_cons_succ, List.getElem_cons_zero]); go_simp; try (with_reducible rfl))
                        simp only [Act.put, List.getElem_toArray, List.getElem_cons_succ, List.getElem_cons_zero, List.setIfInBounds_toArray, List.set_cons_zero, List.set_cons_succ]
                        refine wpAnyG_take (v := ?_) 19 (by rfl) (by kernel_rfl) (by kernel_rfl) (by kernel_rfl) (by kernel_rfl) (fun _ _ _ h => h) (Or.inl ⟨by rfl, ?_⟩) (by assumption) ?_
                        rotate_left
                        · (intro w' hSw; (try dsimp only at hSw); (try simp only [List.getElem_toArray, List.getElem_cons_succ, List.getElem_cons_zero]); go_simp; try (with_reducible rfl))
                        simp only [Act.put, List.getElem_toArray, List.getElem_cons_succ, List.getElem_cons_zero, List.setIfInBounds_toArray, List.set_cons_zero, List.set_cons_succ]
                        refine wpAnyG_take (v := ?_) 20 (by rfl) (by kernel_rfl) (by kernel_rfl) (by kernel_rfl) (by kernel_rfl) (fun _ _ _ h => h) (Or.inl ⟨by rfl, ?_⟩) (by assumption) ?_
                        rotate_left
                        · (intro w' hSw; (try dsimp only at hSw); (try simp only [List.getElem_toArray, List.getElem_cons_succ, List.getElem_cons_zero]); go_simp; try (with_reducible rfl))
                        simp only [Act.put, List.getElem_toArray, List.getElem_cons_succ, List.getElem_cons_zero, List.setIfInBounds_toArray, List.set_cons_zero, List.set_cons_succ]
                        refine wpAnyG_take (v := ?_) 21 (by rfl) (by kernel_rfl) (by kernel_rfl) (by kernel_rfl) (by kernel_rfl) (fun _ _ _ h => h) (Or.inl ⟨by rfl, ?_⟩) (by assumption) ?_
                        rotate_left
                        · (intro w' hSw; (try dsimp only at hSw); (try simp only [List.getElem_toArray, List.getElem_cons_succ, List.getElem_cons_zero]); go_simp; try (with_reducible rfl))
                        simp only [Act.put, List.getElem_toArray, List.getElem_cons_succ, List.getElem_cons_zero, List.setIfInBounds_toArray, List.set_cons_zero, List.set_cons_succ]
                        refine wpAnyG_take (v := ?_) 22 (by rfl) (by kernel_rfl) (by kernel_rfl) (by kernel_rfl) (by kernel_rfl) (fun _ _ _ h => h) (Or.inl ⟨by rfl, ?_⟩) (by assumption) ?_
                        rotate_left
                        · (intro w' hSw; (try dsimp only at hSw); (try simp only [List.getElem_toArray, List.getElem_cons_succ, List.getElem_cons_zero]); go_simp; try (with_reducible rfl))
                        simp only [Act.put, List.getElem_toArray, List.getElem_cons_succ, List.getElem_cons_zero, List.setIfInBounds_toArray, List.set_cons_zero, List.set_cons_succ]
                        refine wpAnyG_take (v := ?_) 23 (by rfl) (by kernel_rfl) (by kernel_rfl) (by kernel_rfl) (by kernel_rfl) (fun _ _ _ h => h) (Or.inl ⟨by rfl, ?_⟩) (by assumption) ?_
                        rotate_left
                        · (intro w' hSw; (try dsimp only at hSw); (try simp only [List.getElem_toArray, List.getElem_cons_succ, List.getElem_cons_zero]); go_simp; try (with_reducible rfl))
                        simp only [Act.put, List.getElem_toArray, List.getElem_cons_succ, List.getElem_cons_zero, List.setIfInBounds_toArray, List.set_cons_zero, List.set_cons_succ]
                        refine wpAnyG_take (v := ?_) 24 (by rfl) (by kernel_rfl) (by kernel_rfl) (by kernel_rfl) (by kernel_rfl) (fun _ _ _ h => h) (Or.inl ⟨by rfl, ?_⟩) (by assumption) ?_
                        rotate_left
                        · (intro w' hSw; (try dsimp only at hSw); (try simp only [List.getElem_toArray, List.getElem_cons_succ, List.getElem_cons_zero]); go_simp; try (with_reducible rfl))
                        simp only [Act.put, List.getElem_toArray, List.getElem_cons_succ, List.getElem_cons_zero, List.setIfInBounds_toArray, List.set_cons_zero, List.set_cons_succ]
                        refine wpAnyG_ready [25] (by kernel_rfl) (by simp) ?_
                        refine AllReadyG.cons 25 (by rfl) (fun K hK => ?_) ?_
                        · simp only [List.getElem_toArray, List.getElem_cons_succ, List.getElem_cons_zero]
                          go_simp
                          refine hK.out _ _ (unhide HRD _ hbq) (fun _ => ?_)
                          clear hK K
                          try simp only [Act.put, List.setIfInBounds_toArray, List.set_cons_zero, List.set_cons_succ]
                          refine wpAnyG_ready [26] (by kernel_rfl) (by simp) ?_
                          refine AllReadyG.last 26 (by rfl) (by kernel_rfl) (fun K hK => ?_) ?_
                          · simp only [List.getElem_toArray, List.getElem_cons_succ, List.getElem_cons_zero]
                            go_simp
                            refine hK.out _ _ ?_
                            clear hK K
                            try simp only [Act.put, List.setIfInBounds_toArray, List.set_cons_zero, List.set_cons_succ]
                            refine wpAnyG_done (by kernel_rfl) ?_ _
                            refine NoPanic.normal ?_
                            go_wp2
                            all_goals
                              go_roundg g3
                              case rel => exact ⟨k + 1, _, by omega, by go_num, HU2, HF⟩
                              case measure => omega
                          exact AllReadyG.nil
                        exact AllReadyG.nil
                  · have HU2 := hide ((unhide HU).skip (fun h => absurd h hf))
                    have hfb : (((L.getD k Sp.arc0).f : Int) == (i : Int)) = false := beq_eq_false_iff_ne.2 (by omega)
                    generalize L.getD k Sp.arc0 = a at *
                    clear hcx HC hlowi e2
                    go_wp2
                    go_roundg g3
                    case rel => exact ⟨k + 1, D, by omega, by go_num, HU2, HI⟩
                    case measure => omega
                | zero =>
                  obtain rfl : k = n := by omega
                  have hkk : ¬ (k : Int) < (k : Int) := by omega
                  have HU3 : Hid (Sp.Up6 L N (i + 1) 0 D) := hide (Sp.Up6.next (by rw [unhide HNl]; exact unhide HU))
                  clear HU
                  go_wp2
                  go_roundg gi
                  case rel => exact ⟨i + 1, D, by omega, by go_num, HU3, HI⟩
                  case measure => omega
            | zero =>
              obtain rfl : i = N := by omega
              have hii : ¬ (i : Int) < (i : Int) := by omega
              obtain ⟨hS, hSb⟩ := Sp.Up6.end_ (unhide HRs) hN1 (by omega) (unhide HU)
              have hL0 : ∀ a ∈ L, a.f < i ∧ a.t < i := fun a ha => by have := (unhide HRs).at_ a ha; omega
              have hex := Sp.Short.ex hL0 hN1 hS hSb
              have hAy := any_yes i L 0 _ wr (unhide HA wr (unhide HI).1) (unhide HRs).snd hN1 (by omega) hex
              have HAy := hide hAy
              have HSS := hide (And.intro hS hex)
              clear hS hSb hL0 hex hAy HU
              go_wp2_with fail
              go_at_call 10
              refine (unhide HAy).mono ?_
              rintro e w6 ⟨G6, D6, rfl, hG6, hr6, hb6, hD6⟩
              have H6 := hide (And.intro ((unhide HI).1.trans (Bt.of hb6)) ((unhide HI).2.below hb6))
              have hI0 : Calls Try.prog 11 #[.slice (some ⟨G6, 0, none⟩) i i, .slice (some ⟨G, 0, none⟩) i i] w6 fun e w' => e = .returned (.bool true) ∧ Below w6.heap.size w6 w' := by
                refine (ints6_any _ _ _ _ w6 (hr6.ints (by omega)) ((unhide H6).2.ints (by omega)) (by simp; omega)).mono ?_
                rintro e w' ⟨rfl, hb⟩
                have he : (List.range i).map D6 = (List.range i).map D := List.map_congr_left fun v hv => hD6.uniq (unhide HSS).1 (by decide) (List.mem_range.1 hv)
                rw [he]
                exact ⟨by simp, hb⟩
              have HIc := hide hI0
              clear hI0 hG6 hr6 hb6 hD6 HAy HI
              go_wp2_with fail
              go_at_call 11
              refine (unhide HIc).mono ?_
              rintro e w7 ⟨rfl, hb7⟩
              have H7 := hide (And.intro ((unhide H6).1.trans (Bt.of hb7)) ((unhide H6).2.below hb7))
              have hR0 : Calls Try.prog 12 #[.int .i64 (i : Int), .slice ra n rc, .int .i64 0, .slice (some ⟨G, 0, none⟩) i i] w7 fun e w' => e = .returned (.bool true) ∧ Below w7.heap.size w7 w' := by
                have h := right_yes i L 0 ((List.range i).map D) _ _ w7 (unhide HA w7 (unhide H7).1) ((unhide H7).2.ints (by omega)) (by simp; omega) (unhide HRs).snd hN1 (by omega) (unhide HSS).2
                refine h.mono ?_
                rintro e w' ⟨hb, D2, b, rfl, h1, rfl⟩
                have he : (List.range i).map D = (List.range i).map D2 := List.map_congr_left fun v hv => (unhide HSS).1.uniq h1 (by decide) (List.mem_range.1 hv)
                rw [he]
                exact ⟨by simp, hb⟩
              have HRc := hide hR0
              clear hb7 hR0 HIc H6
              go_wp2_with fail
              go_at_call 12
              refine (unhide HRc).mono ?_
              rintro e w8 ⟨rfl, hb8⟩
              have HE := hide (unhide HB4 _ ((unhide H7).1.trans (Bt.of hb8)))
              clear hb8
              go_wp2
              rw [unhide HP]
              exact ⟨rfl, unhide HE⟩
end Go.Proofs.Ytlmlibhkloingab


