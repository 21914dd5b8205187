/- What the proof needs, part 11. -/
import Derived.Test.YtggjpglakocilaaL10
/- The law PathWays, walked. -/
namespace Go.Proofs.Ytggjpglakocilaa
open Go Go.RowKit

set_option maxRecDepth 100000 in
set_option maxHeartbeats 16000000 in
theorem pathWays_any (size s t : Int) (ns : List Int) (nv : Value) (w : World) (hv : Ints w nv ns) :
    Calls Try.prog 6 #[.int .i64 size, nv, .int .i64 s, .int .i64 t] w fun e w' => e = .returned (.bool true) ∧ Below w.heap.size w w' := by
  have HK := hide (known6_any w)
  have HN0 := hide (fun w' => within6_any size 14 w' (by omega) (by omega))
  have hm0 : 0 ≤ size % 14 := Int.emod_nonneg _ (by omega)
  have hm1 : size % 14 < 14 := Int.emod_lt_of_pos _ (by omega)
  obtain ⟨N, hN⟩ : ∃ N : Nat, 1 + size % 14 = (N : Int) := ⟨(1 + size % 14).toNat, by omega⟩
  have hN1 : 0 < N := by omega
  have hN2 : N ≤ 14 + 1 - 1 := by omega
  have HAr := hide (fun w' (hb : Below w.heap.size w w') => arcs_any N ns 0 nv w' (hv.below hb) hN1 (by omega) (by omega) (by omega))
  have HSn : Hid (Sp.Snd N (Sp.arcsOf N ns 0 50) ∧ ∀ a ∈ Sp.arcsOf N ns 0 50, 0 ≤ a.l) := hide ⟨Sp.arcsOf_snd hN1 ns (by omega) (by omega), Sp.arcsOf_pos N ns 50⟩
  have HLn : Hid ((Sp.arcsOf N ns 0 50).length ≤ 50) := hide (by rw [Sp.arcsOf_len]; omega)
  obtain ⟨L, hL⟩ : ∃ L, Sp.arcsOf N ns 0 50 = L := ⟨_, rfl⟩
  rw [hL] at HSn HLn
  simp only [hL] at HAr
  generalize size % 14 = sz at *
  obtain ⟨na, nc, rfl, -, -⟩ := hv.form
  obtain ⟨P, hP⟩ : ∃ P : Ending → World → Prop, P = fun e w' => e = .returned (.bool true) ∧ Below w.heap.size w w' := ⟨_, rfl⟩
  rw [← hP]
  have HP := hide hP
  clear hP
  go_enter Try.func6, Try.ntmps6
  go_wp2_with fail
  go_at_call 9
  refine (unhide HK).mono ?_
  rintro e w1 ⟨rfl, hb1⟩
  have HB1 := hide hb1
  clear hb1 HK
  go_wp2_with fail
  go_at_call 10
  refine (unhide HN0 w1).mono ?_
  rintro e wz ⟨rfl, hwz⟩
  have hwz' := hwz.symm
  subst hwz'
  clear hwz
  clear HN0
  go_wp2_with fail
  go_at_call 11
  refine (unhide HAr _ (unhide HB1)).mono ?_
  rintro e w3 ⟨lv, rfl, ho3, hb3⟩
  have hwb3 := (unhide HB1).trans (hb3.mono (unhide HB1).size)
  have hal3 := ho3.arcs
  obtain ⟨la, lc, rfl, -⟩ := hal3.form
  have HA3 : Hid (∀ w', Below w3.heap.size w3 w' → ArcsI w' (.slice la L.length lc) L ∧ Below w.heap.size w w') := hide fun w' hb => ⟨hal3.below hb, hwb3.trans (hb.mono hwb3.size)⟩
  have HNN := hide hN
  have hln := unhide HLn
  clear hN HAr ho3 hb3 hwb3 hal3 HB1 hL
  have hx0 : 0 ≤ s % (N : Int) := Int.emod_nonneg _ (by omega)
  have hx1 : s % (N : Int) < (N : Int) := Int.emod_lt_of_pos _ (by omega)
  obtain ⟨x, hx⟩ : ∃ x : Nat, s % (N : Int) = (x : Int) := ⟨(s % (N : Int)).toNat, by omega⟩
  have hxN : x < N := by omega
  have hxI : (x : Int) < (N : Int) := by omega
  have HWtx : Hid (∀ w', Calls Try.prog 10 #[.int .i64 s, .int .i64 (N : Int)] w' fun e w'' => e = .returned (.int .i64 (x : Int)) ∧ w'' = w') := hide (fun w' => by rw [← hx]; exact within6_any s (N : Int) w' (by omega) (by omega))
  clear hx0 hx1 hx
  have hz0 : 0 ≤ t % (N : Int) := Int.emod_nonneg _ (by omega)
  have hz1 : t % (N : Int) < (N : Int) := Int.emod_lt_of_pos _ (by omega)
  obtain ⟨z, hz⟩ : ∃ z : Nat, t % (N : Int) = (z : Int) := ⟨(t % (N : Int)).toNat, by omega⟩
  have hzN : z < N := by omega
  have hzI : (z : Int) < (N : Int) := by omega
  have HWtz : Hid (∀ w', Calls Try.prog 10 #[.int .i64 t, .int .i64 (N : Int)] w' fun e w'' => e = .returned (.int .i64 (z : Int)) ∧ w'' = w') := hide (fun w' => by rw [← hz]; exact within6_any t (N : Int) w' (by omega) (by omega))
  clear hz0 hz1 hz
  go_wp2_with fail
  go_at_call 10
  refine (unhide HWtx _).mono ?_
  rintro e wz ⟨rfl, hwz⟩
  have hwz' := hwz.symm
  subst hwz'
  clear hwz
  go_wp2_with fail
  go_at_call 10
  refine (unhide HWtz _).mono ?_
  rintro e wz ⟨rfl, hwz⟩
  have hwz' := hwz.symm
  subst hwz'
  clear hwz
  clear HWtx HWtz
  have hW0 : Calls Try.prog 20 #[.int .i64 (N : Int), .slice la L.length lc, .int .i64 (x : Int), .int .i64 (z : Int)] w3 fun e w' => ∃ rv W b c, e = .returned (.tuple #[rv, .bool b]) ∧ Ints w' rv (W.map fun i : Nat => (i : Int)) ∧ W.length ≤ 100 ∧ Below w3.heap.size w3 w' ∧ Sp.Tow L z N c ∧ ((b = false ∧ W = [] ∧ c (x * 2) = 1152921504606846976) ∨ (b = true ∧ c (x * 2) ≠ 1152921504606846976 ∧ Sp.WayIs L c z x W)) := by
    refine (way_any6 N L x z _ w3 (unhide HA3 w3 (Below.refl _ _)).1 (unhide HSn).1 (unhide HSn).2 hxN hzN (by omega)).mono ?_
    rintro e w' ⟨hb, c, hT, ⟨hf, rfl⟩ | ⟨hf, rv, W, rfl, ho, hl, hw⟩⟩
    · exact ⟨_, [], _, c, rfl, OwnI.ints (World.ownsRow_nil w' 0 _ _), by simp, hb, hT, .inl ⟨rfl, rfl, hf⟩⟩
    · exact ⟨_, W, _, c, rfl, OwnI.ints ho, hl, hb, hT, .inr ⟨rfl, hf, hw⟩⟩
  have HW := hide hW0
  clear hW0
  go_wp2_with fail
  go_at_call 20
  refine (unhide HW).mono ?_
  rintro e w5 ⟨rv, W, wb, c, rfl, hi5, hl5, hb5, hT, hWay⟩
  have hR0 : Calls Try.prog 21 #[.int .i64 (N : Int), .slice la L.length lc, .int .i64 (x : Int), .int .i64 (z : Int)] w5 fun e w' => ∃ rv', e = .returned (.tuple #[rv', .bool wb]) ∧ Ints w' rv' (W.map fun i : Nat => (i : Int)) ∧ Below w5.heap.size w5 w' := by
    refine (rway_any6 N L x z c _ w5 (unhide HA3 w5 hb5).1 (unhide HSn).1 (unhide HSn).2 hxN hzN (by omega) hT).mono ?_
    rintro e w' ⟨hb, ⟨hf, rfl⟩ | ⟨hf, rv', W', rfl, ho, -, hw⟩⟩
    · rcases hWay with ⟨rfl, rfl, -⟩ | ⟨-, h, -⟩
      · exact ⟨_, rfl, OwnI.ints (World.ownsRow_nil w' 0 _ _), hb⟩
      · exact absurd hf h
    · rcases hWay with ⟨-, -, h⟩ | ⟨rfl, -, h⟩
      · exact absurd h hf
      · obtain rfl := Sp.WayIs.uniq (fun _ _ => rfl) W W' x h hw
        exact ⟨_, rfl, OwnI.ints ho, hb⟩
  have HRw := hide hR0
  obtain ⟨ra, rc, hrv, -, -, HRa⟩ := hi5.allA
  rw [List.length_map] at hrv HRa
  subst hrv
  have H5 := hide (And.intro hb5 (And.intro hi5 (And.intro hT hWay)))
  have hwbb : (wb != wb) = false := by simp
  clear hR0 hi5 hb5 hT hWay HW
  go_wp2_with fail
  go_at_call 21
  refine (unhide HRw).mono ?_
  rintro e w6 ⟨rv', rfl, hi6, hb6⟩
  have hI0 : Calls Try.prog 13 #[.slice ra W.length rc, rv'] w6 fun e w' => e = .returned (.bool true) ∧ Below w6.heap.size w6 w' := by
    refine (ints6_any _ _ _ _ w6 ((unhide H5).2.1.below hb6) hi6 (by rw [List.length_map]; omega)).mono ?_
    rintro e w' ⟨rfl, hb⟩
    exact ⟨by simp, hb⟩
  have HI0 := hide hI0
  have HB6 := hide (And.intro hb6 ((unhide H5).1.trans (hb6.mono (unhide H5).1.size)))
  obtain ⟨ra', rc', hrv', -⟩ := hi6.form
  rw [List.length_map] at hrv'
  subst hrv'
  clear hI0 hi6 hb6 HRw
  go_wp2_with fail
  go_at_call 13
  refine (unhide HI0).mono ?_
  rintro e w7 ⟨rfl, hb7⟩
  have HB7 := hide (And.intro ((unhide HB6).1.trans (hb7.mono (unhide HB6).1.size)) ((unhide HB6).2.trans (hb7.mono (unhide HB6).2.size)))
  have HFr := hide (from_any N L x _ w7 (unhide HA3 w7 (unhide HB7).2).1 (unhide HSn).1 (unhide HSn).2 hxN (by omega))
  clear hb7 HI0 HB6
  go_wp2_with fail
  go_at_call 12
  refine (unhide HFr).mono ?_
  rintro e w8 ⟨G, D, rfl, hG, hr8, hb8, hD, hDb⟩
  have HDE := hide (And.intro hD hDb)
  have H8 := hide (And.intro ((unhide HB7).2.trans (hb8.mono (unhide HB7).2.size)) hr8)
  have HRa8 : Hid (∀ i, i < W.length → ∃ b o, ra = some ⟨b, o, none⟩ ∧ w8.cell? ⟨b, o + i, none⟩ = some (.int .i64 ((W.getD i 0 : Nat) : Int))) := hide fun i hi => by
    obtain ⟨b, o, e, -, h⟩ := unhide HRa i hi
    have h2 := h w8 ((unhide HB7).1.trans (hb8.mono (unhide HB7).1.size))
    have e2 : (W.map fun i : Nat => (i : Int)).getD i 0 = ((W.getD i 0 : Nat) : Int) := by
      rw [List.getD_eq_getElem?_getD, List.getD_eq_getElem?_getD, List.getElem?_map, List.getElem?_eq_getElem hi]; rfl
    rw [e2] at h2
    exact ⟨b, o, e, h2⟩
  have HT := hide (unhide H5).2.2.1
  have HWay0 : Hid ((wb = false ∧ W = []) ∨ (wb = true ∧ Sp.WayIs L c z x (W.drop 0) ∧ Sp.OnWay L c D x N x 0)) := hide (by
    rw [List.drop_zero]
    rcases (unhide H5).2.2.2 with ⟨h1, h2, -⟩ | ⟨h1, h2, h3⟩
    · exact .inl ⟨h1, h2⟩
    · exact .inr ⟨h1, h3, Sp.OnWay.start hD hxN h2⟩)
  have HFal : Hid (wb = false → D z = 1152921504606846976) := hide fun e => by
    rcases (unhide H5).2.2.2 with ⟨-, -, h3⟩ | ⟨h1, -, -⟩
    · by_cases e2 : D z = 1152921504606846976
      · exact e2
      · obtain ⟨m, hm⟩ := hD.att z hzN e2
        have h4 := (unhide HT).walk (by omega) (fun a ha => ⟨((unhide HSn).1.at_ a ha).1, ((unhide HSn).1.at_ a ha).2.1⟩) hzN m z _ hm (by rw [((unhide HT).root hzN).1]; decide)
        exact absurd h3 h4.1
    · rw [e] at h1; cases h1
  have hnn : ((N : Int) != (N : Int)) = false := by simp
  clear hG hr8 hb8 hD hDb HFr HB7 H5 HRa
  go_wp2
  go_loopg [18, 19, 20] W.length (fun g s18 s19 s20 wr => ∃ (i v : Nat) (sm : Int), i + g = W.length ∧ s18 = .int .i64 sm ∧ s19 = .int .i64 (v : Int) ∧ s20 = .int .i64 (i : Int) ∧ Hid ((wb = false ∧ W = []) ∨ (wb = true ∧ Sp.WayIs L c z v (W.drop i) ∧ Sp.OnWay L c D x N v sm)) ∧ wr = w8)
  case atStart => exact ⟨0, x, 0, by omega, rfl, rfl, rfl, HWay0, rfl⟩
  case round =>
    clear HWay0
    obtain ⟨i, v, sm, hig, rfl, rfl, rfl, HV, hwr⟩ := hrel
    subst hwr
    by_cases hi : i < W.length
    · obtain ⟨g2, rfl⟩ : ∃ g2, gk = g2 + 1 := ⟨gk - 1, by omega⟩
      have hiI : (i : Int) < (W.length : Int) := by omega
      obtain ⟨b, o, rfl, c1⟩ := unhide HRa8 i hi
      have hdr : W.drop i = W.getD i 0 :: W.drop (i + 1) := by
        rw [List.drop_eq_getElem_cons hi, List.getD_eq_getElem?_getD, List.getElem?_eq_getElem hi]; rfl
      obtain ⟨hwb, hw, hon⟩ := (unhide HV).resolve_left (fun e => by rw [e.2] at hi; simp at hi)
      rw [hdr] at hw
      obtain ⟨hvy, hk, htt, -, hw2⟩ := hw
      have hLb : ∀ a ∈ L, a.f < N ∧ a.t < N ∧ 0 ≤ a.l ∧ a.l ≤ 1099511627776 := fun a ha => ⟨((unhide HSn).1.at_ a ha).1, ((unhide HSn).1.at_ a ha).2.1, (unhide HSn).2 a ha, ((unhide HSn).1.at_ a ha).2.2.2⟩
      have hst := hon.step (unhide HT) (unhide HDE).1 hLb (by omega) hk htt
      have heq := hon.eq (unhide HT) (unhide HDE).1 (by omega) (fun a ha => ⟨(hLb a ha).1, (hLb a ha).2.1⟩) hzN
      have hvN := hon.lt
      have hs0 : 0 ≤ sm := by rw [← heq]; exact (unhide HDE).1.pos (unhide HSn).2 hvN
      have hs1 : sm ≤ 1152921504606846976 := by have := (unhide HDE).2 v hvN hon.got; omega
      have hfv := (Sp.tt_iff.1 htt).1
      obtain ⟨hfN, htN, hl0, hl1⟩ := hLb _ (Sp.arc_mem hk)
      obtain ⟨a, c', e, -, -, HC⟩ := (unhide HA3 wr (unhide H8).1).1.all
      injection e with e1 e2 e3
      subst e1 e3
      obtain ⟨b2, o2, rfl, hb2, hcx2⟩ := unhide HC (W.getD i 0) hk
      obtain ⟨d1, d2, d3⟩ := hcx2 wr (Below.refl _ _)
      have HV2 := hide (And.intro hwb (And.intro hw2 hst))
      have hki : ((W.getD i 0 : Nat) : Int) < (L.length : Int) := by omega
      have hkd : decide (L.length ≤ W.getD i 0) = false := decide_eq_false (by omega)
      have hk0 : ¬ ((W.getD i 0 : Nat) : Int) < 0 := by omega
      generalize L.getD (W.getD i 0) Sp.arc0 = a at *
      obtain ⟨f, q, l⟩ := a
      simp only at d1 d2 d3 hfN htN hl0 hl1 HV2 hfv
      subst hfv
      generalize W.getD i 0 = j at *
      have hfb : ((f : Int) != (f : Int)) = false := by simp
      clear HV hon hw2 hst heq hcx2 HC hdr htt hLb e2 hvy hk hwb
      go_wp2
      go_roundg g2
      case rel => exact ⟨i + 1, q, sm + l, by omega, by go_num, rfl, by go_num, hide (.inr (unhide HV2)), rfl⟩
      case measure => omega
    · obtain rfl : i = W.length := by omega
      have hiI : ¬ ((W.length : Nat) : Int) < (W.length : Int) := by omega
      have k1 := (unhide H8).2.cell hzN
      have HE := hide (unhide HA3 _ (unhide H8).1).2
      rcases unhide HV with ⟨hwb, hW⟩ | ⟨hwb, hw, hon⟩
      · have hDz := unhide HFal hwb
        rw [hDz] at k1
        subst hwb
        clear HFal HV hDz
        go_wp2
        rw [unhide HP]
        exact ⟨rfl, unhide HE⟩
      · rw [List.drop_length] at hw
        have hvz : v = z := hw
        subst hvz
        have heq := hon.eq (unhide HT) (unhide HDE).1 (by omega) (fun a ha => ⟨((unhide HSn).1.at_ a ha).1, ((unhide HSn).1.at_ a ha).2.1⟩) hzN
        have hgot := hon.got
        rw [heq] at k1 hgot
        have hgb : (sm != 1152921504606846976) = true := bne_iff_ne.2 hgot
        have hss : (sm == sm) = true := by simp
        have hvv : ((v : Int) == (v : Int)) = true := by simp
        subst hwb
        clear HFal HV hon heq hw
        go_wp2
        rw [unhide HP]
        exact ⟨rfl, unhide HE⟩
end Go.Proofs.Ytggjpglakocilaa


