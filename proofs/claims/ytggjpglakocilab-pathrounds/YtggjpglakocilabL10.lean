/- What the proof needs, part 10. -/
import Derived.Test.YtggjpglakocilabL9
/- The law PathRounds, walked. -/
namespace Go.Proofs.Ytggjpglakocilab
open Go Go.RowKit

set_option maxRecDepth 100000 in
set_option maxHeartbeats 16000000 in
theorem pathRounds_any (size k low : Int) (ns : List Int) (nv : Value) (w : World) (hv : Ints w nv ns) :
    Calls Try.prog 3 #[.int .i64 size, nv, .int .i64 k, .int .i64 low] w fun e w' => e = .returned (.bool true) ∧ Below w.heap.size w w' := by
  have HK := hide (known6_any w)
  have HN0 := hide (fun w' => within6_any size 9 w' (by omega) (by omega))
  have hm0 : 0 ≤ size % 9 := Int.emod_nonneg _ (by omega)
  have hm1 : size % 9 < 9 := Int.emod_lt_of_pos _ (by omega)
  obtain ⟨N, hN⟩ : ∃ N : Nat, 1 + size % 9 = (N : Int) := ⟨(1 + size % 9).toNat, by omega⟩
  have hN1 : 0 < N := by omega
  have hN2 : N ≤ 9 + 1 - 1 := by omega
  obtain ⟨M, hM⟩ : ∃ M : Nat, M = N + 2 := ⟨_, rfl⟩
  obtain ⟨N1, hN1e⟩ : ∃ N1 : Nat, N1 = N + 1 := ⟨_, rfl⟩
  have hM3 : 3 + size % 9 = (M : Int) := by omega
  have hMN : (M : Int) - 2 = (N : Int) := by omega
  have hMN1 : (M : Int) - 1 = (N1 : Int) := by omega
  have hA0 : 0 ≤ low % 9 := Int.emod_nonneg _ (by omega)
  have hA9 : low % 9 < 9 := Int.emod_lt_of_pos _ (by omega)
  obtain ⟨A, hA⟩ : ∃ A : Int, 1 + low % 9 = A := ⟨_, rfl⟩
  have HWl := hide (fun w' => within6_any low 9 w' (by omega) (by omega))
  generalize low % 9 = lw at *
  have hA1 : 0 < A := by omega
  have hA2 : A ≤ 9 := by omega
  have hk0 : 0 ≤ k % 2 := Int.emod_nonneg _ (by omega)
  have hk1 : k % 2 < 2 := Int.emod_lt_of_pos _ (by omega)
  obtain ⟨p, hp⟩ : ∃ p : Nat, (N1 : Int) - k % 2 = (p : Int) := ⟨((N1 : Int) - k % 2).toNat, by omega⟩
  have HWk := hide (fun w' => within6_any k 2 w' (by omega) (by omega))
  have hpM : p < M := by omega
  have hpN : p = N ∨ p = N + 1 := by omega
  generalize k % 2 = kk at *
  have hkk : 0 ≤ kk ∧ kk < 2 := ⟨hk0, hk1⟩
  have HAr := hide (fun w' (hb : Below w.heap.size w w') => arcs_any N ns 0 nv w' (hv.below hb) hN1 (by omega) (by omega) (by omega))
  have HSn : Hid (Sp.Snd N (Sp.arcsOf N ns 0 50) ∧ ∀ a ∈ Sp.arcsOf N ns 0 50, 0 ≤ a.l) := hide ⟨Sp.arcsOf_snd hN1 ns (by omega) (by omega), Sp.arcsOf_pos N ns 50⟩
  have HLn : Hid ((Sp.arcsOf N ns 0 50).length ≤ 50) := hide (by rw [Sp.arcsOf_len]; omega)
  obtain ⟨L, hL⟩ : ∃ L, Sp.arcsOf N ns 0 50 = L := ⟨_, rfl⟩
  rw [hL] at HSn HLn
  simp only [hL] at HAr
  generalize size % 9 = sz at *
  have HNN := hide (And.intro hM hN1e)
  obtain ⟨M1, hM1⟩ : ∃ M1, M1 = L ++ [(⟨N, N1, 3⟩ : Sp.Arc), ⟨N1, N, -3 - A⟩] := ⟨_, rfl⟩
  obtain ⟨M2, hM2⟩ : ∃ M2, M2 = M1 ++ [(⟨0, p, 100⟩ : Sp.Arc)] := ⟨_, rfl⟩
  have hl1 : M1.length = L.length + 2 := by rw [hM1]; simp
  have hl2 : M2.length = L.length + 3 := by rw [hM2, List.length_append, hl1]; rfl
  have hMb : M ≤ 20 := by omega
  have HY : Hid (∀ w' lv, ArcsI w' lv M1 → Calls Try.prog 10 #[.int .i64 (M : Int), lv, .int .i64 0] w' fun e w'' => ∃ G D, e = .returned (.tuple #[.slice (some ⟨G, 0, none⟩) M M, .slice none 0 0, .bool true]) ∧ RowAt w'' G M D ∧ Below w'.heap.size w' w'' ∧ D N = 1152921504606846976 ∧ D N1 = 1152921504606846976) := hide fun w' lv hl => by
    subst hM hN1e
    obtain ⟨hS, hpos⟩ := unhide HSn
    have hL' : ∀ x ∈ L, x.f < N ∧ x.t < N := fun x hx => ⟨(hS.at_ x hx).1, (hS.at_ x hx).2.1⟩
    have hS1 : Sp.Snd (N + 2) M1 := by rw [hM1]; exact Sp.rl1_snd hS (unhide HLn) hA1 hA2
    rcases Sp.pk_case hS1 (s := 0) (by omega) (by omega) with hex | ⟨hno, -⟩
    · refine (any_yes (N + 2) M1 0 lv w' hl hS1 (by omega) (by omega) hex).mono ?_
      rintro e w'' ⟨G, D, rfl, -, hr, hb, hD⟩
      rw [hM1] at hD
      have hfar := Sp.rl1_far hL' hN1 hD
      exact ⟨G, D, rfl, hr, hb, hfar N (by omega) (by omega), hfar (N + 1) (by omega) (by omega)⟩
    · exfalso
      obtain ⟨q, K, hR⟩ := Sp.rnd_ex hS1 (by omega) (by omega) hno
      rw [hM1] at hR
      exact Sp.rl1_no hL' hpos hN1 hR
  have HZ : Hid (∀ w' lv, ArcsI w' lv M2 → Calls Try.prog 10 #[.int .i64 (M : Int), lv, .int .i64 0] w' fun e w'' => ∃ rv k0 k1, e = .returned (.tuple #[.slice none 0 0, rv, .bool false]) ∧ Below w'.heap.size w' w'' ∧ Ints w'' rv [((k0 : Nat) : Int), ((k1 : Nat) : Int)] ∧ L.length ≤ k0 ∧ L.length ≤ k1 ∧ k0 ≠ k1) := hide fun w' lv hl => by
    subst hM hN1e
    obtain ⟨hS, hpos⟩ := unhide HSn
    have hL' : ∀ x ∈ L, x.f < N ∧ x.t < N := fun x hx => ⟨(hS.at_ x hx).1, (hS.at_ x hx).2.1⟩
    have hS2 : Sp.Snd (N + 2) M2 := by rw [hM2, hM1]; exact Sp.rl2_snd hS (unhide HLn) hA1 hA2 hpM
    rcases Sp.pk_case hS2 (s := 0) (by omega) (by omega) with ⟨D, hD, -⟩ | ⟨hno, -⟩
    · exfalso
      rw [hM2, hM1] at hD
      exact Sp.rl2_no hA1 hpN hD
    · refine (any_rnd (N + 2) M2 0 lv w' hl hS2 (by omega) (by omega) hno).mono ?_
      rintro e w'' ⟨rv, q, K, rfl, hb, hR, hi⟩
      rw [hM2, hM1] at hR
      obtain ⟨rfl, hK⟩ := Sp.rl2_two hL' hpos hN1 hR
      exact ⟨rv, K 0, K 1, rfl, hb, hi, by omega, by omega, by omega⟩
  have HM1 := hide hM1
  have HM2 := hide hM2
  clear hM1 hM2 hM hN1e hpN
  obtain ⟨na, nc, rfl, -, -⟩ := hv.form
  obtain ⟨P, hP⟩ : ∃ P : Ending → World → Prop, P = fun e w' => e = .returned (.bool true) ∧ Below w.heap.size w w' := ⟨_, rfl⟩
  rw [← hP]
  have HP := hide hP
  clear hP
  go_enter Try.func3, Try.ntmps3
  go_wp2_with fail
  go_at_call 7
  refine (unhide HK).mono ?_
  rintro e w1 ⟨rfl, hb1⟩
  have HB1 := hide hb1
  clear hb1 HK
  go_wp2_with fail
  go_at_call 8
  refine (unhide HN0 w1).mono ?_
  rintro e wz ⟨rfl, hwz⟩
  have hwz' := hwz.symm
  subst hwz'
  clear hwz
  clear HN0
  go_wp2_with fail
  go_at_call 9
  refine (unhide HAr _ (unhide HB1)).mono ?_
  rintro e w3 ⟨lv, rfl, ho3, hb3⟩
  have hwb3 := (unhide HB1).trans (hb3.mono (unhide HB1).size)
  have hal3 := ho3.arcs
  obtain ⟨la, lc, rfl, -⟩ := hal3.form
  have HA3 : Hid (∀ w', Below w3.heap.size w3 w' → ArcsI w' (.slice la L.length lc) L ∧ Below w.heap.size w w') := hide fun w' hb => ⟨hal3.below hb, hwb3.trans (hb.mono hwb3.size)⟩
  have HNN := hide hN
  have hln := unhide HLn
  clear hN HAr ho3 hb3 hwb3 hal3 HB1 hL HSn
  go_wp2_with fail
  go_at_call 8
  refine (unhide HWl _).mono ?_
  rintro e wz ⟨rfl, hwz⟩
  have hwz' := hwz.symm
  subst hwz'
  clear hwz
  clear HWl
  have hb3 := Below.refl w3.heap.size w3
  have hba := Below.alloc hb3 hb3.size (.cells #[] 28)
  have own0 : OwnA (w3.alloc (.cells #[] 28)) w3.heap.size (.slice (some ⟨w3.heap.size, 0, none⟩) 0 0) [] := World.ownsRow_made w3 #[] 0 hb3.size (by simp [maxLen]) rfl
  have HOw := hide (And.intro own0 (And.intro (unhide HA3 _ hba).1 hba))
  clear own0 hba hb3
  go_wp2_with (at_builtin; refine wpList_appA (w := w3.alloc (.cells #[] 28)) rfl _ _ rfl w3.heap.size _ _ [] L rfl rfl (unhide HOw).1 (unhide HOw).2.1 L.length (Nat.zero_add _) (by omega) (unhide HOw).2.2.size ?_)
  intro a2 c2 wx own2 hg2 ho2
  have hb4 : Below w3.heap.size w3 wx := Below.grown (unhide HOw).2.2 hg2 (unhide HOw).2.2.size (fun g hg => (OwnA.lt (unhide HOw).1 g hg).1)
  have hbl := Below.alloc hb4 hb4.size (.cells #[.int .i64 (N : Int), .int .i64 (N1 : Int), .int .i64 3, .int .i64 (N1 : Int), .int .i64 (N : Int), .int .i64 (-3 - A)] 28)
  have lit0 : OwnA (wx.alloc (.cells #[.int .i64 (N : Int), .int .i64 (N1 : Int), .int .i64 3, .int .i64 (N1 : Int), .int .i64 (N : Int), .int .i64 (-3 - A)] 28)) w3.heap.size (.slice (some ⟨wx.heap.size, 0, none⟩) 2 2) [(⟨N, N1, 3⟩ : Sp.Arc), ⟨N1, N, -3 - A⟩] := own_litA wx w3.heap.size _ 2 [(⟨N, N1, 3⟩ : Sp.Arc), ⟨N1, N, -3 - A⟩] _ rfl rfl rfl hb4.size (by simp)
  have HOx := hide (And.intro (OwnA.alloc own2 (.cells #[.int .i64 (N : Int), .int .i64 (N1 : Int), .int .i64 3, .int .i64 (N1 : Int), .int .i64 (N : Int), .int .i64 (-3 - A)] 28)) (And.intro (OwnA.arcs lit0) hbl))
  clear hb4 hbl lit0 own2 hg2 ho2 HOw
  go_wp2_with (at_builtin; refine wpList_appA (w := wx.alloc (.cells #[.int .i64 (N : Int), .int .i64 (N1 : Int), .int .i64 3, .int .i64 (N1 : Int), .int .i64 (N : Int), .int .i64 (-3 - A)] 28)) rfl _ _ rfl w3.heap.size _ _ L [(⟨N, N1, 3⟩ : Sp.Arc), ⟨N1, N, -3 - A⟩] rfl rfl (unhide HOx).1 (unhide HOx).2.1 (L.length + 2) (by simp) (by omega) (unhide HOx).2.2.size ?_)
  intro ma mc w4 own3 hg3 ho3
  have hbm : Below w3.heap.size w3 w4 := Below.grown (unhide HOx).2.2 hg3 (unhide HOx).2.2.size (fun g hg => (OwnA.lt (unhide HOx).1 g hg).1)
  rw [← unhide HM1] at own3
  have H4 := hide (And.intro hbm own3)
  clear hbm own3 hg3 ho3 HOx
  have HW3 : Hid (∀ w', Below w3.heap.size w3 w' → Below w.heap.size w w') := hide fun w' hb => (unhide HA3 w' hb).2
  have hm4 := (unhide H4).2.arcs
  have HC4 := hide (unhide HY w4 _ hm4)
  clear hm4
  go_wp2_with fail
  go_at_call 10
  refine (unhide HC4).mono ?_
  rintro e w5 ⟨G, D, rfl, hr5, hb5, hd0, hd1⟩
  have k0 := hr5.cell (j := N) (by omega)
  have k1 := hr5.cell (j := N1) (by omega)
  rw [hd0] at k0
  rw [hd1] at k1
  have HB5 := hide ((unhide H4).1.trans (hb5.mono (unhide H4).1.size))
  have HO5 := hide (OwnA.below (unhide H4).2 hb5)
  have hNI : (N : Int) < (M : Int) := by omega
  have hN1I : (N1 : Int) < (M : Int) := by omega
  have hmm : ((M : Int) != (M : Int)) = false := by simp
  clear hr5 hb5 hd0 hd1 HC4 HY HA3 H4
  have HB5b := hide (And.intro (unhide HB5) (unhide HO5))
  go_wp2_with fail
  go_at_call 8
  refine (unhide HWk _).mono ?_
  rintro e wz ⟨rfl, hwz⟩
  have hwz' := hwz.symm
  subst hwz'
  clear hwz
  clear HWk
  have hom := OwnA.alloc (unhide HO5) (.cells #[.int .i64 0, .int .i64 (p : Int), .int .i64 100] 28)
  have hbl := Below.alloc (unhide HB5) (unhide HB5).size (.cells #[.int .i64 0, .int .i64 (p : Int), .int .i64 100] 28)
  have lit0 : OwnA (w5.alloc (.cells #[.int .i64 0, .int .i64 (p : Int), .int .i64 100] 28)) w3.heap.size (.slice (some ⟨w5.heap.size, 0, none⟩) 1 1) [(⟨0, p, 100⟩ : Sp.Arc)] := own_litA w5 w3.heap.size _ 1 [(⟨0, p, 100⟩ : Sp.Arc)] _ rfl rfl rfl (unhide HB5).size (by simp)
  have HOy := hide (And.intro hom (And.intro (OwnA.arcs lit0) hbl))
  clear hom hbl lit0 HB5 HO5 k0 k1
  go_wp2_with (at_builtin; refine wpList_appA (w := w5.alloc (.cells #[.int .i64 0, .int .i64 (p : Int), .int .i64 100] 28)) rfl _ _ rfl w3.heap.size _ _ M1 [(⟨0, p, 100⟩ : Sp.Arc)] rfl rfl (unhide HOy).1 (unhide HOy).2.1 (L.length + 3) (by rw [hl1]; rfl) (by omega) (unhide HOy).2.2.size ?_)
  intro na6 nc6 w6 own6 hg6 ho6
  have hb6 : Below w3.heap.size w3 w6 := Below.grown (unhide HOy).2.2 hg6 (unhide HOy).2.2.size (fun g hg => (OwnA.lt (unhide HOy).1 g hg).1)
  rw [← unhide HM2] at own6
  have H6 := hide (And.intro hb6 own6)
  clear hb6 own6 hg6 ho6 HOy
  have HC6 := hide (unhide HZ w6 _ (unhide H6).2.arcs)
  go_wp2_with fail
  go_at_call 10
  refine (unhide HC6).mono ?_
  rintro e w7 ⟨rv, k0, k1, rfl, hb7, hi7, h0, h1, h2⟩
  obtain ⟨ra, rc, rfl, -, -, HU⟩ := hi7.allA
  obtain ⟨rb, ro, rfl, -, u0⟩ := unhide HU 0 (by simp)
  obtain ⟨rb', ro', hre, -, u1⟩ := unhide HU 1 (by simp)
  injection hre with hre
  injection hre with hre1 hre2
  subst hre1 hre2
  have HRD : Hid (∀ w', Below w7.heap.size w7 w' → w'.cell? ⟨rb, ro, none⟩ = some (.int .i64 (k0 : Int)) ∧ w'.cell? ⟨rb, ro + 1, none⟩ = some (.int .i64 (k1 : Int))) := hide fun w' hb => ⟨u0 w' hb, u1 w' hb⟩
  have HB7 := hide ((unhide H6).1.trans (hb7.mono (unhide H6).1.size))
  have g0 : (k0 : Int) ≥ (L.length : Int) := by omega
  have g1 : (k1 : Int) ≥ (L.length : Int) := by omega
  have g0d : decide (L.length ≤ k0) = true := decide_eq_true h0
  have g1d : decide (L.length ≤ k1) = true := decide_eq_true h1
  have gne : ((k0 : Int) != (k1 : Int)) = true := bne_iff_ne.2 (by omega)
  simp only [List.length_cons, List.length_nil, Nat.zero_add, Nat.reduceAdd]
  clear hi7 HU u0 u1 hb7 HC6 HZ H6 h0 h1 h2
  go_upto_region 12 with fail
  have hbq := (Below.refl w7.heap.size w7).drew
  refine wp_region_G (fun w' => w'.cell? ⟨rb, ro, none⟩ = some (.int .i64 (k0 : Int)) ∧ w'.cell? ⟨rb, ro + 1, none⟩ = some (.int .i64 (k1 : Int))) (fun _ => false) (by kernel_rfl) (unhide HRD _ hbq) (fun hHeld => ?_)
  generalize w7.drew = wq at *
  refine wpAnyG_take (v := ?_) 0 (by rfl) (by kernel_rfl) (by kernel_rfl) (by kernel_rfl) (by kernel_rfl) (fun _ _ _ h => h) (Or.inl ⟨by rfl, ?_⟩) (by assumption) ?_
  rotate_left
  · (intro w' hSw; (try dsimp only at hSw); (try simp only [List.getElem_toArray, List.getElem_cons_zero]); go_simp; try (with_reducible rfl))
  simp only [Act.put, List.getElem_toArray, List.getElem_cons_zero, List.setIfInBounds_toArray, List.set_cons_zero, List.set_cons_succ]
  refine wpAnyG_take (v := ?_) 1 (by rfl) (by kernel_rfl) (by kernel_rfl) (by kernel_rfl) (by kernel_rfl) (fun _ _ _ h => h) (Or.inl ⟨by rfl, ?_⟩) (by assumption) ?_
  rotate_left
  · (intro w' hSw; (try dsimp only at hSw); (try simp only [List.getElem_toArray, List.getElem_cons_succ, List.getElem_cons_zero]); go_simp; try (with_reducible rfl))
  simp only [Act.put, List.getElem_toArray, List.getElem_cons_succ, List.getElem_cons_zero, List.setIfInBounds_toArray, List.set_cons_zero, List.set_cons_succ]
  refine wpAnyG_take (v := ?_) 2 (by rfl) (by kernel_rfl) (by kernel_rfl) (by kernel_rfl) (by kernel_rfl) (fun _ _ _ h => h) (Or.inl ⟨by rfl, ?_⟩) (by assumption) ?_
  rotate_left
  · (intro w' hSw; (try dsimp only at hSw); (try simp only [List.getElem_toArray, List.getElem_cons_succ, List.getElem_cons_zero]); go_simp; try (with_reducible rfl))
  simp only [Act.put, List.getElem_toArray, List.getElem_cons_succ, List.getElem_cons_zero, List.setIfInBounds_toArray, List.set_cons_zero, List.set_cons_succ]
  refine wpAnyG_take (v := ?_) 3 (by rfl) (by kernel_rfl) (by kernel_rfl) (by kernel_rfl) (by kernel_rfl) (fun _ _ _ h => h) (Or.inl ⟨by rfl, ?_⟩) (by assumption) ?_
  rotate_left
  · (intro w' hSw; (try dsimp only at hSw); (try simp only [List.getElem_toArray, List.getElem_cons_succ, List.getElem_cons_zero]); go_simp; try (with_reducible rfl))
  simp only [Act.put, List.getElem_toArray, List.getElem_cons_succ, List.getElem_cons_zero, List.setIfInBounds_toArray, List.set_cons_zero, List.set_cons_succ]
  refine wpAnyG_take (v := ?_) 4 (by rfl) (by kernel_rfl) (by kernel_rfl) (by kernel_rfl) (by kernel_rfl) (fun _ _ _ h => h) (Or.inl ⟨by rfl, ?_⟩) (by assumption) ?_
  rotate_left
  · (intro w' hSw; (try dsimp only at hSw); (try simp only [List.getElem_toArray, List.getElem_cons_succ, List.getElem_cons_zero]); go_simp; try (with_reducible rfl))
  simp only [Act.put, List.getElem_toArray, List.getElem_cons_succ, List.getElem_cons_zero, List.setIfInBounds_toArray, List.set_cons_zero, List.set_cons_succ]
  refine wpAnyG_take (v := ?_) 5 (by rfl) (by kernel_rfl) (by kernel_rfl) (by kernel_rfl) (by kernel_rfl) (fun _ _ _ h => h) (Or.inl ⟨by rfl, ?_⟩) (by assumption) ?_
  rotate_left
  · (intro w' hSw; (try dsimp only at hSw); (try simp only [List.getElem_toArray, List.getElem_cons_succ, List.getElem_cons_zero]); go_simp; try (with_reducible rfl))
  simp only [Act.put, List.getElem_toArray, List.getElem_cons_succ, List.getElem_cons_zero, List.setIfInBounds_toArray, List.set_cons_zero, List.set_cons_succ]
  refine wpAnyG_take (v := ?_) 6 (by rfl) (by kernel_rfl) (by kernel_rfl) (by kernel_rfl) (by kernel_rfl) (fun _ _ _ h => h) (Or.inl ⟨by rfl, ?_⟩) (by assumption) ?_
  rotate_left
  · (intro w' hSw; (try dsimp only at hSw); (try simp only [List.getElem_toArray, List.getElem_cons_succ, List.getElem_cons_zero]); go_simp; try (with_reducible rfl))
  simp only [Act.put, List.getElem_toArray, List.getElem_cons_succ, List.getElem_cons_zero, List.setIfInBounds_toArray, List.set_cons_zero, List.set_cons_succ]
  refine wpAnyG_take (v := ?_) 7 (by rfl) (by kernel_rfl) (by kernel_rfl) (by kernel_rfl) (by kernel_rfl) (fun _ _ _ h => h) (Or.inl ⟨by rfl, ?_⟩) (by assumption) ?_
  rotate_left
  · (intro w' hSw; (try dsimp only at hSw); (try simp only [List.getElem_toArray, List.getElem_cons_succ, List.getElem_cons_zero]); go_simp; try (with_reducible rfl))
  simp only [Act.put, List.getElem_toArray, List.getElem_cons_succ, List.getElem_cons_zero, List.setIfInBounds_toArray, List.set_cons_zero, List.set_cons_succ]
  refine wpAnyG_take (v := ?_) 8 (by rfl) (by kernel_rfl) (by kernel_rfl) (by kernel_rfl) (by kernel_rfl) (fun _ _ _ h => h) (Or.inl ⟨by rfl, ?_⟩) (by assumption) ?_
  rotate_left
  · (intro w' hSw; (try dsimp only at hSw); (try simp only [List.getElem_toArray, List.getElem_cons_succ, List.getElem_cons_zero]); go_simp; try (with_reducible rfl))
  simp only [Act.put, List.getElem_toArray, List.getElem_cons_succ, List.getElem_cons_zero, List.setIfInBounds_toArray, List.set_cons_zero, List.set_cons_succ]
  refine wpAnyG_take (v := ?_) 9 (by rfl) (by kernel_rfl) (by kernel_rfl) (by kernel_rfl) (by kernel_rfl) (fun _ _ _ h => h) (Or.inl ⟨by rfl, ?_⟩) (by assumption) ?_
  rotate_left
  · (intro w' hSw; (try dsimp only at hSw); (try simp only [List.getElem_toArray, List.getElem_cons_succ, List.getElem_cons_zero]); go_simp; try (with_reducible rfl))
  simp only [Act.put, List.getElem_toArray, List.getElem_cons_succ, List.getElem_cons_zero, List.setIfInBounds_toArray, List.set_cons_zero, List.set_cons_succ]
  refine wpAnyG_take (v := ?_) 10 (by rfl) (by kernel_rfl) (by kernel_rfl) (by kernel_rfl) (by kernel_rfl) (fun _ _ _ h => h) (Or.inl ⟨by rfl, ?_⟩) (by assumption) ?_
  rotate_left
  · (intro w' hSw; (try dsimp only at hSw); (try simp only [List.getElem_toArray, List.getElem_cons_succ, List.getElem_cons_zero]); go_simp; try (with_reducible rfl))
  simp only [Act.put, List.getElem_toArray, List.getElem_cons_succ, List.getElem_cons_zero, List.setIfInBounds_toArray, List.set_cons_zero, List.set_cons_succ]
  refine wpAnyG_take (v := ?_) 11 (by rfl) (by kernel_rfl) (by kernel_rfl) (by kernel_rfl) (by kernel_rfl) (fun _ _ _ h => h) (Or.inl ⟨by rfl, ?_⟩) (by assumption) ?_
  rotate_left
  · (intro w' hSw; (try dsimp only at hSw); (try simp only [List.getElem_toArray, List.getElem_cons_succ, List.getElem_cons_zero]); go_simp; try (with_reducible rfl))
  simp only [Act.put, List.getElem_toArray, List.getElem_cons_succ, List.getElem_cons_zero, List.setIfInBounds_toArray, List.set_cons_zero, List.set_cons_succ]
  refine wpAnyG_take (v := ?_) 12 (by rfl) (by kernel_rfl) (by kernel_rfl) (by kernel_rfl) (by kernel_rfl) (fun _ _ _ h => h) (Or.inl ⟨by rfl, ?_⟩) (by assumption) ?_
  rotate_left
  · (intro w' hSw; (try dsimp only at hSw); (try simp only [List.getElem_toArray, List.getElem_cons_succ, List.getElem_cons_zero]); go_simp; try (with_reducible rfl))
  simp only [Act.put, List.getElem_toArray, List.getElem_cons_succ, List.getElem_cons_zero, List.setIfInBounds_toArray, List.set_cons_zero, List.set_cons_succ]
  refine wpAnyG_take (v := ?_) 13 (by rfl) (by kernel_rfl) (by kernel_rfl) (by kernel_rfl) (by kernel_rfl) (fun _ _ _ h => h) (Or.inl ⟨by rfl, ?_⟩) (by assumption) ?_
  rotate_left
  · (intro w' hSw; (try dsimp only at hSw); (try simp only [List.getElem_toArray, List.getElem_cons_succ, List.getElem_cons_zero]); go_simp; try (with_reducible rfl))
  simp only [Act.put, List.getElem_toArray, List.getElem_cons_succ, List.getElem_cons_zero, List.setIfInBounds_toArray, List.set_cons_zero, List.set_cons_succ]
  refine wpAnyG_take (v := ?_) 14 (by rfl) (by kernel_rfl) (by kernel_rfl) (by kernel_rfl) (by kernel_rfl) (fun _ _ _ h => h) (Or.inl ⟨by rfl, ?_⟩) (by assumption) ?_
  rotate_left
  · (intro w' hSw; (try dsimp only at hSw); (try simp only [List.getElem_toArray, List.getElem_cons_succ, List.getElem_cons_zero]); go_simp; try (with_reducible rfl))
  simp only [Act.put, List.getElem_toArray, List.getElem_cons_succ, List.getElem_cons_zero, List.setIfInBounds_toArray, List.set_cons_zero, List.set_cons_succ]
  refine wpAnyG_take (v := ?_) 15 (by rfl) (by kernel_rfl) (by kernel_rfl) (by kernel_rfl) (by kernel_rfl) (fun _ _ _ h => h) (Or.inl ⟨by rfl, ?_⟩) (by assumption) ?_
  rotate_left
  · (intro w' hSw; (try dsimp only at hSw); (try simp only [List.getElem_toArray, List.getElem_cons_succ, List.getElem_cons_zero]); go_simp; try (with_reducible rfl))
  simp only [Act.put, List.getElem_toArray, List.getElem_cons_succ, List.getElem_cons_zero, List.setIfInBounds_toArray, List.set_cons_zero, List.set_cons_succ]
  refine wpAnyG_take (v := ?_) 16 (by rfl) (by kernel_rfl) (by kernel_rfl) (by kernel_rfl) (by kernel_rfl) (fun _ _ _ h => h) (Or.inl ⟨by rfl, ?_⟩) (by assumption) ?_
  rotate_left
  · (intro w' hSw; (try dsimp only at hSw); (try simp only [List.getElem_toArray, List.getElem_cons_succ, List.getElem_cons_zero]); go_simp; try (with_reducible rfl))
  simp only [Act.put, List.getElem_toArray, List.getElem_cons_succ, List.getElem_cons_zero, List.setIfInBounds_toArray, List.set_cons_zero, List.set_cons_succ]
  refine wpAnyG_take (v := ?_) 17 (by rfl) (by kernel_rfl) (by kernel_rfl) (by kernel_rfl) (by kernel_rfl) (fun _ _ _ h => h) (Or.inl ⟨by rfl, ?_⟩) (by assumption) ?_
  rotate_left
  · (intro w' hSw; (try dsimp only at hSw); (try simp only [List.getElem_toArray, List.getElem_cons_succ, List.getElem_cons_zero]); go_simp; try (with_reducible rfl))
  simp only [Act.put, List.getElem_toArray, List.getElem_cons_succ, List.getElem_cons_zero, List.setIfInBounds_toArray, List.set_cons_zero, List.set_cons_succ]
  refine wpAnyG_take (v := ?_) 18 (by rfl) (by kernel_rfl) (by kernel_rfl) (by kernel_rfl) (by kernel_rfl) (fun _ _ _ h => h) (Or.inl ⟨by rfl, ?_⟩) (by assumption) ?_
  rotate_left
  · (intro w' hSw; (try dsimp only at hSw); (try simp only [List.getElem_toArray, List.getElem_cons_succ, List.getElem_cons_zero]); go_simp; try (with_reducible rfl))
  simp only [Act.put, List.getElem_toArray, List.getElem_cons_succ, List.getElem_cons_zero, List.setIfInBounds_toArray, List.set_cons_zero, List.set_cons_succ]
  refine wpAnyG_take (v := ?_) 19 (by rfl) (by kernel_rfl) (by kernel_rfl) (by kernel_rfl) (by kernel_rfl) (fun _ _ _ h => h) (Or.inl ⟨by rfl, ?_⟩) (by assumption) ?_
  rotate_left
  · (intro w' hSw; (try dsimp only at hSw); (try simp only [List.getElem_toArray, List.getElem_cons_succ, List.getElem_cons_zero]); go_simp; try (with_reducible rfl))
  simp only [Act.put, List.getElem_toArray, List.getElem_cons_succ, List.getElem_cons_zero, List.setIfInBounds_toArray, List.set_cons_zero, List.set_cons_succ]
  refine wpAnyG_take (v := ?_) 20 (by rfl) (by kernel_rfl) (by kernel_rfl) (by kernel_rfl) (by kernel_rfl) (fun _ _ _ h => h) (Or.inl ⟨by rfl, ?_⟩) (by assumption) ?_
  rotate_left
  · (intro w' hSw; (try dsimp only at hSw); (try simp only [List.getElem_toArray, List.getElem_cons_succ, List.getElem_cons_zero]); go_simp; try (with_reducible rfl))
  simp only [Act.put, List.getElem_toArray, List.getElem_cons_succ, List.getElem_cons_zero, List.setIfInBounds_toArray, List.set_cons_zero, List.set_cons_succ]
  refine wpAnyG_take (v := ?_) 21 (by rfl) (by kernel_rfl) (by kernel_rfl) (by kernel_rfl) (by kernel_rfl) (fun _ _ _ h => h) (Or.inl ⟨by rfl, ?_⟩) (by assumption) ?_
  rotate_left
  · (intro w' hSw; (try dsimp only at hSw); (try simp only [List.getElem_toArray, List.getElem_cons_succ, List.getElem_cons_zero]); go_simp; try (with_reducible rfl))
  simp only [Act.put, List.getElem_toArray, List.getElem_cons_succ, List.getElem_cons_zero, List.setIfInBounds_toArray, List.set_cons_zero, List.set_cons_succ]
  refine wpAnyG_take (v := ?_) 22 (by rfl) (by kernel_rfl) (by kernel_rfl) (by kernel_rfl) (by kernel_rfl) (fun _ _ _ h => h) (Or.inl ⟨by rfl, ?_⟩) (by assumption) ?_
  rotate_left
  · (intro w' hSw; (try dsimp only at hSw); (try simp only [List.getElem_toArray, List.getElem_cons_succ, List.getElem_cons_zero]); go_simp; try (with_reducible rfl))
  simp only [Act.put, List.getElem_toArray, List.getElem_cons_succ, List.getElem_cons_zero, List.setIfInBounds_toArray, List.set_cons_zero, List.set_cons_succ]
  refine wpAnyG_take (v := ?_) 23 (by rfl) (by kernel_rfl) (by kernel_rfl) (by kernel_rfl) (by kernel_rfl) (fun _ _ _ h => h) (Or.inl ⟨by rfl, ?_⟩) (by assumption) ?_
  rotate_left
  · (intro w' hSw; (try dsimp only at hSw); (try simp only [List.getElem_toArray, List.getElem_cons_succ, List.getElem_cons_zero]); go_simp; try (with_reducible rfl))
  simp only [Act.put, List.getElem_toArray, List.getElem_cons_succ, List.getElem_cons_zero, List.setIfInBounds_toArray, List.set_cons_zero, List.set_cons_succ]
  refine wpAnyG_take (v := ?_) 24 (by rfl) (by kernel_rfl) (by kernel_rfl) (by kernel_rfl) (by kernel_rfl) (fun _ _ _ h => h) (Or.inl ⟨by rfl, ?_⟩) (by assumption) ?_
  rotate_left
  · (intro w' hSw; (try dsimp only at hSw); (try simp only [List.getElem_toArray, List.getElem_cons_succ, List.getElem_cons_zero]); go_simp; try (with_reducible rfl))
  simp only [Act.put, List.getElem_toArray, List.getElem_cons_succ, List.getElem_cons_zero, List.setIfInBounds_toArray, List.set_cons_zero, List.set_cons_succ]
  refine wpAnyG_take (v := ?_) 25 (by rfl) (by kernel_rfl) (by kernel_rfl) (by kernel_rfl) (by kernel_rfl) (fun _ _ _ h => h) (Or.inl ⟨by rfl, ?_⟩) (by assumption) ?_
  rotate_left
  · (intro w' hSw; (try dsimp only at hSw); (try simp only [List.getElem_toArray, List.getElem_cons_succ, List.getElem_cons_zero]); go_simp; try (with_reducible rfl))
  simp only [Act.put, List.getElem_toArray, List.getElem_cons_succ, List.getElem_cons_zero, List.setIfInBounds_toArray, List.set_cons_zero, List.set_cons_succ]
  refine wpAnyG_take (v := ?_) 26 (by rfl) (by kernel_rfl) (by kernel_rfl) (by kernel_rfl) (by kernel_rfl) (fun _ _ _ h => h) (Or.inl ⟨by rfl, ?_⟩) (by assumption) ?_
  rotate_left
  · (intro w' hSw; (try dsimp only at hSw); (try simp only [List.getElem_toArray, List.getElem_cons_succ, List.getElem_cons_zero]); go_simp; try (with_reducible rfl))
  simp only [Act.put, List.getElem_toArray, List.getElem_cons_succ, List.getElem_cons_zero, List.setIfInBounds_toArray, List.set_cons_zero, List.set_cons_succ]
  refine wpAnyG_take (v := ?_) 27 (by rfl) (by kernel_rfl) (by kernel_rfl) (by kernel_rfl) (by kernel_rfl) (fun _ _ _ h => h) (Or.inl ⟨by rfl, ?_⟩) (by assumption) ?_
  rotate_left
  · (intro w' hSw; (try dsimp only at hSw); (try simp only [List.getElem_toArray, List.getElem_cons_succ, List.getElem_cons_zero]); go_simp; try (with_reducible rfl))
  simp only [Act.put, List.getElem_toArray, List.getElem_cons_succ, List.getElem_cons_zero, List.setIfInBounds_toArray, List.set_cons_zero, List.set_cons_succ]
  refine wpAnyG_take (v := ?_) 28 (by rfl) (by kernel_rfl) (by kernel_rfl) (by kernel_rfl) (by kernel_rfl) (fun _ _ _ h => h) (Or.inl ⟨by rfl, ?_⟩) (by assumption) ?_
  rotate_left
  · (intro w' hSw; (try dsimp only at hSw); (try simp only [List.getElem_toArray, List.getElem_cons_succ, List.getElem_cons_zero]); go_simp; try (with_reducible rfl))
  simp only [Act.put, List.getElem_toArray, List.getElem_cons_succ, List.getElem_cons_zero, List.setIfInBounds_toArray, List.set_cons_zero, List.set_cons_succ]
  refine wpAnyG_take (v := ?_) 29 (by rfl) (by kernel_rfl) (by kernel_rfl) (by kernel_rfl) (by kernel_rfl) (fun _ _ _ h => h) (Or.inl ⟨by rfl, ?_⟩) (by assumption) ?_
  rotate_left
  · (intro w' hSw; (try dsimp only at hSw); (try simp only [List.getElem_toArray, List.getElem_cons_succ, List.getElem_cons_zero]); go_simp; try (with_reducible rfl))
  simp only [Act.put, List.getElem_toArray, List.getElem_cons_succ, List.getElem_cons_zero, List.setIfInBounds_toArray, List.set_cons_zero, List.set_cons_succ]
  refine wpAnyG_take (v := ?_) 30 (by rfl) (by kernel_rfl) (by kernel_rfl) (by kernel_rfl) (by kernel_rfl) (fun _ _ _ h => h) (Or.inl ⟨by rfl, ?_⟩) (by assumption) ?_
  rotate_left
  · (intro w' hSw; (try dsimp only at hSw); (try simp only [List.getElem_toArray, List.getElem_cons_succ, List.getElem_cons_zero]); go_simp; try (with_reducible rfl))
  simp only [Act.put, List.getElem_toArray, List.getElem_cons_succ, List.getElem_cons_zero, List.setIfInBounds_toArray, List.set_cons_zero, List.set_cons_succ]
  refine wpAnyG_take (v := ?_) 31 (by rfl) (by kernel_rfl) (by kernel_rfl) (by kernel_rfl) (by kernel_rfl) (fun _ _ _ h => h) (Or.inl ⟨by rfl, ?_⟩) (by assumption) ?_
  rotate_left
  · (intro w' hSw; (try dsimp only at hSw); (try simp only [List.getElem_toArray, List.getElem_cons_succ, List.getElem_cons_zero]); go_simp; try (with_reducible rfl))
  simp only [Act.put, List.getElem_toArray, List.getElem_cons_succ, List.getElem_cons_zero, List.setIfInBounds_toArray, List.set_cons_zero, List.set_cons_succ]
  refine wpAnyG_take (v := ?_) 32 (by rfl) (by kernel_rfl) (by kernel_rfl) (by kernel_rfl) (by kernel_rfl) (fun _ _ _ h => h) (Or.inl ⟨by rfl, ?_⟩) (by assumption) ?_
  rotate_left
  · (intro w' hSw; (try dsimp only at hSw); (try simp only [List.getElem_toArray, List.getElem_cons_succ, List.getElem_cons_zero]); go_simp; try (with_reducible rfl))
  simp only [Act.put, List.getElem_toArray, List.getElem_cons_succ, List.getElem_cons_zero, List.setIfInBounds_toArray, List.set_cons_zero, List.set_cons_succ]
  refine wpAnyG_take (v := ?_) 33 (by rfl) (by kernel_rfl) (by kernel_rfl) (by kernel_rfl) (by kernel_rfl) (fun _ _ _ h => h) (Or.inl ⟨by rfl, ?_⟩) (by assumption) ?_
  rotate_left
  · (intro w' hSw; (try dsimp only at hSw); (try simp only [List.getElem_toArray, List.getElem_cons_succ, List.getElem_cons_zero]); go_simp; try (with_reducible rfl))
  simp only [Act.put, List.getElem_toArray, List.getElem_cons_succ, List.getElem_cons_zero, List.setIfInBounds_toArray, List.set_cons_zero, List.set_cons_succ]
  refine wpAnyG_take (v := ?_) 34 (by rfl) (by kernel_rfl) (by kernel_rfl) (by kernel_rfl) (by kernel_rfl) (fun _ _ _ h => h) (Or.inl ⟨by rfl, ?_⟩) (by assumption) ?_
  rotate_left
  · (intro w' hSw; (try dsimp only at hSw); (try simp only [List.getElem_toArray, List.getElem_cons_succ, List.getElem_cons_zero]); go_simp; try (with_reducible rfl))
  simp only [Act.put, List.getElem_toArray, List.getElem_cons_succ, List.getElem_cons_zero, List.setIfInBounds_toArray, List.set_cons_zero, List.set_cons_succ]
  refine wpAnyG_take (v := ?_) 35 (by rfl) (by kernel_rfl) (by kernel_rfl) (by kernel_rfl) (by kernel_rfl) (fun _ _ _ h => h) (Or.inl ⟨by rfl, ?_⟩) (by assumption) ?_
  rotate_left
  · (intro w' hSw; (try dsimp only at hSw); (try simp only [List.getElem_toArray, List.getElem_cons_succ, List.getElem_cons_zero]); go_simp; try (with_reducible rfl))
  simp only [Act.put, List.getElem_toArray, List.getElem_cons_succ, List.getElem_cons_zero, List.setIfInBounds_toArray, List.set_cons_zero, List.set_cons_succ]
  refine wpAnyG_take (v := ?_) 36 (by rfl) (by kernel_rfl) (by kernel_rfl) (by kernel_rfl) (by kernel_rfl) (fun _ _ _ h => h) (Or.inl ⟨by rfl, ?_⟩) (by assumption) ?_
  rotate_left
  · (intro w' hSw; (try dsimp only at hSw); (try simp only [List.getElem_toArray, List.getElem_cons_succ, List.getElem_cons_zero]); go_simp; try (with_reducible rfl))
  simp only [Act.put, List.getElem_toArray, List.getElem_cons_succ, List.getElem_cons_zero, List.setIfInBounds_toArray, List.set_cons_zero, List.set_cons_succ]
  refine wpAnyG_take (v := ?_) 37 (by rfl) (by kernel_rfl) (by kernel_rfl) (by kernel_rfl) (by kernel_rfl) (fun _ _ _ h => h) (Or.inl ⟨by rfl, ?_⟩) (by assumption) ?_
  rotate_left
  · (intro w' hSw; (try dsimp only at hSw); (try simp only [List.getElem_toArray, List.getElem_cons_succ, List.getElem_cons_zero]); go_simp; try (with_reducible rfl))
  simp only [Act.put, List.getElem_toArray, List.getElem_cons_succ, List.getElem_cons_zero, List.setIfInBounds_toArray, List.set_cons_zero, List.set_cons_succ]
  refine wpAnyG_done (by kernel_rfl) ?_ _
  refine NoPanic.normal ?_
  clear hHeld
  go_wp2
  rw [unhide HP]
  exact ⟨rfl, unhide HW3 _ ((unhide HB7).trans (hbq.mono (unhide HB7).size))⟩

end Go.Proofs.Ytggjpglakocilab


