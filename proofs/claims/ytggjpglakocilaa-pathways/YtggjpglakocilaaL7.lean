/- What the proof needs, part 7. -/
import Derived.WalkMore
import Derived.Test.YtggjpglakocilaaL6
/- Package path: Way. -/
namespace Go.Proofs.Ytggjpglakocilaa
open Go Go.RowKit

set_option maxRecDepth 100000 in
set_option maxHeartbeats 16000000 in
theorem way_any6 (N : Nat) (L : List Sp.Arc) (s t : Nat) (lv : Value) (w : World) (hl : ArcsI w lv L) (hS : Sp.Snd N L) (hpos : ∀ a ∈ L, 0 ≤ a.l) (hs : s < N) (ht : t < N) (hN : N ≤ 60) :
    Calls Try.prog 20 #[.int .i64 (N : Int), lv, .int .i64 (s : Int), .int .i64 (t : Int)] w fun e w' => Below w.heap.size w w' ∧ ∃ y, Sp.Tow L t N y ∧ ((y (s * 2) = 1152921504606846976 ∧ e = .returned (.tuple #[.slice none 0 0, .bool false])) ∨ (y (s * 2) ≠ 1152921504606846976 ∧ ∃ rv W, e = .returned (.tuple #[rv, .bool true]) ∧ OwnI w' w.heap.size rv (W.map fun i : Nat => (i : Int)) ∧ W.length ≤ 100 ∧ Sp.WayIs L y t s W)) := by
  have hsI : (s : Int) < (N : Int) := by omega
  have htI : (t : Int) < (N : Int) := by omega
  obtain ⟨W1, hW1⟩ : ∃ W1, W1 = w.alloc (.cells #[.int .i64 (s : Int), .int .i64 (t : Int)] 3) := ⟨_, rfl⟩
  have hb1 : Below w.heap.size w W1 := by rw [hW1]; exact (Below.refl _ w).alloc (Nat.le_refl _) _
  have hI1 : Ints W1 (.slice (some ⟨w.heap.size, 0, none⟩) 2 2) [(s : Int), (t : Int)] := by rw [hW1]; exact OwnI.ints (own_lit w 0 _ 2 [(s : Int), (t : Int)] rfl rfl (Nat.zero_le _) (by simp))
  have HC1 := hide (psound_yes N L [(s : Int), (t : Int)] lv _ W1 (hl.below hb1) hI1 (by simp) (by omega) hS (by simp; omega))
  have HC2 : Hid (∀ w', Below w.heap.size w w' → Calls Try.prog 23 #[lv] w' fun e w'' => e = .returned (.bool true) ∧ Below w'.heap.size w' w'') := hide fun w' hb => forward_yes L lv w' (hl.below hb) hS.few hpos
  have HC3 : Hid (∀ w', Below w.heap.size w w' → Calls Try.prog 31 #[lv] w' fun e w'' => ∃ rv, e = .returned rv ∧ OwnA w'' w'.heap.size rv (L.map Sp.sw) ∧ Below w'.heap.size w' w'') := hide fun w' hb => turned_any L lv w' (hl.below hb) hS.few
  have HC4 : Hid (∀ w' rv, ArcsI w' rv (L.map Sp.sw) → Calls Try.prog 24 #[.int .i64 (N : Int), rv, .int .i64 (t : Int)] w' fun e w'' => ∃ y, e = .returned (.slice (some ⟨w'.heap.size + 1, 0, none⟩) N N) ∧ CoAt w'' (w'.heap.size + 1) (N * 2) y ∧ Below w'.heap.size w' w'' ∧ Sp.Short 345876451382054092800 (Sp.pairL 300 (L.map Sp.sw)) t N (Sp.rk y) ∧ Sp.Bd N N y) := hide fun w' rv h => spread_any N _ t rv w' h (Sp.sw_snd hS) (Sp.sw_pos hpos) ht hN
  have HB1 := hide (And.intro hb1 (show w.heap.size ≤ W1.heap.size by rw [hW1]; simp))
  have HL0 : Hid (∀ a ∈ L, a.f < N ∧ a.t < N ∧ 0 ≤ a.l ∧ a.l ≤ 1099511627776) := hide fun a ha => ⟨(hS.at_ a ha).1, (hS.at_ a ha).2.1, hpos a ha, (hS.at_ a ha).2.2.2⟩
  have hfew := hS.few
  obtain ⟨la, lc, rfl, -, -, HA⟩ := hl.all
  obtain ⟨P, hP⟩ : ∃ P : Ending → World → Prop, P = fun e w' => Below w.heap.size w w' ∧ ∃ y, Sp.Tow L t N y ∧ ((y (s * 2) = 1152921504606846976 ∧ e = .returned (.tuple #[.slice none 0 0, .bool false])) ∨ (y (s * 2) ≠ 1152921504606846976 ∧ ∃ rv W, e = .returned (.tuple #[rv, .bool true]) ∧ OwnI w' w.heap.size rv (W.map fun i : Nat => (i : Int)) ∧ W.length ≤ 100 ∧ Sp.WayIs L y t s W)) := ⟨_, rfl⟩
  rw [← hP]
  have HP := hide hP
  clear hP hl hS hpos hb1 hI1
  subst hW1
  go_enter Try.func20, Try.ntmps20
  go_wp2
  go_step3
  go_wp2_with fail
  go_at_call 22
  generalize w.alloc (.cells #[.int .i64 (s : Int), .int .i64 (t : Int)] 3) = W1 at *
  refine (unhide HC1).mono ?_
  rintro e w2 ⟨rfl, hb2⟩
  have hb2' := (unhide HB1).1.trans (hb2.mono (unhide HB1).2)
  have HC2' := hide (unhide HC2 _ hb2')
  have HB2 := hide hb2'
  clear hb2 hb2' HC1 HC2
  go_wp2_with fail
  go_at_call 23
  refine (unhide HC2').mono ?_
  rintro e w3 ⟨rfl, hb3⟩
  have hb3' := (unhide HB2).trans (hb3.mono (unhide HB2).size)
  have HC3' := hide (unhide HC3 _ hb3')
  have HB3 := hide hb3'
  clear hb3 hb3' HB2 HC2' HC3
  go_wp2_with fail
  go_at_call 31
  refine (unhide HC3').mono ?_
  rintro e w4 ⟨rv, rfl, ho4, hb4⟩
  have HB4 := hide ((unhide HB3).trans (hb4.mono (unhide HB3).size))
  have ha4 := ho4.arcs
  have HC4' := hide (unhide HC4 w4 rv ha4)
  obtain ⟨ra, rc, hrv, -⟩ := ha4.form
  rw [List.length_map] at hrv
  subst hrv
  clear ho4 hb4 ha4 HB3 HC3' HC4
  go_wp2_with fail
  go_at_call 24
  refine (unhide HC4').mono ?_
  rintro e w5 ⟨y, rfl, hc5, hb5, hsh, hbd⟩
  have HT : Hid (Sp.Tow L t N y) := hide ⟨hsh, hbd⟩
  have HB5 := hide ((unhide HB4).trans (hb5.mono (unhide HB4).size))
  have HC5 := hide hc5
  have hg5 := hc5.lt
  have HYt := hide ((unhide HT).root ht)
  clear hsh hbd hb5 hc5 HC4' HB4
  obtain ⟨g0, hg0, hg1⟩ := (unhide HT).many hs
  replace hg1 : g0 ≤ 60 := Nat.le_trans hg1 hN
  have HI0 : Hid (Below w5.heap.size w5 w5 ∧ OwnI w5 w5.heap.size (.slice none 0 0) (([] : List Nat).map fun i : Nat => (i : Int))) := hide ⟨Below.refl _ _, World.ownsRow_nil _ _ _ _⟩
  go_wp2
  go_step3
  go_wp2
  go_loopg [11, 12] g0 (fun g s11 s12 wr => ∃ (v : Nat) (W : List Nat), s12 = .int .i64 (v : Int) ∧ v < N ∧ y (v * 2 + 1) = (g : Int) ∧ W.length + g ≤ 60 ∧ Hid ((y (s * 2) = 1152921504606846976 → v = s) ∧ (y (v * 2) = 1152921504606846976 → v = s) ∧ ∀ r, Sp.WayIs L y t v r → Sp.WayIs L y t s (W ++ r)) ∧ Hid (Below w5.heap.size w5 wr ∧ OwnI wr w5.heap.size s11 (W.map fun i : Nat => (i : Int))))
  case atStart => exact ⟨s, [], rfl, hs, hg0, by simp; omega, hide ⟨fun _ => rfl, fun _ => rfl, fun r h => h⟩, HI0⟩
  case round =>
    clear HI0
    rename_i s11 _ _ _ _
    obtain ⟨v, W, rfl, hv, hgv, hWl, HW, HI⟩ := hrel
    obtain ⟨go, rfl⟩ : ∃ go, gk = go := ⟨gk, rfl⟩
    obtain ⟨ra1, rc1, hrw, -, -⟩ := (OwnI.ints (unhide HI).2).form
    rw [List.length_map] at hrw
    subst hrw
    by_cases hvt : v = t
    · subst hvt
      have hbb : ((v : Int) != (v : Int)) = false := by simp
      have HF : Hid (Sp.WayIs L y v s W) := hide (by have := (unhide HW).2.2 [] rfl; rw [List.append_nil] at this; exact this)
      go_wp2
      rw [unhide HP]
      refine ⟨(unhide HB5).trans ((unhide HI).1.mono (unhide HB5).size), y, unhide HT, .inr ⟨fun e => ?_, _, W, rfl, own_base (unhide HI).2 (unhide HB5).size, by omega, unhide HF⟩⟩
      have h1 := (unhide HW).1 e
      rw [← h1, (unhide HYt).1] at e
      cases e
    · have hvtI : ¬ (v : Int) = (t : Int) := by omega
      have hbb : ((v : Int) != (t : Int)) = true := bne_iff_ne.2 hvtI
      have hvI : (v : Int) < (N : Int) := by omega
      go_wp2
      go_loopg [11, 12, 38] L.length (fun g2 s11 s12 s38 wq => ∃ i : Nat, i + g2 = L.length ∧ s11 = .slice ra1 W.length rc1 ∧ s12 = .int .i64 (v : Int) ∧ s38 = .int .i64 (i : Int) ∧ Hid (∀ k, k < i → Sp.tt L y v k = false) ∧ Hid (Below w5.heap.size w5 wq ∧ OwnI wq w5.heap.size (.slice ra1 W.length rc1) (W.map fun i : Nat => (i : Int))))
      case atStart => exact ⟨0, by omega, rfl, rfl, rfl, hide fun k hk => by omega, HI⟩
      case round =>
        clear HI
        obtain ⟨i, hig, rfl, rfl, rfl, HK, HI⟩ := hrel
        by_cases hi : i < L.length
        · obtain ⟨g2, rfl⟩ : ∃ g2, gk = g2 + 1 := ⟨gk - 1, by omega⟩
          have hiI : (i : Int) < (L.length : Int) := by omega
          obtain ⟨b, o, rfl, hb, hcx⟩ := unhide HA i hi
          obtain ⟨hc1, hc2, hc3⟩ := hcx wr ((unhide HB5).trans ((unhide HI).1.mono (unhide HB5).size))
          obtain ⟨hfN, hxN, hl0, hl1⟩ := unhide HL0 _ (Sp.arc_mem hi)
          have HTt := hide (Sp.tt_iff (L := L) (y := y) (v := v) (i := i))
          obtain ⟨R, hR⟩ : ∃ R, Sp.tt L y v i = R := ⟨_, rfl⟩
          rw [hR] at HTt
          have HSn : Hid (R = true → ∀ r, Sp.WayIs L y t (L.getD i Sp.arc0).t r → Sp.WayIs L y t s (W ++ [i] ++ r)) := hide fun e => Sp.WayIs.snoc (unhide HW).2.2 hvt hi (hR.trans e) (unhide HK)
          have HK2 : Hid (R = false → ∀ k, k < i + 1 → Sp.tt L y v k = false) := hide fun e k hk => by
            by_cases h : k = i
            · rw [h, hR]; exact e
            · exact unhide HK k (by omega)
          generalize L.getD i Sp.arc0 = a at *
          obtain ⟨f, x, l⟩ := a
          simp only at hc1 hc2 hc3 hfN hxN hl0 hl1 HTt HSn
          obtain ⟨ab, hab⟩ : ∃ ab, ab = wr.heap.size := ⟨_, rfl⟩
          obtain ⟨wA, hwA⟩ : ∃ wA, wA = wr.alloc (.cells #[.int .i64 (f : Int), .int .i64 (x : Int), .int .i64 l] 30) := ⟨_, rfl⟩
          have HWA : Hid (Below w5.heap.size w5 wA ∧ OwnI wA w5.heap.size (.slice ra1 W.length rc1) (W.map fun i : Nat => (i : Int))) := hide (by rw [hwA]; exact ⟨(unhide HI).1.alloc (unhide HI).1.size _, World.ownsRow.alloc (unhide HI).2 _⟩)
          have hsA : wA.heap.size = ab + 1 := by rw [hwA, hab]; simp
          have HRl : Hid (∀ k, (Value.slice ra1 W.length rc1).ownBlock = some k → k < ab) := hide fun k hk => by
            have h := (unhide HI).2.lt k hk
            rw [hab]; exact h.2
          obtain ⟨u0, u1, u2⟩ := arc_new wr (.int .i64 (f : Int)) (.int .i64 (x : Int)) (.int .i64 l)
          rw [← hwA, ← hab] at u0 u1 u2
          have hcoA := (unhide HC5).below (unhide HWA).1
          have hgBA := hcoA.lt
          have z0 := hcoA.cell (j := x * 2) (by omega)
          have z1 := hcoA.cell (j := x * 2 + 1) (by omega)
          have z2 := hcoA.cell (j := v * 2) (by omega)
          have z3 := hcoA.cell (j := v * 2 + 1) (by omega)
          have HBx := hide (And.intro ((unhide HT).bd x hxN) ((unhide HT).bd v hv))
          have hX : 0 ≤ y (x * 2) ∧ y (x * 2) ≤ 1152921504606846976 ∧ 0 ≤ y (x * 2 + 1) ∧ y (x * 2 + 1) ≤ 60 := by
            rcases (unhide HBx).1 with h | h
            · rw [h.1, h.2]; decide
            · omega
          obtain ⟨X0, hX0⟩ : ∃ X0, X0 = y (x * 2) := ⟨_, rfl⟩
          obtain ⟨X1, hX1⟩ : ∃ X1, X1 = y (x * 2 + 1) := ⟨_, rfl⟩
          obtain ⟨V0, hV0⟩ : ∃ V0, V0 = y (v * 2) := ⟨_, rfl⟩
          obtain ⟨V1, hV1⟩ : ∃ V1, V1 = y (v * 2 + 1) := ⟨_, rfl⟩
          rw [← hX0] at z0 hX HTt
          rw [← hX1] at z1 hX HTt
          rw [← hV0] at z2 HTt
          rw [← hV1] at z3 HTt
          obtain ⟨hX2, hX3, hX4, hX5⟩ := hX
          have HRD : Hid (∀ w', Below wA.heap.size wA w' → w'.cell? ⟨ab, 0, none⟩ = some (.int .i64 (f : Int)) ∧ w'.cell? ⟨ab, 1, none⟩ = some (.int .i64 (x : Int)) ∧ w'.cell? ⟨ab, 2, none⟩ = some (.int .i64 l) ∧ w'.cell? ⟨w4.heap.size + 1, x * 2, none⟩ = some (.int .i64 X0) ∧ w'.cell? ⟨w4.heap.size + 1, x * 2 + 1, none⟩ = some (.int .i64 X1) ∧ w'.cell? ⟨w4.heap.size + 1, v * 2, none⟩ = some (.int .i64 V0) ∧ w'.cell? ⟨w4.heap.size + 1, v * 2 + 1, none⟩ = some (.int .i64 V1)) := hide fun w' hb' =>
            ⟨(hb'.cell (p := ⟨ab, 0, none⟩) (by show ab < _; omega)).trans u0, (hb'.cell (p := ⟨ab, 1, none⟩) (by show ab < _; omega)).trans u1, (hb'.cell (p := ⟨ab, 2, none⟩) (by show ab < _; omega)).trans u2, (hb'.cell (p := ⟨w4.heap.size + 1, x * 2, none⟩) (by exact hgBA)).trans z0, (hb'.cell (p := ⟨w4.heap.size + 1, x * 2 + 1, none⟩) (by exact hgBA)).trans z1, (hb'.cell (p := ⟨w4.heap.size + 1, v * 2, none⟩) (by exact hgBA)).trans z2, (hb'.cell (p := ⟨w4.heap.size + 1, v * 2 + 1, none⟩) (by exact hgBA)).trans z3⟩
          have HYY := hide (And.intro hX0 (And.intro hX1 (And.intro hV0 hV1)))
          have HLen : Hid ((W.map fun i : Nat => (i : Int)).length = W.length) := hide (List.length_map _)
          have hxI : (x : Int) < (N : Int) := by omega
          have hfI : (f : Int) < (N : Int) := by omega
          have hWl2 : W.length ≤ 60 := by omega
          have HGV := hide hgv
          clear hX0 hX1 hV0 hV1 z0 z1 z2 z3 u0 u1 u2 hcoA hcx HI hR hgv HK
          rw [hab] at HRD hsA
          go_upto_region 10 with fail
          rw [← hwA]
          clear hwA
          rw [← hab] at HRD hsA ⊢
          clear hab hc1 hc2 hc3 hb
          go_cut [60] (fun s60 w9 => ∃ wx, s60 = .bool R ∧ wx = w9 ∧ Hid (Below wA.heap.size wA wx))
          case first =>
            have hgu := unhide HTt
            clear HTt
            by_cases hfv : f = v
            · have hfv' := hfv.symm
              subst hfv'
              have hR2 : Hid (R = (X0 + l == V0 && X1 + 1 == V1)) := hide (by
                have e : (R = true) ↔ ((X0 + l == V0 && X1 + 1 == V1) = true) := by
                  rw [Bool.and_eq_true, beq_iff_eq, beq_iff_eq]
                  exact ⟨fun h => (hgu.1 h).2, fun h => hgu.2 ⟨rfl, h⟩⟩
                exact Bool.eq_iff_iff.2 e)
              have hq := fun w' => run_eql_cost (X0 + l) (X1 + 1) V0 V1 w'
              clear hgu
              have hbq := (Below.refl wA.heap.size wA).drew
              refine wp_region_G (fun w' => w'.cell? ⟨ab, 0, none⟩ = some (.int .i64 (v : Int)) ∧ w'.cell? ⟨ab, 1, none⟩ = some (.int .i64 (x : Int)) ∧ w'.cell? ⟨ab, 2, none⟩ = some (.int .i64 l) ∧ w'.cell? ⟨w4.heap.size + 1, x * 2, none⟩ = some (.int .i64 X0) ∧ w'.cell? ⟨w4.heap.size + 1, x * 2 + 1, none⟩ = some (.int .i64 X1) ∧ w'.cell? ⟨w4.heap.size + 1, v * 2, none⟩ = some (.int .i64 V0) ∧ w'.cell? ⟨w4.heap.size + 1, v * 2 + 1, none⟩ = some (.int .i64 V1)) (fun _ => false) (by kernel_rfl) (unhide HRD _ hbq) (fun hHeld => ?_)
              generalize wA.drew = wq at *
              refine wpAnyG_take (v := ?_) 0 (by rfl) (by kernel_rfl) (by kernel_rfl) (by kernel_rfl) (by kernel_rfl) (fun _ _ _ h => h) (Or.inl ⟨by rfl, ?_⟩) (by assumption) ?_
              rotate_left
              · (intro w' hSw; (try dsimp only at hSw); (try simp only [List.getElem_toArray, List.getElem_cons_zero]); go_simp; try (with_reducible rfl))
              simp only [Act.put, List.getElem_toArray, List.getElem_cons_zero, List.setIfInBounds_toArray, List.set_cons_zero, List.set_cons_succ]
              refine wpAnyG_take (v := ?_) 1 (by rfl) (by kernel_rfl) (by kernel_rfl) (by kernel_rfl) (by kernel_rfl) (fun _ _ _ h => h) (Or.inl ⟨by rfl, ?_⟩) (by assumption) ?_
              rotate_left
              · (intro w' hSw; (try dsimp only at hSw); (try simp only [List.getElem_toArray, List.getElem_cons_succ, List.getElem_cons_zero]); go_simp; try (with_reducible rfl))
              simp only [Act.put, List.getElem_toArray, List.getElem_cons_succ, List.getElem_cons_zero, List.setIfInBounds_toArray, List.set_cons_zero, List.set_cons_succ]
              refine wpAnyG_take (v := ?_) 2 (by rfl) (by kernel_rfl) (by kernel_rfl) (by kernel_rfl) (by kernel_rfl) (fun _ _ _ h => h) (Or.inl ⟨by rfl, ?_⟩) (by assumption) ?_
              rotate_left
              · (intro w' hSw; (try dsimp only at hSw); (try simp only [List.getElem_toArray, List.getElem_cons_succ, List.getElem_cons_zero]); go_simp; try (with_reducible rfl))
              simp only [Act.put, List.getElem_toArray, List.getElem_cons_succ, List.getElem_cons_zero, List.setIfInBounds_toArray, List.set_cons_zero, List.set_cons_succ]
              refine wpAnyG_take (v := ?_) 3 (by rfl) (by kernel_rfl) (by kernel_rfl) (by kernel_rfl) (by kernel_rfl) (fun _ _ _ h => h) (Or.inl ⟨by rfl, ?_⟩) (by assumption) ?_
              rotate_left
              · (intro w' hSw; (try dsimp only at hSw); (try simp only [List.getElem_toArray, List.getElem_cons_succ, List.getElem_cons_zero]); go_simp; try (with_reducible rfl))
              simp only [Act.put, List.getElem_toArray, List.getElem_cons_succ, List.getElem_cons_zero, List.setIfInBounds_toArray, List.set_cons_zero, List.set_cons_succ]
              refine wpAnyG_take (v := ?_) 4 (by rfl) (by kernel_rfl) (by kernel_rfl) (by kernel_rfl) (by kernel_rfl) (fun _ _ _ h => h) (Or.inl ⟨by rfl, ?_⟩) (by assumption) ?_
              rotate_left
              · (intro w' hSw; (try dsimp only at hSw); (try simp only [List.getElem_toArray, List.getElem_cons_succ, List.getElem_cons_zero]); go_simp; try (with_reducible rfl))
              simp only [Act.put, List.getElem_toArray, List.getElem_cons_succ, List.getElem_cons_zero, List.setIfInBounds_toArray, List.set_cons_zero, List.set_cons_succ]
              refine wpAnyG_take (v := ?_) 5 (by rfl) (by kernel_rfl) (by kernel_rfl) (by kernel_rfl) (by kernel_rfl) (fun _ _ _ h => h) (Or.inl ⟨by rfl, ?_⟩) (by assumption) ?_
              rotate_left
              · (intro w' hSw; (try dsimp only at hSw); (try simp only [List.getElem_toArray, List.getElem_cons_succ, List.getElem_cons_zero]); go_simp; try (with_reducible rfl))
              simp only [Act.put, List.getElem_toArray, List.getElem_cons_succ, List.getElem_cons_zero, List.setIfInBounds_toArray, List.set_cons_zero, List.set_cons_succ]
              refine wpAnyG_take (v := ?_) 6 (by rfl) (by kernel_rfl) (by kernel_rfl) (by kernel_rfl) (by kernel_rfl) (fun _ _ _ h => h) (Or.inl ⟨by rfl, ?_⟩) (by assumption) ?_
              rotate_left
              · (intro w' hSw; (try dsimp only at hSw); (try simp only [List.getElem_toArray, List.getElem_cons_succ, List.getElem_cons_zero]); go_simp; try (with_reducible rfl))
              simp only [Act.put, List.getElem_toArray, List.getElem_cons_succ, List.getElem_cons_zero, List.setIfInBounds_toArray, List.set_cons_zero, List.set_cons_succ]
              refine wpAnyG_take (v := ?_) 7 (by rfl) (by kernel_rfl) (by kernel_rfl) (by kernel_rfl) (by kernel_rfl) (fun _ _ _ h => h) (Or.inl ⟨by rfl, ?_⟩) (by assumption) ?_
              rotate_left
              · (intro w' hSw; (try dsimp only at hSw); (try simp only [List.getElem_toArray, List.getElem_cons_succ, List.getElem_cons_zero]); go_simp; try (with_reducible rfl))
              simp only [Act.put, List.getElem_toArray, List.getElem_cons_succ, List.getElem_cons_zero, List.setIfInBounds_toArray, List.set_cons_zero, List.set_cons_succ]
              refine wpAnyG_take (v := ?_) 8 (by rfl) (by kernel_rfl) (by kernel_rfl) (by kernel_rfl) (by kernel_rfl) (fun _ _ _ h => h) (Or.inl ⟨by rfl, ?_⟩) (by assumption) ?_
              rotate_left
              · (intro w' hSw; (try dsimp only at hSw); (try simp only [List.getElem_toArray, List.getElem_cons_succ, List.getElem_cons_zero]); go_simp; try (with_reducible rfl))
              simp only [Act.put, List.getElem_toArray, List.getElem_cons_succ, List.getElem_cons_zero, List.setIfInBounds_toArray, List.set_cons_zero, List.set_cons_succ]
              refine wpAnyG_take (v := ?_) 9 (by rfl) (by kernel_rfl) (by kernel_rfl) (by kernel_rfl) (by kernel_rfl) (fun _ _ _ h => h) (Or.inl ⟨by rfl, ?_⟩) (by assumption) ?_
              rotate_left
              · (intro w' hSw; (try dsimp only at hSw); (try simp only [List.getElem_toArray, List.getElem_cons_succ, List.getElem_cons_zero]); go_simp; try (with_reducible rfl))
              simp only [Act.put, List.getElem_toArray, List.getElem_cons_succ, List.getElem_cons_zero, List.setIfInBounds_toArray, List.set_cons_zero, List.set_cons_succ]
              refine wpAnyG_take (v := ?_) 10 (by rfl) (by kernel_rfl) (by kernel_rfl) (by kernel_rfl) (by kernel_rfl) (fun _ _ _ h => h) (Or.inl ⟨by rfl, ?_⟩) (by assumption) ?_
              rotate_left
              · (intro w' hSw; (try dsimp only at hSw); (try simp only [List.getElem_toArray, List.getElem_cons_succ, List.getElem_cons_zero]); go_simp; try (with_reducible rfl))
              simp only [Act.put, List.getElem_toArray, List.getElem_cons_succ, List.getElem_cons_zero, List.setIfInBounds_toArray, List.set_cons_zero, List.set_cons_succ]
              refine wpAnyG_take (v := ?_) 12 (by rfl) (by kernel_rfl) (by kernel_rfl) (by kernel_rfl) (by kernel_rfl) (fun _ _ _ h => h) (Or.inl ⟨by rfl, ?_⟩) (by assumption) ?_
              rotate_left
              · (intro w' hSw; (try dsimp only at hSw); (try simp only [List.getElem_toArray, List.getElem_cons_succ, List.getElem_cons_zero]); go_simp; try (with_reducible rfl))
              simp only [Act.put, List.getElem_toArray, List.getElem_cons_succ, List.getElem_cons_zero, List.setIfInBounds_toArray, List.set_cons_zero, List.set_cons_succ]
              refine wpAnyG_take (v := ?_) 13 (by rfl) (by kernel_rfl) (by kernel_rfl) (by kernel_rfl) (by kernel_rfl) (fun _ _ _ h => h) (Or.inl ⟨by rfl, ?_⟩) (by assumption) ?_
              rotate_left
              · (intro w' hSw; (try dsimp only at hSw); (try simp only [List.getElem_toArray, List.getElem_cons_succ, List.getElem_cons_zero]); go_simp; try (with_reducible rfl))
              simp only [Act.put, List.getElem_toArray, List.getElem_cons_succ, List.getElem_cons_zero, List.setIfInBounds_toArray, List.set_cons_zero, List.set_cons_succ]
              refine wpAnyG_take (v := ?_) 14 (by rfl) (by kernel_rfl) (by kernel_rfl) (by kernel_rfl) (by kernel_rfl) (fun _ _ _ h => h) (Or.inl ⟨by rfl, ?_⟩) (by assumption) ?_
              rotate_left
              · (intro w' hSw; (try dsimp only at hSw); (try simp only [List.getElem_toArray, List.getElem_cons_succ, List.getElem_cons_zero]); go_simp; try (with_reducible rfl))
              simp only [Act.put, List.getElem_toArray, List.getElem_cons_succ, List.getElem_cons_zero, List.setIfInBounds_toArray, List.set_cons_zero, List.set_cons_succ]
              refine wpAnyG_take (v := ?_) 15 (by rfl) (by kernel_rfl) (by kernel_rfl) (by kernel_rfl) (by kernel_rfl) (fun _ _ _ h => h) (Or.inl ⟨by rfl, ?_⟩) (by assumption) ?_
              rotate_left
              · (intro w' hSw; (try dsimp only at hSw); (try simp only [List.getElem_toArray, List.getElem_cons_succ, List.getElem_cons_zero]); go_simp; try (with_reducible rfl))
              simp only [Act.put, List.getElem_toArray, List.getElem_cons_succ, List.getElem_cons_zero, List.setIfInBounds_toArray, List.set_cons_zero, List.set_cons_succ]
              refine wpAnyG_ready [11] (by kernel_rfl) (by simp) ?_
              refine AllReadyG.cons 11 (by rfl) (fun K hK => ?_) ?_
              · simp only [List.getElem_toArray, List.getElem_cons_succ, List.getElem_cons_zero]
                go_simp
                go_at_call 32
                refine (and_any X0 X1 (v : Int) (x : Int) l wq (by omega) (by omega) (by omega) (by omega) (by omega) (by omega)).mono ?_
                rintro e wc ⟨rfl, hlc⟩
                have hbc := Below.trans hbq (hlc.mono hbq.size)
                refine hK.out _ _ (unhide HRD _ hbc) (fun _ => ?_)
                clear hK K
                try simp only [Act.put, List.setIfInBounds_toArray, List.set_cons_zero, List.set_cons_succ]
                refine wpAnyG_take (v := ?_) 16 (by rfl) (by kernel_rfl) (by kernel_rfl) (by kernel_rfl) (by kernel_rfl) (fun _ _ _ h => h) (Or.inl ⟨by rfl, ?_⟩) (by assumption) ?_
                rotate_left
                · (intro w' hSw; (try dsimp only at hSw); (try simp only [List.getElem_toArray, List.getElem_cons_succ, List.getElem_cons_zero]); go_simp; try (with_reducible rfl))
                simp only [Act.put, List.getElem_toArray, List.getElem_cons_succ, List.getElem_cons_zero, List.setIfInBounds_toArray, List.set_cons_zero, List.set_cons_succ]
                refine wpAnyG_take (v := ?_) 17 (by rfl) (by kernel_rfl) (by kernel_rfl) (by kernel_rfl) (by kernel_rfl) (fun _ _ _ h => h) (Or.inl ⟨by rfl, ?_⟩) (by assumption) ?_
                rotate_left
                · (intro w' hSw; (try dsimp only at hSw); (try simp only [List.getElem_toArray, List.getElem_cons_succ, List.getElem_cons_zero]); go_simp; try (with_reducible rfl))
                simp only [Act.put, List.getElem_toArray, List.getElem_cons_succ, List.getElem_cons_zero, List.setIfInBounds_toArray, List.set_cons_zero, List.set_cons_succ]
                refine wpAnyG_done (by kernel_rfl) ?_ _
                refine NoPanic.normal ?_
                go_wp2
                go_meet
                exact ⟨_, by rw [unhide hR2], rfl, hide hbc⟩
              exact AllReadyG.nil
            · have hfb : ((f : Int) == (v : Int)) = false := beq_eq_false_iff_ne.2 (by omega)
              obtain rfl : R = false := by
                cases R with
                | true => exact absurd (hgu.1 rfl).1 hfv
                | false => rfl
              clear hgu
              have hbq := (Below.refl wA.heap.size wA).drew
              refine wp_region_G (fun w' => w'.cell? ⟨ab, 0, none⟩ = some (.int .i64 (f : Int)) ∧ w'.cell? ⟨ab, 1, none⟩ = some (.int .i64 (x : Int)) ∧ w'.cell? ⟨ab, 2, none⟩ = some (.int .i64 l) ∧ w'.cell? ⟨w4.heap.size + 1, x * 2, none⟩ = some (.int .i64 X0) ∧ w'.cell? ⟨w4.heap.size + 1, x * 2 + 1, none⟩ = some (.int .i64 X1) ∧ w'.cell? ⟨w4.heap.size + 1, v * 2, none⟩ = some (.int .i64 V0) ∧ w'.cell? ⟨w4.heap.size + 1, v * 2 + 1, none⟩ = some (.int .i64 V1)) (fun _ => false) (by kernel_rfl) (unhide HRD _ hbq) (fun hHeld => ?_)
              generalize wA.drew = wq at *
              refine wpAnyG_take (v := ?_) 0 (by rfl) (by kernel_rfl) (by kernel_rfl) (by kernel_rfl) (by kernel_rfl) (fun _ _ _ h => h) (Or.inl ⟨by rfl, ?_⟩) (by assumption) ?_
              rotate_left
              · (intro w' hSw; (try dsimp only at hSw); (try simp only [List.getElem_toArray, List.getElem_cons_zero]); go_simp; try (with_reducible rfl))
              simp only [Act.put, List.getElem_toArray, List.getElem_cons_zero, List.setIfInBounds_toArray, List.set_cons_zero, List.set_cons_succ]
              refine wpAnyG_take (v := ?_) 1 (by rfl) (by kernel_rfl) (by kernel_rfl) (by kernel_rfl) (by kernel_rfl) (fun _ _ _ h => h) (Or.inl ⟨by rfl, ?_⟩) (by assumption) ?_
              rotate_left
              · (intro w' hSw; (try dsimp only at hSw); (try simp only [List.getElem_toArray, List.getElem_cons_succ, List.getElem_cons_zero]); go_simp; try (with_reducible rfl))
              simp only [Act.put, List.getElem_toArray, List.getElem_cons_succ, List.getElem_cons_zero, List.setIfInBounds_toArray, List.set_cons_zero, List.set_cons_succ]
              refine wpAnyG_take (v := ?_) 2 (by rfl) (by kernel_rfl) (by kernel_rfl) (by kernel_rfl) (by kernel_rfl) (fun _ _ _ h => h) (Or.inl ⟨by rfl, ?_⟩) (by assumption) ?_
              rotate_left
              · (intro w' hSw; (try dsimp only at hSw); (try simp only [List.getElem_toArray, List.getElem_cons_succ, List.getElem_cons_zero]); go_simp; try (with_reducible rfl))
              simp only [Act.put, List.getElem_toArray, List.getElem_cons_succ, List.getElem_cons_zero, List.setIfInBounds_toArray, List.set_cons_zero, List.set_cons_succ]
              refine wpAnyG_take (v := ?_) 3 (by rfl) (by kernel_rfl) (by kernel_rfl) (by kernel_rfl) (by kernel_rfl) (fun _ _ _ h => h) (Or.inl ⟨by rfl, ?_⟩) (by assumption) ?_
              rotate_left
              · (intro w' hSw; (try dsimp only at hSw); (try simp only [List.getElem_toArray, List.getElem_cons_succ, List.getElem_cons_zero]); go_simp; try (with_reducible rfl))
              simp only [Act.put, List.getElem_toArray, List.getElem_cons_succ, List.getElem_cons_zero, List.setIfInBounds_toArray, List.set_cons_zero, List.set_cons_succ]
              refine wpAnyG_take (v := ?_) 4 (by rfl) (by kernel_rfl) (by kernel_rfl) (by kernel_rfl) (by kernel_rfl) (fun _ _ _ h => h) (Or.inl ⟨by rfl, ?_⟩) (by assumption) ?_
              rotate_left
              · (intro w' hSw; (try dsimp only at hSw); (try simp only [List.getElem_toArray, List.getElem_cons_succ, List.getElem_cons_zero]); go_simp; try (with_reducible rfl))
              simp only [Act.put, List.getElem_toArray, List.getElem_cons_succ, List.getElem_cons_zero, List.setIfInBounds_toArray, List.set_cons_zero, List.set_cons_succ]
              refine wpAnyG_take (v := undef) 5 (by rfl) (by kernel_rfl) (by kernel_rfl) (by kernel_rfl) (by kernel_rfl) (fun _ _ _ h => h) (Or.inr ⟨by rfl, rfl⟩) (by assumption) ?_
              simp only [Act.put, List.getElem_toArray, List.getElem_cons_succ, List.getElem_cons_zero, List.setIfInBounds_toArray, List.set_cons_zero, List.set_cons_succ]
              refine wpAnyG_take (v := undef) 6 (by rfl) (by kernel_rfl) (by kernel_rfl) (by kernel_rfl) (by kernel_rfl) (fun _ _ _ h => h) (Or.inr ⟨by rfl, rfl⟩) (by assumption) ?_
              simp only [Act.put, List.getElem_toArray, List.getElem_cons_succ, List.getElem_cons_zero, List.setIfInBounds_toArray, List.set_cons_zero, List.set_cons_succ]
              refine wpAnyG_take (v := undef) 7 (by rfl) (by kernel_rfl) (by kernel_rfl) (by kernel_rfl) (by kernel_rfl) (fun _ _ _ h => h) (Or.inr ⟨by rfl, rfl⟩) (by assumption) ?_
              simp only [Act.put, List.getElem_toArray, List.getElem_cons_succ, List.getElem_cons_zero, List.setIfInBounds_toArray, List.set_cons_zero, List.set_cons_succ]
              refine wpAnyG_take (v := undef) 8 (by rfl) (by kernel_rfl) (by kernel_rfl) (by kernel_rfl) (by kernel_rfl) (fun _ _ _ h => h) (Or.inr ⟨by rfl, rfl⟩) (by assumption) ?_
              simp only [Act.put, List.getElem_toArray, List.getElem_cons_succ, List.getElem_cons_zero, List.setIfInBounds_toArray, List.set_cons_zero, List.set_cons_succ]
              refine wpAnyG_take (v := undef) 9 (by rfl) (by kernel_rfl) (by kernel_rfl) (by kernel_rfl) (by kernel_rfl) (fun _ _ _ h => h) (Or.inr ⟨by rfl, rfl⟩) (by assumption) ?_
              simp only [Act.put, List.getElem_toArray, List.getElem_cons_succ, List.getElem_cons_zero, List.setIfInBounds_toArray, List.set_cons_zero, List.set_cons_succ]
              refine wpAnyG_take (v := undef) 10 (by rfl) (by kernel_rfl) (by kernel_rfl) (by kernel_rfl) (by kernel_rfl) (fun _ _ _ h => h) (Or.inr ⟨by rfl, rfl⟩) (by assumption) ?_
              simp only [Act.put, List.getElem_toArray, List.getElem_cons_succ, List.getElem_cons_zero, List.setIfInBounds_toArray, List.set_cons_zero, List.set_cons_succ]
              refine wpAnyG_take (v := undef) 11 (by rfl) (by kernel_rfl) (by kernel_rfl) (by kernel_rfl) (by kernel_rfl) (fun _ _ _ h => h) (Or.inr ⟨by rfl, rfl⟩) (by assumption) ?_
              simp only [Act.put, List.getElem_toArray, List.getElem_cons_succ, List.getElem_cons_zero, List.setIfInBounds_toArray, List.set_cons_zero, List.set_cons_succ]
              refine wpAnyG_take (v := undef) 12 (by rfl) (by kernel_rfl) (by kernel_rfl) (by kernel_rfl) (by kernel_rfl) (fun _ _ _ h => h) (Or.inr ⟨by rfl, rfl⟩) (by assumption) ?_
              simp only [Act.put, List.getElem_toArray, List.getElem_cons_succ, List.getElem_cons_zero, List.setIfInBounds_toArray, List.set_cons_zero, List.set_cons_succ]
              refine wpAnyG_take (v := undef) 13 (by rfl) (by kernel_rfl) (by kernel_rfl) (by kernel_rfl) (by kernel_rfl) (fun _ _ _ h => h) (Or.inr ⟨by rfl, rfl⟩) (by assumption) ?_
              simp only [Act.put, List.getElem_toArray, List.getElem_cons_succ, List.getElem_cons_zero, List.setIfInBounds_toArray, List.set_cons_zero, List.set_cons_succ]
              refine wpAnyG_take (v := undef) 14 (by rfl) (by kernel_rfl) (by kernel_rfl) (by kernel_rfl) (by kernel_rfl) (fun _ _ _ h => h) (Or.inr ⟨by rfl, rfl⟩) (by assumption) ?_
              simp only [Act.put, List.getElem_toArray, List.getElem_cons_succ, List.getElem_cons_zero, List.setIfInBounds_toArray, List.set_cons_zero, List.set_cons_succ]
              refine wpAnyG_take (v := undef) 15 (by rfl) (by kernel_rfl) (by kernel_rfl) (by kernel_rfl) (by kernel_rfl) (fun _ _ _ h => h) (Or.inr ⟨by rfl, rfl⟩) (by assumption) ?_
              simp only [Act.put, List.getElem_toArray, List.getElem_cons_succ, List.getElem_cons_zero, List.setIfInBounds_toArray, List.set_cons_zero, List.set_cons_succ]
              refine wpAnyG_take (v := undef) 16 (by rfl) (by kernel_rfl) (by kernel_rfl) (by kernel_rfl) (by kernel_rfl) (fun _ _ _ h => h) (Or.inr ⟨by rfl, rfl⟩) (by assumption) ?_
              simp only [Act.put, List.getElem_toArray, List.getElem_cons_succ, List.getElem_cons_zero, List.setIfInBounds_toArray, List.set_cons_zero, List.set_cons_succ]
              refine wpAnyG_take (v := ?_) 17 (by rfl) (by kernel_rfl) (by kernel_rfl) (by kernel_rfl) (by kernel_rfl) (fun _ _ _ h => h) (Or.inl ⟨by rfl, ?_⟩) (by assumption) ?_
              rotate_left
              · (intro w' hSw; (try dsimp only at hSw); (try simp only [List.getElem_toArray, List.getElem_cons_succ, List.getElem_cons_zero]); go_simp; try (with_reducible rfl))
              simp only [Act.put, List.getElem_toArray, List.getElem_cons_succ, List.getElem_cons_zero, List.setIfInBounds_toArray, List.set_cons_zero, List.set_cons_succ]
              refine wpAnyG_done (by kernel_rfl) ?_ _
              refine NoPanic.normal ?_
              go_wp2
              go_meet
              exact ⟨_, rfl, rfl, hide hbq⟩
          case rest =>
            obtain ⟨wx, rfl, hwx, HBX⟩ := hcut
            subst hwx
            have hO := own_below (unhide HWA).2 (unhide HBX)
            have HBw := hide ((unhide HWA).1.trans ((unhide HBX).mono (unhide HWA).1.size))
            have v1 := (unhide HRD _ (unhide HBX)).2.1
            have hsx := (unhide HBX).size
            have hs5 := (unhide HWA).1.size
            have hgt := unhide HTt
            cases R with
            | false =>
              have HK3 := hide (unhide HK2 rfl)
              have HI3 := hide (And.intro (unhide HBw) hO)
              clear HTt hgt HSn HRD HK2
              go_wp2
              go_roundg g2
              case rel => exact ⟨i + 1, by omega, rfl, rfl, by go_num, HK3, HI3⟩
              case measure => omega
            | true =>
              have hgg := hgt.1 rfl
              obtain ⟨hgA, hgB, hgC⟩ := hgg
              have hgo : ∃ g', gk = g' + 1 ∧ X1 = (g' : Int) := ⟨gk - 1, by have := unhide HGV; have := (unhide HYY).2.2.2; omega, by have := unhide HGV; have := (unhide HYY).2.2.2; omega⟩
              obtain ⟨g', rfl, hX1g⟩ := hgo
              have HSn2 := hide (unhide HSn rfl)
              have HFx : Hid ((y (s * 2) = 1152921504606846976 → x = s) ∧ (y (x * 2) = 1152921504606846976 → x = s)) := hide (by
                have hV0 := (unhide HYY).2.2.1
                have hX0 := (unhide HYY).1
                have hV1 := (unhide HYY).2.2.2
                have hvf : V0 ≠ 1152921504606846976 := fun e => by
                  rcases (unhide HBx).2 with h | h <;> omega
                refine ⟨fun e => ?_, fun e => ?_⟩
                · have := (unhide HW).1 e
                  rw [← this, ← hV0] at e
                  exact absurd e hvf
                · rw [← hX0] at e
                  rcases (unhide HBx).2 with h | h
                  · exact absurd (hV0.trans h.1) hvf
                  · omega)
              have HO := hide hO
              have HYx := hide ((unhide HYY).2.1.symm.trans hX1g)
              clear HTt hgt hgA hgB hgC HSn HK2 hO HYY HGV HW HBx hX1g
              go_wp2_with (at_builtin; refine wpList_app (w := wx.alloc (.cells #[.int .i64 (i : Int)] 3)) rfl _ _ rfl w5.heap.size _ _ (W.map fun i : Nat => (i : Int)) [(i : Int)] rfl rfl (World.ownsRow.alloc (unhide HO) _) (OwnI.ints (own_lit wx 0 _ 1 [(i : Int)] rfl rfl (Nat.zero_le _) (by simp))) (W.length + 1) (by simp) (by omega) (by simp; omega) ?_)
              intro a6 c6 w6 hown6 hb6 hg6
              have HI6 : Hid (Below w5.heap.size w5 w6 ∧ OwnI w6 w5.heap.size (.slice a6 (W.length + 1) c6) ((W ++ [i]).map fun i : Nat => (i : Int))) := hide ⟨((unhide HBw).alloc (by omega) _).trans hb6, by rw [List.map_append]; exact hown6⟩
              have v2 : w6.cell? ⟨ab, 1, none⟩ = some (.int .i64 (x : Int)) := by
                have hne : some ab ≠ (Value.slice ra1 W.length rc1).ownBlock := fun e => Nat.lt_irrefl _ (unhide HRl ab e.symm)
                have hs0 : (wx.alloc (.cells #[.int .i64 (i : Int)] 3)).heap.size = wx.heap.size + 1 := by simp
                rw [World.cell?_of_block (a := ⟨ab, 1, none⟩) (hg6.block ab (by omega) hne), cell_alloc (by show ab < _; omega)]
                exact v1
              clear hown6 hb6 hg6 HO
              go_wp2
              go_roundg g'
              case rel => exact ⟨x, W ++ [i], rfl, by omega, unhide HYx, by rw [List.length_append]; simp; omega, hide ⟨(unhide HFx).1, (unhide HFx).2, unhide HSn2⟩, HI6⟩
              case measure => omega
        · obtain rfl : i = L.length := by omega
          have hiI : ¬ ((L.length : Nat) : Int) < (L.length : Int) := by omega
          have HF : Hid (y (s * 2) = 1152921504606846976) := hide (by
            by_cases e : y (v * 2) = 1152921504606846976
            · rw [← (unhide HW).2.1 e]; exact e
            · obtain ⟨i, hi1, hi2⟩ := (unhide HT).on (by omega) (fun a ha => ⟨(unhide HL0 a ha).1, (unhide HL0 a ha).2.1⟩) hv hvt e
              rw [unhide HK i hi1] at hi2
              cases hi2)
          go_wp2
          rw [unhide HP]
          exact ⟨(unhide HB5).trans ((unhide HI).1.mono (unhide HB5).size), y, unhide HT, .inl ⟨unhide HF, rfl⟩⟩
end Go.Proofs.Ytggjpglakocilaa


/- Package path: trailFrom, Any where there is no round. -/
namespace Go.Proofs.Ytggjpglakocilaa
open Go Go.RowKit

theorem trail_set {w : World} {b : Nat} {a c d : Value} (h : w.heap[b]? = some (.cells #[a, c, d] 48)) (u v x : Value) : (((w.setCell ⟨b, 0, none⟩ u).setCell ⟨b, 1, none⟩ v).setCell ⟨b, 2, none⟩ x).heap[b]? = some (.cells #[u, v, x] 48) := by
  simp only [World.setCell, Array.getElem?_modify, if_pos, h]; rfl
theorem trail_at {w : World} {b : Nat} {u v x : Value} (h : w.heap[b]? = some (.cells #[u, v, x] 48)) : w.cell? ⟨b, 0, none⟩ = some u ∧ w.cell? ⟨b, 1, none⟩ = some v ∧ w.cell? ⟨b, 2, none⟩ = some x ∧ ∀ i, w.frozen? ⟨b, i, none⟩ = false := by
  refine ⟨?_, ?_, ?_, fun i => ?_⟩
  · simp only [World.cell?, h]; rfl
  · simp only [World.cell?, h]; rfl
  · simp only [World.cell?, h]; rfl
  · simp only [World.frozen?, h]; simp
set_option maxRecDepth 100000 in
set_option maxHeartbeats 8000000 in
theorem trailFrom_any (N s : Nat) (lv : Value) (w : World) (hlv : ∃ a n c, lv = .slice a n c) (hN : N ≤ 60) (hs : s < N) :
    Calls Try.prog 27 #[.int .i64 (N : Int), lv, .int .i64 (s : Int)] w fun e w' => ∃ gd gb, e = .returned (.agg #[lv, .slice (some ⟨gd, 0, none⟩) N N, .slice (some ⟨gb, 0, none⟩) N N]) ∧ w.heap.size ≤ gd ∧ w.heap.size ≤ gb ∧ gd ≠ gb ∧ RowAt w' gd N (Sp.d0 1152921504606846976 s) ∧ RowAt w' gb N (fun _ => -1) ∧ Below w.heap.size w w' := by
  obtain ⟨la, ln, lc, rfl⟩ := hlv
  have hsI : (s : Int) < (N : Int) := by omega
  obtain ⟨W1, hW1⟩ : ∃ W1, W1 = w.alloc (.cells #[.slice none 0 0, .slice none 0 0, .slice none 0 0] 48) := ⟨_, rfl⟩
  obtain ⟨W2, hW2⟩ : ∃ W2, W2 = W1.alloc (.cells #[.int .i64 1152921504606846976] 3) := ⟨_, rfl⟩
  have hs1 : W1.heap.size = w.heap.size + 1 := by rw [hW1]; simp
  have hs2 : W2.heap.size = w.heap.size + 2 := by rw [hW2]; simp; omega
  have hT2 : W2.heap[w.heap.size]? = some (.cells #[.slice none 0 0, .slice none 0 0, .slice none 0 0] 48) := by
    rw [hW2, Below.heap_alloc _ _ _ (by omega), hW1]; show (w.heap.push _)[w.heap.size]? = _; simp
  have hx2 : W2.cell? ⟨w.heap.size + 1, 0, none⟩ = some (.int .i64 1152921504606846976) := by
    have e : W2.heap[w.heap.size + 1]? = some (.cells #[.int .i64 1152921504606846976] 3) := by
      rw [hW2, ← hs1]; show (W1.heap.push _)[W1.heap.size]? = _; simp
    simp only [World.cell?, e]; rfl
  have hb2 : Below w.heap.size w W2 := by rw [hW2, hW1]; exact ((Below.refl _ w).alloc (Nat.le_refl _) _).alloc (by simp) _
  have hC1 := repeat_any 1152921504606846976 (w.heap.size + 1) N W2 hN hx2 (by omega)
  rw [hs2] at hC1
  have HC1 := hide hC1
  have HC2 : Hid (∀ w' : World, Calls Try.prog 47 #[.slice (some ⟨w'.heap.size, 0, none⟩) 1 1, .int .i64 (N : Int)] (w'.alloc (.cells #[.int .i64 (-1)] 3)) fun e w'' => e = .returned (.slice (some ⟨w'.heap.size + 1, 0, none⟩) N N) ∧ OwnI w'' (w'.heap.size + 1) (.slice (some ⟨w'.heap.size + 1, 0, none⟩) N N) (List.replicate N (-1)) ∧ Below (w'.heap.size + 1) (w'.alloc (.cells #[.int .i64 (-1)] 3)) w'') := hide fun w' => by
    have e : (w'.alloc (.cells #[.int .i64 (-1)] 3)).heap[w'.heap.size]? = some (.cells #[.int .i64 (-1)] 3) := by show (w'.heap.push _)[w'.heap.size]? = _; simp
    have h := repeat_any (-1) w'.heap.size N (w'.alloc (.cells #[.int .i64 (-1)] 3)) hN (by simp only [World.cell?, e]; rfl) (by simp)
    have hs : (w'.alloc (.cells #[.int .i64 (-1)] 3)).heap.size = w'.heap.size + 1 := by simp
    rw [hs] at h
    exact h
  have HB2 := hide (And.intro hb2 (And.intro hT2 hs2))
  clear hC1 hx2 hT2 hb2 hs1 hs2
  subst hW2 hW1
  obtain ⟨P, hP⟩ : ∃ P : Ending → World → Prop, P = fun e w' => ∃ gd gb, e = .returned (.agg #[.slice la ln lc, .slice (some ⟨gd, 0, none⟩) N N, .slice (some ⟨gb, 0, none⟩) N N]) ∧ w.heap.size ≤ gd ∧ w.heap.size ≤ gb ∧ gd ≠ gb ∧ RowAt w' gd N (Sp.d0 1152921504606846976 s) ∧ RowAt w' gb N (fun _ => -1) ∧ Below w.heap.size w w' := ⟨_, rfl⟩
  rw [← hP]
  have HP := hide hP
  clear hP
  go_enter Try.func27, Try.ntmps27
  go_wp2_with fail
  go_at_call 47
  generalize (w.alloc (.cells #[.slice none 0 0, .slice none 0 0, .slice none 0 0] 48)).alloc (.cells #[.int .i64 1152921504606846976] 3) = W2 at *
  refine (unhide HC1).mono ?_
  rintro e w3 ⟨rfl, ho3, hb3⟩
  have hr3 := (RowAt.of_rep ho3).1
  have HQ3 : Hid (Below w.heap.size w w3 ∧ w3.heap[w.heap.size]? = some (.cells #[.slice none 0 0, .slice none 0 0, .slice none 0 0] 48) ∧ RowAt w3 (w.heap.size + 2) N (fun _ => 1152921504606846976)) := hide
    ⟨(unhide HB2).1.trans (hb3.mono (by omega)), (hb3.block _ (by omega)).trans (unhide HB2).2.1, hr3⟩
  have hz3 := hr3.lt
  clear ho3 hb3 hr3 HC1
  go_wp2_with fail
  go_at_call 47
  refine (unhide HC2 w3).mono ?_
  rintro e w4 ⟨rfl, ho4, hb4⟩
  have hr4 := (RowAt.of_rep ho4).1
  have hb34 : Below w3.heap.size w3 w4 := ((Below.refl _ w3).alloc (Nat.le_refl _) _).trans (hb4.mono (Nat.le_succ _))
  obtain ⟨W5, hW5⟩ : ∃ W5, W5 = w4.alloc (.cells #[.slice la ln lc, .slice (some ⟨w.heap.size + 2, 0, none⟩) N N, .slice (some ⟨w3.heap.size + 1, 0, none⟩) N N] 48) := ⟨_, rfl⟩
  have hb45 : Below w4.heap.size w4 W5 := by rw [hW5]; exact (Below.refl _ w4).alloc (Nat.le_refl _) _
  have hg4 := hr4.lt
  obtain ⟨t0, t1, t2⟩ := trail_new w4 (.slice la ln lc) (.slice (some ⟨w.heap.size + 2, 0, none⟩) N N) (.slice (some ⟨w3.heap.size + 1, 0, none⟩) N N)
  rw [← hW5] at t0 t1 t2
  have hd5 : RowAt W5 (w.heap.size + 2) N (fun _ => 1152921504606846976) := ((unhide HQ3).2.2.below hb34).below hb45
  have hy5 : RowAt W5 (w3.heap.size + 1) N (fun _ => -1) := hr4.below hb45
  have hT5 : W5.heap[w.heap.size]? = some (.cells #[.slice none 0 0, .slice none 0 0, .slice none 0 0] 48) := (hb45.block _ (by omega)).trans ((hb34.block _ (by omega)).trans (unhide HQ3).2.1)
  have hB5 : Below w.heap.size w W5 := ((unhide HQ3).1.trans (hb34.mono (unhide HQ3).1.size)).trans (hb45.mono (by have := (unhide HQ3).1.size; have := hb34.size; omega))
  have k0 := hd5.cell hs
  have kf := fun i => hd5.frozen i none
  have u0 := fun v : Value => show (W5.setCell ⟨w.heap.size + 2, s, none⟩ v).cell? ⟨w4.heap.size, 0, none⟩ = some (.slice la ln lc) by rw [cell_set_ne (by omega)]; exact t0
  have u1 := fun v : Value => show (W5.setCell ⟨w.heap.size + 2, s, none⟩ v).cell? ⟨w4.heap.size, 1, none⟩ = some (.slice (some ⟨w.heap.size + 2, 0, none⟩) N N) by rw [cell_set_ne (by omega)]; exact t1
  have u2 := fun v : Value => show (W5.setCell ⟨w.heap.size + 2, s, none⟩ v).cell? ⟨w4.heap.size, 2, none⟩ = some (.slice (some ⟨w3.heap.size + 1, 0, none⟩) N N) by rw [cell_set_ne (by omega)]; exact t2
  have hT6 : ∀ v : Value, (W5.setCell ⟨w.heap.size + 2, s, none⟩ v).heap[w.heap.size]? = some (.cells #[.slice none 0 0, .slice none 0 0, .slice none 0 0] 48) := fun v => by rw [Below.heap_setCell _ _ _ _ (by show w.heap.size ≠ w.heap.size + 2; omega)]; exact hT5
  have q0 := fun v => (trail_at (hT6 v)).1
  have qf := fun v => (trail_at (hT6 v)).2.2.2
  have q1 := fun v u : Value => show ((W5.setCell ⟨w.heap.size + 2, s, none⟩ v).setCell ⟨w.heap.size, 0, none⟩ u).cell? ⟨w.heap.size, 1, none⟩ = some (.slice none 0 0) by rw [cell_set_ne (by omega)]; exact (trail_at (hT6 v)).2.1
  have q2 := fun v u u' : Value => show (((W5.setCell ⟨w.heap.size + 2, s, none⟩ v).setCell ⟨w.heap.size, 0, none⟩ u).setCell ⟨w.heap.size, 1, none⟩ u').cell? ⟨w.heap.size, 2, none⟩ = some (.slice none 0 0) by rw [cell_set_ne (by omega), cell_set_ne (by omega)]; exact (trail_at (hT6 v)).2.2.1
  obtain ⟨W6, hW6⟩ : ∃ W6, W6 = (((W5.setCell ⟨w.heap.size + 2, s, none⟩ (.int .i64 0)).setCell ⟨w.heap.size, 0, none⟩ (.slice la ln lc)).setCell ⟨w.heap.size, 1, none⟩ (.slice (some ⟨w.heap.size + 2, 0, none⟩) N N)).setCell ⟨w.heap.size, 2, none⟩ (.slice (some ⟨w3.heap.size + 1, 0, none⟩) N N) := ⟨_, rfl⟩
  have HF : Hid (RowAt W6 (w.heap.size + 2) N (Sp.d0 1152921504606846976 s) ∧ RowAt W6 (w3.heap.size + 1) N (fun _ => -1) ∧ Below w.heap.size w W6) := hide (by
    rw [hW6]
    refine ⟨(((hd5.set s 0).set_ne (by omega) _ _ _).set_ne (by omega) _ _ _).set_ne (by omega) _ _ _ |>.congr fun j hj => ?_, (((hy5.set_ne (by omega) _ _ _).set_ne (by omega) _ _ _).set_ne (by omega) _ _ _).set_ne (by omega) _ _ _, (((hB5.setCell (p := ⟨w.heap.size + 2, s, none⟩) (by show _ ≤ w.heap.size + 2; omega) _).setCell (p := ⟨w.heap.size, 0, none⟩) (Nat.le_refl _) _).setCell (p := ⟨w.heap.size, 1, none⟩) (Nat.le_refl _) _).setCell (p := ⟨w.heap.size, 2, none⟩) (Nat.le_refl _) _⟩
    unfold Sp.upd Sp.d0; rfl)
  have hR6 : W6.heap[w.heap.size]? = some (.cells #[.slice la ln lc, .slice (some ⟨w.heap.size + 2, 0, none⟩) N N, .slice (some ⟨w3.heap.size + 1, 0, none⟩) N N] 48) := by
    rw [hW6]; exact trail_set (hT6 _) _ _ _
  obtain ⟨r0, r1, r2, -⟩ := trail_at hR6
  clear hd5 hy5 hT5 hB5 hT6 hr4 ho4 hb4 hb34 hb45 hR6 HQ3 HC2 HB2
  rw [hW6] at r0 r1 r2
  subst hW5
  go_wp2_with fail
  refine bodyPost_ret (v := .agg #[.slice la ln lc, .slice (some ⟨w.heap.size + 2, 0, none⟩) N N, .slice (some ⟨w3.heap.size + 1, 0, none⟩) N N]) (by simp [results, Try.results27, go_sem, r0, r1, r2]) rfl ?_
  rw [unhide HP, ← hW6]
  exact ⟨_, _, rfl, by omega, by omega, by omega, (unhide HF).1, (unhide HF).2.1, (unhide HF).2.2⟩
end Go.Proofs.Ytggjpglakocilaa


/- Package path: Any where there is no round; slices.Equal; Right. -/
namespace Go.Proofs.Ytggjpglakocilaa
open Go Go.RowKit

set_option maxRecDepth 100000 in
set_option maxHeartbeats 8000000 in
theorem any_yes (N : Nat) (L : List Sp.Arc) (s : Nat) (lv : Value) (w : World) (hl : ArcsI w lv L) (hS : Sp.Snd N L) (hs : s < N) (hN : N ≤ 60) (hex : ∃ D, Sp.Short 1152921504606846976 L s N D ∧ ∀ v, D v ≠ 1152921504606846976 → D v < 1152921504606846976) :
    Calls Try.prog 16 #[.int .i64 (N : Int), lv, .int .i64 (s : Int)] w fun e w' => ∃ G D, e = .returned (.tuple #[.slice (some ⟨G, 0, none⟩) N N, .slice none 0 0, .bool true]) ∧ w.heap.size ≤ G ∧ RowAt w' G N D ∧ Below w.heap.size w w' ∧ Sp.Short 1152921504606846976 L s N D := by
  have hsI : (s : Int) < (N : Int) := by omega
  obtain ⟨W1, hW1⟩ : ∃ W1, W1 = w.alloc (.cells #[.int .i64 (s : Int)] 3) := ⟨_, rfl⟩
  have hb1 : Below w.heap.size w W1 := by rw [hW1]; exact (Below.refl _ w).alloc (Nat.le_refl _) _
  have hI1 : Ints W1 (.slice (some ⟨w.heap.size, 0, none⟩) 1 1) [(s : Int)] := by rw [hW1]; exact OwnI.ints (own_lit w 0 _ 1 [(s : Int)] rfl rfl (Nat.zero_le _) (by simp))
  have HC1 := hide (psound_yes N L [(s : Int)] lv _ W1 (hl.below hb1) hI1 (by simp) (by omega) hS (by simp; omega))
  have HB1 := hide (And.intro hb1 (show w.heap.size ≤ W1.heap.size by rw [hW1]; simp))
  obtain ⟨la, lc, rfl, -⟩ := hl.form
  have HC2 : Hid (∀ w', Calls Try.prog 27 #[.int .i64 (N : Int), .slice la L.length lc, .int .i64 (s : Int)] w' fun e w'' => ∃ gd gb, e = .returned (.agg #[.slice la L.length lc, .slice (some ⟨gd, 0, none⟩) N N, .slice (some ⟨gb, 0, none⟩) N N]) ∧ w'.heap.size ≤ gd ∧ w'.heap.size ≤ gb ∧ gd ≠ gb ∧ RowAt w'' gd N (Sp.d0 1152921504606846976 s) ∧ RowAt w'' gb N (fun _ => -1) ∧ Below w'.heap.size w' w'') := hide fun w' => trailFrom_any N s _ w' ⟨_, _, _, rfl⟩ hN hs
  have HPs : Hid (∀ (w' : World) (k : Nat) (Y : Nat → Int) (gd gb : Nat), k < N → Below w.heap.size w w' → RowAt w' gd N (Sp.pk L s k) → RowAt w' gb N Y → w.heap.size ≤ gd → w.heap.size ≤ gb → gd ≠ gb → Calls Try.prog 28 #[.agg #[.slice la L.length lc, .slice (some ⟨gd, 0, none⟩) N N, .slice (some ⟨gb, 0, none⟩) N N]] w' fun e w'' => e = .returned (.int .i64 (Sp.pq L (Sp.pk L s k) Y L.length).2.2) ∧ RowAt w'' gd N (Sp.pk L s (k + 1)) ∧ RowAt w'' gb N (Sp.pq L (Sp.pk L s k) Y L.length).2.1 ∧ Bt (fun b => b = gd ∨ b = gb) w' w'') := hide fun w' k Y gd gb hk hb hd hy h1 h2 h3 => by
    have h := pass_any N L (Sp.pk L s k) Y _ gd gb w w' _ hl hb hS hd hy h1 h2 h3 (by omega) (Sp.pk_small (by omega) hS.few) (Sp.pk_bnd hS k)
    rw [Sp.pk_succ] at h
    exact h
  have HSt : Hid (∀ k, N ≤ k + 1 → Sp.still L (Sp.pk L s k)) := hide fun k hk => by
    obtain ⟨D, h1, h2⟩ := hex
    exact Sp.pk_still hS hs h1 h2 hk
  have HSh : Hid (∀ k, k < N → Sp.still L (Sp.pk L s k) → Sp.Short 1152921504606846976 L s N (Sp.pk L s k)) := hide fun k hk h => Sp.pk_short hS hs (by omega) h
  have HPq : Hid (∀ k Y, (Sp.pq L (Sp.pk L s k) Y L.length).2.2 = -1 ↔ Sp.still L (Sp.pk L s k)) := hide fun k Y => Sp.pq_stop L _ Y
  have HPr : Hid (∀ k, Sp.still L (Sp.pk L s k) → Sp.pk L s (k + 1) = Sp.pk L s k) := hide fun k h => by rw [← Sp.pk_succ L s k (fun _ => 0), Sp.pq_same _ h]
  obtain ⟨P, hP⟩ : ∃ P : Ending → World → Prop, P = fun e w' => ∃ G D, e = .returned (.tuple #[.slice (some ⟨G, 0, none⟩) N N, .slice none 0 0, .bool true]) ∧ w.heap.size ≤ G ∧ RowAt w' G N D ∧ Below w.heap.size w w' ∧ Sp.Short 1152921504606846976 L s N D := ⟨_, rfl⟩
  rw [← hP]
  have HP := hide hP
  clear hP hl hS hb1 hI1 hex
  subst hW1
  go_enter Try.func16, Try.ntmps16
  go_wp2_with fail
  go_at_call 22
  generalize w.alloc (.cells #[.int .i64 (s : Int)] 3) = W1 at *
  refine (unhide HC1).mono ?_
  rintro e w2 ⟨rfl, hb2⟩
  have HB2 := hide ((unhide HB1).1.trans (hb2.mono (unhide HB1).2))
  clear hb2 HC1 HB1
  go_wp2_with fail
  go_at_call 27
  refine (unhide HC2 w2).mono ?_
  rintro e w3 ⟨gd, gb, rfl, hgd, hgb, hne, hd3, hy3, hb3⟩
  have hgd' : w.heap.size ≤ gd := Nat.le_trans (unhide HB2).size hgd
  have hgb' : w.heap.size ≤ gb := Nat.le_trans (unhide HB2).size hgb
  have hgdl := hd3.lt
  have hgbl := hy3.lt
  obtain ⟨W4, hW4⟩ : ∃ W4, W4 = w3.alloc (.cells #[.slice la L.length lc, .slice (some ⟨gd, 0, none⟩) N N, .slice (some ⟨gb, 0, none⟩) N N] 48) := ⟨_, rfl⟩
  have hB4 : Below w.heap.size w W4 := by
    rw [hW4]
    have h := (unhide HB2).trans (hb3.mono (unhide HB2).size)
    exact h.alloc h.size _
  have hx := trail_new w3 (.slice la L.length lc) (.slice (some ⟨gd, 0, none⟩) N N) (.slice (some ⟨gb, 0, none⟩) N N)
  rw [← hW4] at hx
  have hs4 : W4.heap.size = w3.heap.size + 1 := by rw [hW4]; simp
  have HX : Hid (∀ w', Bt (fun b => b = gd ∨ b = gb) W4 w' → w'.cell? ⟨w3.heap.size, 0, none⟩ = some (.slice la L.length lc) ∧ w'.cell? ⟨w3.heap.size, 1, none⟩ = some (.slice (some ⟨gd, 0, none⟩) N N) ∧ w'.cell? ⟨w3.heap.size, 2, none⟩ = some (.slice (some ⟨gb, 0, none⟩) N N)) := hide fun w' hb =>
    ⟨(hb.cell (a := ⟨w3.heap.size, 0, none⟩) (by show w3.heap.size < _; omega) (by show ¬ (w3.heap.size = gd ∨ w3.heap.size = gb); omega)).trans hx.1, (hb.cell (a := ⟨w3.heap.size, 1, none⟩) (by show w3.heap.size < _; omega) (by show ¬ (w3.heap.size = gd ∨ w3.heap.size = gb); omega)).trans hx.2.1, (hb.cell (a := ⟨w3.heap.size, 2, none⟩) (by show w3.heap.size < _; omega) (by show ¬ (w3.heap.size = gd ∨ w3.heap.size = gb); omega)).trans hx.2.2⟩
  have HI0 : Hid (Bt (fun b => b = gd ∨ b = gb) W4 W4 ∧ RowAt W4 gd N (Sp.pk L s 0) ∧ RowAt W4 gb N (fun _ => -1)) := hide ⟨Bt.refl _ _, by rw [hW4]; exact hd3.alloc _, by rw [hW4]; exact hy3.alloc _⟩
  have HB4 : Hid (∀ w', Bt (fun b => b = gd ∨ b = gb) W4 w' → Below w.heap.size w w') := hide fun w' hb => hB4.trans (hb.below (B := w.heap.size) (fun b hb => by rcases hb with rfl | rfl <;> assumption) hB4.size)
  clear hd3 hy3 hb3 hB4 hx hs4 HB2 HC2
  go_wp2
  rw [← hW4]
  clear hW4
  go_loopg [22] N (fun g s22 wr => ∃ (k : Nat) (Y : Nat → Int), k + g = N ∧ s22 = .int .i64 (k : Int) ∧ Hid (∀ j, j < k → ¬ Sp.still L (Sp.pk L s j)) ∧ Hid (Bt (fun b => b = gd ∨ b = gb) W4 wr ∧ RowAt wr gd N (Sp.pk L s k) ∧ RowAt wr gb N Y))
  case atStart => exact ⟨0, _, by omega, rfl, hide fun j hj => by omega, HI0⟩
  case round =>
    clear HI0
    obtain ⟨k, Y, hkg, rfl, HN, HI⟩ := hrel
    cases gk with
    | zero => exact absurd (unhide HSt (k - 1) (by omega)) (unhide HN (k - 1) (by omega))
    | succ g' =>
      have hkI : (k : Int) < (N : Int) := by omega
      obtain ⟨x0, x1, x2⟩ := unhide HX wr (unhide HI).1
      have HCp := hide (unhide HPs wr k Y gd gb (by omega) (unhide HB4 _ (unhide HI).1) (unhide HI).2.1 (unhide HI).2.2 hgd' hgb' hne)
      have HPk := hide (unhide HPq k Y)
      generalize (Sp.pq L (Sp.pk L s k) Y L.length).2.2 = sh at *
      go_wp2_with fail
      go_at_call 28
      refine (unhide HCp).mono ?_
      rintro e w5 ⟨rfl, hd5, hy5, hb5⟩
      have HI5 := hide (And.intro ((unhide HI).1.trans hb5) (And.intro hd5 hy5))
      obtain ⟨z0, z1, z2⟩ := unhide HX w5 (unhide HI5).1
      clear hd5 hy5 hb5 HI HCp x0 x1 x2
      by_cases hst : sh = -1
      · have hst2 := (unhide HPk).1 hst
        have HF := hide (And.intro (unhide HSh k (by omega) hst2) (unhide HPr k hst2))
        clear HPk hst2
        subst hst
        go_wp2
        (try simp only [Exit.inBlock, Exit.then])
        refine bodyPost_ret (v := .tuple #[.slice (some ⟨gd, 0, none⟩) N N, .slice none 0 0, .bool true]) (by simp [results, Try.results16, go_sem]) rfl ?_
        rw [unhide HP]
        refine ⟨gd, _, rfl, hgd', (unhide HI5).2.1, unhide HB4 _ (unhide HI5).1, ?_⟩
        rw [(unhide HF).2]; exact (unhide HF).1
      · have hshb : (sh == (-1 : Int)) = false := beq_eq_false_iff_ne.2 hst
        have HN2 : Hid (∀ j, j < k + 1 → ¬ Sp.still L (Sp.pk L s j)) := hide fun j hj hh => by
          by_cases e : j = k
          · subst e; exact hst ((unhide HPk).2 hh)
          · exact unhide HN j (by omega) hh
        clear HPk HN
        go_wp2
        go_roundg g'
        case rel => exact ⟨k + 1, _, by omega, by go_num, HN2, HI5⟩
        case measure => omega
set_option maxRecDepth 100000 in
set_option maxHeartbeats 2000000 in
theorem equal_any6 (l m : List Int) (u v : Value) (w : World) (hu : Ints w u l) (hv : Ints w v m) (hl : l.length ≤ 1000) :
    Calls Try.prog 26 #[u, v] w fun e w' => e = .returned (.bool (decide (l = m))) ∧ Below w.heap.size w w' := by
  obtain ⟨ua, uc, rfl, -, -, HU⟩ := hu.allA
  obtain ⟨va, vc, rfl, -, -, HV⟩ := hv.allA
  clear hu hv
  by_cases hn : l.length = m.length
  · have hneb : ((l.length : Int) != (m.length : Int)) = false := by simp [hn]
    obtain ⟨R, hR⟩ : ∃ R, decide (l = m) = R := ⟨_, rfl⟩
    rw [hR]
    have HR := hide hR
    have HE : Hid ((∀ j, j < l.length → l.getD j 0 = m.getD j 0) → R = true) := hide fun h => by
      rw [← hR, decide_eq_true_eq]
      exact List.ext_getElem hn fun j h1 h2 => by
        have := h j h1
        rwa [List.getD_eq_getElem?_getD, List.getD_eq_getElem?_getD, List.getElem?_eq_getElem h1, List.getElem?_eq_getElem h2] at this
    have HNe : Hid (∀ j, l.getD j 0 ≠ m.getD j 0 → R = false) := hide fun j h => by
      rw [← hR, decide_eq_false_iff_not]; exact fun e => h (by rw [e])
    obtain ⟨P, hP⟩ : ∃ P : Ending → World → Prop, P = fun e w' => e = .returned (.bool R) ∧ Below w.heap.size w w' := ⟨_, rfl⟩
    rw [← hP]
    have HP := hide hP
    rw [← hn]
    clear hP hR HR
    have HNn := hide hn
    clear hn
    go_enter Try.func26, Try.ntmps26
    go_wp2
    go_loopg [13] l.length (fun g s13 wr => ∃ i : Nat, i + g = l.length ∧ s13 = .int .i64 (i : Int) ∧ Hid (∀ j, j < i → l.getD j 0 = m.getD j 0) ∧ Hid (Below w.heap.size w wr))
    case atStart => exact ⟨0, by omega, rfl, hide fun j hj => by omega, hide (Below.refl _ _)⟩
    case round =>
      obtain ⟨i, hig, rfl, HJ, HB⟩ := hrel
      cases gk with
      | zero =>
        obtain rfl : i = l.length := by omega
        have hRt := unhide HE (unhide HJ)
        go_wp2
        rw [unhide HP, hRt]
        exact ⟨rfl, unhide HB⟩
      | succ g' =>
        have hi : i < l.length := by omega
        have hiI : (i : Int) < (l.length : Int) := by omega
        obtain ⟨b, o, rfl, -, hc⟩ := unhide HU i hi
        obtain ⟨b', o', rfl, -, hc'⟩ := unhide HV i (by rw [← unhide HNn]; exact hi)
        have c1 := hc wr (unhide HB)
        have c2 := hc' wr (unhide HB)
        have HB2 : Hid (∀ nq, Below w.heap.size w (wr.drewN nq)) := hide fun nq => below_dn (unhide HB) nq
        by_cases he : l.getD i 0 = m.getD i 0
        · have HJ2 : Hid (∀ j, j < i + 1 → l.getD j 0 = m.getD j 0) := hide fun j hj => by
            by_cases e : j = i
            · rw [e]; exact he
            · exact unhide HJ j (by omega)
          rw [← he] at c2
          have hb : ((l.getD i 0) != (l.getD i 0)) = false := by simp
          generalize l.getD i 0 = z at *
          clear hc hc' he HJ HB
          go_wp2_with fail
          go_quiet (fail)
          go_wp2
          go_roundg g'
          case rel => exact ⟨i + 1, by omega, by go_num, HJ2, hide (unhide HB2 _)⟩
          case measure => omega
        · have hRf := unhide HNe i he
          have hb : ((l.getD i 0) != (m.getD i 0)) = true := bne_iff_ne.2 he
          generalize l.getD i 0 = z at *
          generalize m.getD i 0 = z' at *
          clear hc hc' he HJ HB
          go_wp2_with fail
          go_quiet (fail)
          go_wp2
          rw [unhide HP, hRf]
          exact ⟨rfl, unhide HB2 _⟩
  · have hneb : ((l.length : Int) != (m.length : Int)) = true := bne_iff_ne.2 (by omega)
    have HR := hide (show decide (l = m) = false from decide_eq_false (fun e => hn (by rw [e])))
    generalize decide (l = m) = R at *
    go_enter Try.func26, Try.ntmps26
    go_wp2
    go_ret
    exact ⟨by rw [unhide HR]; rfl, Below.refl _ _⟩
end Go.Proofs.Ytggjpglakocilaa


