/- What the proof needs, part 11. -/
import Derived.Test.YtggjpglakocilaaL10
/- The reference's Round: of a round below 0 that is reached it tells so. -/
namespace Go.Proofs.Ytggjpglakocilaa
open Go Go.RowKit

theorem Sp.next_mod (i q : Nat) : Int.tmod ((i : Int) + 1) (q : Int) = (((i + 1) % q : Nat) : Int) := by
  rw [Int.tmod_eq_emod_of_nonneg (by omega)]; rfl
theorem arc_cells {w : World} {b : Nat} {x y z : Value} (h : w.heap[b]? = some (.cells #[x, y, z] 30)) : w.cell? ⟨b, 0, none⟩ = some x ∧ w.cell? ⟨b, 1, none⟩ = some y ∧ w.cell? ⟨b, 2, none⟩ = some z ∧ ∀ i, w.frozen? ⟨b, i, none⟩ = false := by
  refine ⟨?_, ?_, ?_, fun i => ?_⟩
  · simp only [World.cell?, h]; rfl
  · simp only [World.cell?, h]; rfl
  · simp only [World.cell?, h]; rfl
  · simp only [World.frozen?, h]; simp
theorem arc_set {w : World} {b : Nat} {x y z : Value} (h : w.heap[b]? = some (.cells #[x, y, z] 30)) (u v r : Value) : (((w.setCell ⟨b, 0, none⟩ u).setCell ⟨b, 1, none⟩ v).setCell ⟨b, 2, none⟩ r).heap[b]? = some (.cells #[u, v, r] 30) := by
  simp only [World.setCell, Array.getElem?_modify, if_pos, h]; rfl
theorem set_other3 {w : World} {b c : Nat} (hne : c ≠ b) (u v r : Value) : (((w.setCell ⟨b, 0, none⟩ u).setCell ⟨b, 1, none⟩ v).setCell ⟨b, 2, none⟩ r).heap[c]? = w.heap[c]? := by
  rw [Below.heap_setCell _ _ _ _ hne, Below.heap_setCell _ _ _ _ hne, Below.heap_setCell _ _ _ _ hne]
set_option maxRecDepth 100000 in
set_option maxHeartbeats 16000000 in
theorem round_yes6 (N : Nat) (L : List Sp.Arc) (s q : Nat) (K : Nat → Nat) (lv rv : Value) (w : World) (hl : ArcsI w lv L) (hr : Ints w rv ((List.range q).map fun i => ((K i : Nat) : Int))) (hS : Sp.Snd N L) (hs : s < N) (hN : N ≤ 60) (hR : Sp.Rnd L N s q K) :
    Calls Try.prog 18 #[.int .i64 (N : Int), lv, .int .i64 (s : Int), rv] w fun e w' => e = .returned (.bool true) ∧ Below w.heap.size w w' := by
  have hfew := hS.few
  have hq0 := hR.pos
  have hqN := hR.few
  have HRe : Hid (∀ w', Below w.heap.size w w' → Calls Try.prog 30 #[.int .i64 (N : Int), lv, .int .i64 (s : Int)] w' fun e w'' => ∃ G B, e = .returned (.slice (some ⟨G, 0, none⟩) N N) ∧ RowB w'' G N B ∧ Below w'.heap.size w' w'' ∧ Sp.clo L s B) := hide fun w' hb => reached_any6 N L s lv w' (hl.below hb) hS hs hN
  have HF : Hid (∀ i, i < q → K i < L.length ∧ (L.getD (K i) Sp.arc0).f < N ∧ (L.getD (K i) Sp.arc0).t < N ∧ -1099511627776 ≤ (L.getD (K i) Sp.arc0).l ∧ (L.getD (K i) Sp.arc0).l ≤ 1099511627776) := hide fun i hi => ⟨hR.at_ i hi, hS.at_ _ (Sp.arc_mem (hR.at_ i hi))⟩
  have HSm : Hid (∀ i, i ≤ q → -65970697666560 ≤ Sp.smK L K i ∧ Sp.smK L K i ≤ 65970697666560) := hide fun i hi => by
    have := Sp.smK_le hS hR.at_ i hi
    omega
  obtain ⟨la, lc, rfl, -, -, HA⟩ := hl.all
  obtain ⟨ra, rc, rfl, -, -, HU⟩ := hr.allA
  rw [List.length_map, List.length_range] at HU
  simp only [List.length_map, List.length_range]
  have HRc : Hid (∀ i, i < q → ∃ b o, ra = some ⟨b, o, none⟩ ∧ ∀ w', Below w.heap.size w w' → w'.cell? ⟨b, o + i, none⟩ = some (.int .i64 ((K i : Nat) : Int))) := hide fun i hi => by
    obtain ⟨b, o, e1, -, e2⟩ := unhide HU i hi
    refine ⟨b, o, e1, fun w' hb => ?_⟩
    have h := e2 w' hb
    have e3 : ((List.range q).map fun i => ((K i : Nat) : Int)).getD i 0 = ((K i : Nat) : Int) := by
      rw [List.getD_eq_getElem?_getD, List.getElem?_map, List.getElem?_range hi]; rfl
    rw [e3] at h; exact h
  have HRn := hide hR
  obtain ⟨P, hP⟩ : ∃ P : Ending → World → Prop, P = fun e w' => e = .returned (.bool true) ∧ Below w.heap.size w w' := ⟨_, rfl⟩
  rw [← hP]
  have HP := hide hP
  have hqb : ((q : Int) == 0) = false := by rw [beq_eq_false_iff_ne]; omega
  have hqn : ¬ (q : Int) > (N : Int) := by omega
  have hqd : decide (N < q) = false := decide_eq_false (by omega)
  clear hP hl hS hr HU hR
  go_enter Try.func18, Try.ntmps18
  go_wp2_with (at_make; refine wpList_mkB rfl _ _ rfl w.heap.size N rfl rfl (by omega) (Nat.le_refl _) ?_)
  intro w1 hr1 hb1
  obtain ⟨G, hG⟩ : ∃ G, w.heap.size = G := ⟨_, rfl⟩
  have HGe := hide (show w.heap.size ≤ G by omega)
  rw [hG] at hr1 ⊢
  have HI1 : Hid (Below w.heap.size w w1 ∧ RowB w1 G N (fun _ => false)) := hide ⟨hb1, hr1⟩
  clear hr1 hb1 hG
  go_wp2
  go_loopg [11] q (fun g s11 wr => ∃ i : Nat, i + g = q ∧ s11 = .int .i64 (i : Int) ∧ Hid (Below w.heap.size w wr ∧ RowB wr G N (fun _ => false)))
  case atStart => exact ⟨0, by omega, rfl, HI1⟩
  case round =>
    clear HI1
    obtain ⟨i, hig, rfl, HI⟩ := hrel
    cases gk with
    | succ g' =>
      have hi : i < q := by omega
      have hiI : (i : Int) < (q : Int) := by omega
      obtain ⟨b, o, rfl, hc⟩ := unhide HRc i hi
      obtain ⟨hk, -⟩ := unhide HF i hi
      have c1 := hc wr (unhide HI).1
      clear hc
      generalize K i = k at *
      have hk0 : ¬ (k : Int) < 0 := by omega
      have hk1 : ¬ (k : Int) ≥ (L.length : Int) := by omega
      have hkd : decide (L.length ≤ k) = false := decide_eq_false (by omega)
      go_wp2
      go_roundg g'
      case rel => exact ⟨i + 1, by omega, by go_num, HI⟩
      case measure => omega
    | zero =>
      obtain rfl : q = i := by omega
      clear hig
      go_wp2

      rename_i q3 jj q2 b3 b2 q1 b1 q0x b0
      clear b3 b2 b1
      go_loopg [9, 12] q (fun g s9 s12 wr => ∃ (i : Nat) (B : Nat → Bool), i + g = q ∧ s9 = .int .i64 (Sp.smK L K i) ∧ s12 = .int .i64 (i : Int) ∧ Hid (Below w.heap.size w wr ∧ RowB wr G N B ∧ ∀ v, B v = true → ∃ j, j < i ∧ (L.getD (K j) Sp.arc0).f = v))
      case atStart => exact ⟨0, fun _ => false, by omega, rfl, rfl, hide ⟨(unhide HI).1, (unhide HI).2, fun v h => by cases h⟩⟩
      case round =>
        clear HI
        obtain ⟨i, B, hig, rfl, rfl, HI⟩ := hrel
        cases gk with
        | succ g' =>
          have hi : i < q := by omega
          have hiI : (i : Int) < (q : Int) := by omega
          obtain ⟨j, hj⟩ : ∃ j, (i + 1) % q = j := ⟨_, rfl⟩
          have hjq : j < q := by rw [← hj]; exact Nat.mod_lt _ (by omega)
          have hjI : (j : Int) < (q : Int) := by omega
          have hmod : Int.tmod ((i : Int) + 1) (q : Int) = (j : Int) := by rw [Sp.next_mod i q, hj]
          have hBf : B (L.getD (K i) Sp.arc0).f = false := by
            cases h : B (L.getD (K i) Sp.arc0).f with
            | false => rfl
            | true =>
              obtain ⟨j', h1, h2⟩ := (unhide HI).2.2 _ h
              exact absurd h2 ((unhide HRn).apart j' i h1 hi)
          have hon := (unhide HRn).on i hi
          rw [hj] at hon
          obtain ⟨hk, hf, ht, hl0, hl1⟩ := unhide HF i hi
          obtain ⟨hk2, -, ht2, -, -⟩ := unhide HF j hjq
          obtain ⟨rb, ro, rfl, hr1⟩ := unhide HRc i hi
          obtain ⟨rb', ro', hre, hr2⟩ := unhide HRc j hjq
          injection hre with hre
          injection hre with hre1 hre2
          subst hre1 hre2
          obtain ⟨b, o, rfl, -, hc1⟩ := unhide HA (K i) hk
          obtain ⟨b', o', hre, -, hc2⟩ := unhide HA (K j) hk2
          injection hre with hre
          injection hre with hre1 hre2
          subst hre1 hre2
          have hc3 := (unhide HI).2.1.cell hf
          have hf3 := fun i => (unhide HI).2.1.frozen i none
          rw [hBf] at hc3
          have HSn : Hid (Sp.smK L K (i + 1) = Sp.smK L K i + (L.getD (K i) Sp.arc0).l ∧ ∀ v, Sp.updB B (L.getD (K i) Sp.arc0).f true v = true → ∃ j, j < i + 1 ∧ (L.getD (K j) Sp.arc0).f = v) := hide ⟨rfl, fun v h => by
            unfold Sp.updB at h
            by_cases e : v = (L.getD (K i) Sp.arc0).f
            · exact ⟨i, by omega, e.symm⟩
            · rw [if_neg e] at h
              obtain ⟨j', h1, h2⟩ := (unhide HI).2.2 v h
              exact ⟨j', by omega, h2⟩⟩
          obtain ⟨hs0, hs1⟩ := unhide HSm i (by omega)
          obtain ⟨hs2, hs3⟩ := unhide HSm (i + 1) (by omega)
          rw [(unhide HSn).1] at hs2 hs3
          rw [← hon] at hc2
          have HRD : Hid (∀ w', Below wr.heap.size wr w' → w'.cell? ⟨rb, ro + i, none⟩ = some (.int .i64 ((K i : Nat) : Int)) ∧ w'.cell? ⟨rb, ro + j, none⟩ = some (.int .i64 ((K j : Nat) : Int)) ∧ w'.cell? ⟨b, o + K i * 3, none⟩ = some (.int .i64 ((L.getD (K i) Sp.arc0).f : Int)) ∧ w'.cell? ⟨b, o + K i * 3 + 1, none⟩ = some (.int .i64 ((L.getD (K i) Sp.arc0).t : Int)) ∧ w'.cell? ⟨b, o + K i * 3 + 2, none⟩ = some (.int .i64 (L.getD (K i) Sp.arc0).l) ∧ w'.cell? ⟨b, o + K j * 3, none⟩ = some (.int .i64 ((L.getD (K i) Sp.arc0).t : Int)) ∧ w'.cell? ⟨b, o + K j * 3 + 1, none⟩ = some (.int .i64 ((L.getD (K j) Sp.arc0).t : Int)) ∧ w'.cell? ⟨b, o + K j * 3 + 2, none⟩ = some (.int .i64 (L.getD (K j) Sp.arc0).l)) := hide fun w' hb => by
            have hb2 := (unhide HI).1.trans (hb.mono (unhide HI).1.size)
            obtain ⟨x1, x2, x3⟩ := hc1 w' hb2
            obtain ⟨y1, y2, y3⟩ := hc2 w' hb2
            exact ⟨hr1 w' hb2, hr2 w' hb2, x1, x2, x3, y1, y2, y3⟩
          have HB : Hid (∀ w', Below wr.heap.size wr w' → Below w.heap.size w w' ∧ RowB w' G N B ∧ (∀ i, w'.frozen? ⟨G, i, none⟩ = false) ∧ w'.cell? ⟨G, (L.getD (K i) Sp.arc0).f, none⟩ = some (.bool false) ∧ G < wr.heap.size) := hide fun w' hb => by
            have h := (unhide HI).2.1.below hb
            have h2 := h.cell hf
            rw [hBf] at h2
            exact ⟨(unhide HI).1.trans (hb.mono (unhide HI).1.size), h, fun i => h.frozen i none, h2, (unhide HI).2.1.lt⟩
          clear hr1 hr2 hc1 hc2 hc3 hf3 hBf hon hj
          obtain ⟨A1, hA1⟩ : ∃ A1, L.getD (K i) Sp.arc0 = A1 := ⟨_, rfl⟩
          obtain ⟨A2, hA2⟩ : ∃ A2, L.getD (K j) Sp.arc0 = A2 := ⟨_, rfl⟩
          rw [hA1] at hf ht hl0 hl1 hs2 hs3 HSn HB
          rw [hA1, hA2] at HRD
          rw [hA2] at ht2
          clear hA1 hA2
          have hkI : ((K i : Nat) : Int) < (L.length : Int) := by omega
          have hk2I : ((K j : Nat) : Int) < (L.length : Int) := by omega
          generalize K i = k at *
          generalize K j = k2 at *
          generalize A1.f = f at *
          generalize A1.t = t at *
          generalize A1.l = l at *
          generalize A2.t = t2 at *
          generalize A2.l = l2 at *
          generalize hsm : Sp.smK L K i = sm at *
          have hfI : (f : Int) < (N : Int) := by omega
          have hqz : ¬ q = 0 := by omega
          have hw1 : IntKind.i64.wrap ((i : Int) + 1) = (i : Int) + 1 := by rw [IntKind.wrap_i64]; omega
          clear A1 A2 hsm
          go_upto_region 13 with fail
          go_cut [13, 14] (fun s13 s14 w9 => ∃ ga gb wx, s13 = .pointer (some ⟨ga, 0, none⟩) ∧ s14 = .pointer (some ⟨gb, 0, none⟩) ∧ wx = w9 ∧ Hid (Below wr.heap.size wr wx ∧ wr.heap.size ≤ ga ∧ wr.heap.size ≤ gb ∧ wx.heap[ga]? = some (.cells #[.int .i64 (f : Int), .int .i64 (t : Int), .int .i64 l] 30) ∧ wx.heap[gb]? = some (.cells #[.int .i64 (t : Int), .int .i64 (t2 : Int), .int .i64 l2] 30)))
          case first =>
            have hbq := (Below.refl wr.heap.size wr).drew
            refine wp_region_G (fun w' => w'.cell? ⟨rb, ro + i, none⟩ = some (.int .i64 (k : Int)) ∧ w'.cell? ⟨rb, ro + j, none⟩ = some (.int .i64 (k2 : Int)) ∧ w'.cell? ⟨b, o + k * 3, none⟩ = some (.int .i64 (f : Int)) ∧ w'.cell? ⟨b, o + k * 3 + 1, none⟩ = some (.int .i64 (t : Int)) ∧ w'.cell? ⟨b, o + k * 3 + 2, none⟩ = some (.int .i64 l) ∧ w'.cell? ⟨b, o + k2 * 3, none⟩ = some (.int .i64 (t : Int)) ∧ w'.cell? ⟨b, o + k2 * 3 + 1, none⟩ = some (.int .i64 (t2 : Int)) ∧ w'.cell? ⟨b, o + k2 * 3 + 2, none⟩ = some (.int .i64 l2)) (fun _ => false) (by kernel_rfl) (unhide HRD _ hbq) (fun hHeld => ?_)
            generalize wr.drew = wq at *
            refine wpAnyG_take (v := ?_) 0 (by rfl) (by kernel_rfl) (by kernel_rfl) (by kernel_rfl) (by kernel_rfl) (fun _ _ _ h => h) (Or.inl ⟨by rfl, ?_⟩) (by assumption) ?_
            rotate_left
            · (intro w' hSw; (try dsimp only at hSw); (try simp only [List.getElem_toArray, List.getElem_cons_zero]); go_simp; try (with_reducible rfl))
            simp only [Act.put, List.getElem_toArray, List.getElem_cons_zero, List.setIfInBounds_toArray, List.set_cons_zero, List.set_cons_succ]
            refine wpAnyG_take (v := ?_) 1 (by rfl) (by kernel_rfl) (by kernel_rfl) (by kernel_rfl) (by kernel_rfl) (fun _ _ _ h => h) (Or.inl ⟨by rfl, ?_⟩) (by assumption) ?_
            rotate_left
            · (intro w' hSw; (try dsimp only at hSw); (try simp only [List.getElem_toArray, List.getElem_cons_succ, List.getElem_cons_zero]); go_simp; try (with_reducible rfl))
            simp only [Act.put, List.getElem_toArray, List.getElem_cons_succ, List.getElem_cons_zero, List.setIfInBounds_toArray, List.set_cons_zero, List.set_cons_succ]
            refine wpAnyG_take (v := ?_) 2 (by rfl) (by kernel_rfl) (by kernel_rfl) (by kernel_rfl) (by kernel_rfl) (fun _ _ _ h => h) (Or.inl ⟨by rfl, ?_⟩) (by assumption) ?_
            rotate_left
            · (intro w' hSw; (try dsimp only at hSw); (try simp only [List.getElem_toArray, List.getElem_cons_succ, List.getElem_cons_zero]); go_simp; try (with_reducible rfl))
            simp only [Act.put, List.getElem_toArray, List.getElem_cons_succ, List.getElem_cons_zero, List.setIfInBounds_toArray, List.set_cons_zero, List.set_cons_succ]
            refine wpAnyG_take (v := ?_) 3 (by rfl) (by kernel_rfl) (by kernel_rfl) (by kernel_rfl) (by kernel_rfl) (fun _ _ _ h => h) (Or.inl ⟨by rfl, ?_⟩) (by assumption) ?_
            rotate_left
            · (intro w' hSw; (try dsimp only at hSw); (try simp only [List.getElem_toArray, List.getElem_cons_succ, List.getElem_cons_zero]); go_simp; try (with_reducible rfl))
            simp only [Act.put, List.getElem_toArray, List.getElem_cons_succ, List.getElem_cons_zero, List.setIfInBounds_toArray, List.set_cons_zero, List.set_cons_succ]
            refine wpAnyG_take (v := ?_) 4 (by rfl) (by kernel_rfl) (by kernel_rfl) (by kernel_rfl) (by kernel_rfl) (fun _ _ _ h => h) (Or.inl ⟨by rfl, ?_⟩) (by assumption) ?_
            rotate_left
            · (intro w' hSw; (try dsimp only at hSw); (try simp only [List.getElem_toArray, List.getElem_cons_succ, List.getElem_cons_zero]); go_simp; try (with_reducible rfl))
            simp only [Act.put, List.getElem_toArray, List.getElem_cons_succ, List.getElem_cons_zero, List.setIfInBounds_toArray, List.set_cons_zero, List.set_cons_succ]
            refine wpAnyG_take (v := ?_) 5 (by rfl) (by kernel_rfl) (by kernel_rfl) (by kernel_rfl) (by kernel_rfl) (fun _ _ _ h => h) (Or.inl ⟨by rfl, ?_⟩) (by assumption) ?_
            rotate_left
            · (intro w' hSw; (try dsimp only at hSw); (try simp only [List.getElem_toArray, List.getElem_cons_succ, List.getElem_cons_zero]); go_simp; try (with_reducible rfl))
            simp only [Act.put, List.getElem_toArray, List.getElem_cons_succ, List.getElem_cons_zero, List.setIfInBounds_toArray, List.set_cons_zero, List.set_cons_succ]
            refine wpAnyG_take (v := ?_) 6 (by rfl) (by kernel_rfl) (by kernel_rfl) (by kernel_rfl) (by kernel_rfl) (fun _ _ _ h => h) (Or.inl ⟨by rfl, ?_⟩) (by assumption) ?_
            rotate_left
            · (intro w' hSw; (try dsimp only at hSw); (try simp only [List.getElem_toArray, List.getElem_cons_succ, List.getElem_cons_zero]); go_simp; try (with_reducible rfl))
            simp only [Act.put, List.getElem_toArray, List.getElem_cons_succ, List.getElem_cons_zero, List.setIfInBounds_toArray, List.set_cons_zero, List.set_cons_succ]
            refine wpAnyG_take (v := ?_) 7 (by rfl) (by kernel_rfl) (by kernel_rfl) (by kernel_rfl) (by kernel_rfl) (fun _ _ _ h => h) (Or.inl ⟨by rfl, ?_⟩) (by assumption) ?_
            rotate_left
            · (intro w' hSw; (try dsimp only at hSw); (try simp only [List.getElem_toArray, List.getElem_cons_succ, List.getElem_cons_zero]); go_simp; try (with_reducible rfl))
            simp only [Act.put, List.getElem_toArray, List.getElem_cons_succ, List.getElem_cons_zero, List.setIfInBounds_toArray, List.set_cons_zero, List.set_cons_succ]
            refine wpAnyG_take (v := ?_) 8 (by rfl) (by kernel_rfl) (by kernel_rfl) (by kernel_rfl) (by kernel_rfl) (fun _ _ _ h => h) (Or.inl ⟨by rfl, ?_⟩) (by assumption) ?_
            rotate_left
            · (intro w' hSw; (try dsimp only at hSw); (try simp only [List.getElem_toArray, List.getElem_cons_succ, List.getElem_cons_zero]); go_simp; try (with_reducible rfl))
            simp only [Act.put, List.getElem_toArray, List.getElem_cons_succ, List.getElem_cons_zero, List.setIfInBounds_toArray, List.set_cons_zero, List.set_cons_succ]
            refine wpAnyG_take (v := ?_) 9 (by rfl) (by kernel_rfl) (by kernel_rfl) (by kernel_rfl) (by kernel_rfl) (fun _ _ _ h => h) (Or.inl ⟨by rfl, ?_⟩) (by assumption) ?_
            rotate_left
            · (intro w' hSw; (try dsimp only at hSw); (try simp only [List.getElem_toArray, List.getElem_cons_succ, List.getElem_cons_zero]); go_simp; try (with_reducible rfl))
            simp only [Act.put, List.getElem_toArray, List.getElem_cons_succ, List.getElem_cons_zero, List.setIfInBounds_toArray, List.set_cons_zero, List.set_cons_succ]
            refine wpAnyG_take (v := ?_) 10 (by rfl) (by kernel_rfl) (by kernel_rfl) (by kernel_rfl) (by kernel_rfl) (fun _ _ _ h => h) (Or.inl ⟨by rfl, ?_⟩) (by assumption) ?_
            rotate_left
            · (intro w' hSw; (try dsimp only at hSw); (try simp only [List.getElem_toArray, List.getElem_cons_succ, List.getElem_cons_zero]); go_simp; try (with_reducible rfl))
            simp only [Act.put, List.getElem_toArray, List.getElem_cons_succ, List.getElem_cons_zero, List.setIfInBounds_toArray, List.set_cons_zero, List.set_cons_succ]
            refine wpAnyG_take (v := ?_) 11 (by rfl) (by kernel_rfl) (by kernel_rfl) (by kernel_rfl) (by kernel_rfl) (fun _ _ _ h => h) (Or.inl ⟨by rfl, ?_⟩) (by assumption) ?_
            rotate_left
            · (intro w' hSw; (try dsimp only at hSw); (try simp only [List.getElem_toArray, List.getElem_cons_succ, List.getElem_cons_zero]); go_simp; try (with_reducible rfl))
            simp only [Act.put, List.getElem_toArray, List.getElem_cons_succ, List.getElem_cons_zero, List.setIfInBounds_toArray, List.set_cons_zero, List.set_cons_succ]
            refine wpAnyG_take (v := ?_) 12 (by rfl) (by kernel_rfl) (by kernel_rfl) (by kernel_rfl) (by kernel_rfl) (fun _ _ _ h => h) (Or.inl ⟨by rfl, ?_⟩) (by assumption) ?_
            rotate_left
            · (intro w' hSw; (try dsimp only at hSw); (try simp only [List.getElem_toArray, List.getElem_cons_succ, List.getElem_cons_zero]); go_simp; try (with_reducible rfl))
            simp only [Act.put, List.getElem_toArray, List.getElem_cons_succ, List.getElem_cons_zero, List.setIfInBounds_toArray, List.set_cons_zero, List.set_cons_succ]
            refine wpAnyG_take (v := ?_) 13 (by rfl) (by kernel_rfl) (by kernel_rfl) (by kernel_rfl) (by kernel_rfl) (fun _ _ _ h => h) (Or.inl ⟨by rfl, ?_⟩) (by assumption) ?_
            rotate_left
            · (intro w' hSw; (try dsimp only at hSw); (try simp only [List.getElem_toArray, List.getElem_cons_succ, List.getElem_cons_zero]); go_simp; try (with_reducible rfl))
            simp only [Act.put, List.getElem_toArray, List.getElem_cons_succ, List.getElem_cons_zero, List.setIfInBounds_toArray, List.set_cons_zero, List.set_cons_succ]
            refine wpAnyG_take (v := ?_) 14 (by rfl) (by kernel_rfl) (by kernel_rfl) (by kernel_rfl) (by kernel_rfl) (fun _ _ _ h => h) (Or.inl ⟨by rfl, ?_⟩) (by assumption) ?_
            rotate_left
            · (intro w' hSw; (try dsimp only at hSw); (try simp only [List.getElem_toArray, List.getElem_cons_succ, List.getElem_cons_zero]); go_simp; try (with_reducible rfl))
            simp only [Act.put, List.getElem_toArray, List.getElem_cons_succ, List.getElem_cons_zero, List.setIfInBounds_toArray, List.set_cons_zero, List.set_cons_succ]
            refine wpAnyG_take (v := ?_) 15 (by rfl) (by kernel_rfl) (by kernel_rfl) (by kernel_rfl) (by kernel_rfl) (fun _ _ _ h => h) (Or.inl ⟨by rfl, ?_⟩) (by assumption) ?_
            rotate_left
            · (intro w' hSw; (try dsimp only at hSw); (try simp only [List.getElem_toArray, List.getElem_cons_succ, List.getElem_cons_zero]); go_simp; try (with_reducible rfl))
            simp only [Act.put, List.getElem_toArray, List.getElem_cons_succ, List.getElem_cons_zero, List.setIfInBounds_toArray, List.set_cons_zero, List.set_cons_succ]
            refine wpAnyG_take (v := ?_) 16 (by rfl) (by kernel_rfl) (by kernel_rfl) (by kernel_rfl) (by kernel_rfl) (fun _ _ _ h => h) (Or.inl ⟨by rfl, ?_⟩) (by assumption) ?_
            rotate_left
            · (intro w' hSw; (try dsimp only at hSw); (try simp only [List.getElem_toArray, List.getElem_cons_succ, List.getElem_cons_zero]); go_simp; try (with_reducible rfl))
            simp only [Act.put, List.getElem_toArray, List.getElem_cons_succ, List.getElem_cons_zero, List.setIfInBounds_toArray, List.set_cons_zero, List.set_cons_succ]
            refine wpAnyG_take (v := ?_) 17 (by rfl) (by kernel_rfl) (by kernel_rfl) (by kernel_rfl) (by kernel_rfl) (fun _ _ _ h => h) (Or.inl ⟨by rfl, ?_⟩) (by assumption) ?_
            rotate_left
            · (intro w' hSw; (try dsimp only at hSw); (try simp only [List.getElem_toArray, List.getElem_cons_succ, List.getElem_cons_zero]); go_simp; try (with_reducible rfl))
            simp only [Act.put, List.getElem_toArray, List.getElem_cons_succ, List.getElem_cons_zero, List.setIfInBounds_toArray, List.set_cons_zero, List.set_cons_succ]
            refine wpAnyG_ready [18, 19] (by kernel_rfl) (by simp) ?_
            refine AllReadyG.cons 18 (by rfl) (fun K hK => ?_) ?_
            · simp only [List.getElem_toArray, List.getElem_cons_succ, List.getElem_cons_zero]
              go_simp
              refine hK.out _ _ (unhide HRD _ (Below.alloc hbq hbq.size (.cells #[.int .i64 0, .int .i64 0, .int .i64 0] 30))) (fun _ => ?_)
              clear hK K
              try simp only [Act.put, List.setIfInBounds_toArray, List.set_cons_zero, List.set_cons_succ]
              have hba := Below.alloc hbq hbq.size (.cells #[.int .i64 0, .int .i64 0, .int .i64 0] 30)
              have hsa : (wq.alloc (.cells #[.int .i64 0, .int .i64 0, .int .i64 0] 30)).heap.size = wq.heap.size + 1 := by simp
              have hha : (wq.alloc (.cells #[.int .i64 0, .int .i64 0, .int .i64 0] 30)).heap[wq.heap.size]? = some (.cells #[.int .i64 0, .int .i64 0, .int .i64 0] 30) := heap_alloc_new wq _
              obtain ⟨ga, hga⟩ : ∃ g, g = wq.heap.size := ⟨_, rfl⟩
              have hwa : wr.heap.size ≤ ga := by rw [hga]; exact hbq.size
              rw [← hga] at hha
              have hla : ga < (wq.alloc (.cells #[.int .i64 0, .int .i64 0, .int .i64 0] 30)).heap.size := by omega
              try rw [← hga]
              generalize wq.alloc (.cells #[.int .i64 0, .int .i64 0, .int .i64 0] 30) = wla at *
              clear hga hsa
              refine wpAnyG_ready [19] (by kernel_rfl) (by simp) ?_
              refine AllReadyG.cons 19 (by rfl) (fun K hK => ?_) ?_
              · simp only [List.getElem_toArray, List.getElem_cons_succ, List.getElem_cons_zero]
                go_simp
                refine hK.out _ _ (unhide HRD _ (Below.alloc hba hba.size (.cells #[.int .i64 0, .int .i64 0, .int .i64 0] 30))) (fun _ => ?_)
                clear hK K
                try simp only [Act.put, List.setIfInBounds_toArray, List.set_cons_zero, List.set_cons_succ]
                have hbb := Below.alloc hba hba.size (.cells #[.int .i64 0, .int .i64 0, .int .i64 0] 30)
                have hsb : (wla.alloc (.cells #[.int .i64 0, .int .i64 0, .int .i64 0] 30)).heap.size = wla.heap.size + 1 := by simp
                have hhb : (wla.alloc (.cells #[.int .i64 0, .int .i64 0, .int .i64 0] 30)).heap[wla.heap.size]? = some (.cells #[.int .i64 0, .int .i64 0, .int .i64 0] 30) := heap_alloc_new wla _
                have hha' : (wla.alloc (.cells #[.int .i64 0, .int .i64 0, .int .i64 0] 30)).heap[ga]? = some (.cells #[.int .i64 0, .int .i64 0, .int .i64 0] 30) := ((Below.refl _ wla).alloc (Nat.le_refl _) _ |>.block _ hla).trans hha
                obtain ⟨gb, hgb⟩ : ∃ g, g = wla.heap.size := ⟨_, rfl⟩
                have hwb : wr.heap.size ≤ gb := by rw [hgb]; exact hba.size
                have hne : ga ≠ gb := by omega
                rw [← hgb] at hhb
                have hlb : gb < (wla.alloc (.cells #[.int .i64 0, .int .i64 0, .int .i64 0] 30)).heap.size := by omega
                try rw [← hgb]
                generalize wla.alloc (.cells #[.int .i64 0, .int .i64 0, .int .i64 0] 30) = wlb at *
                clear hgb hsb
                obtain ⟨k0, k1, k2q, kf⟩ := arc_cells hha'
                have k1' := fun v : Value => show (wlb.setCell ⟨ga, 0, none⟩ v).cell? ⟨ga, 1, none⟩ = some _ by rw [cell_set_ne (by omega)]; exact k1
                have k2' := fun v u : Value => show ((wlb.setCell ⟨ga, 0, none⟩ v).setCell ⟨ga, 1, none⟩ u).cell? ⟨ga, 2, none⟩ = some _ by rw [cell_set_ne (by omega), cell_set_ne (by omega)]; exact k2q
                refine wpAnyG_ready [20] (by kernel_rfl) (by simp) ?_
                refine AllReadyG.cons 20 (by rfl) (fun K hK => ?_) ?_
                · simp only [List.getElem_toArray, List.getElem_cons_succ, List.getElem_cons_zero]
                  go_simp
                  have hza := ((hbb.setCell (p := ⟨ga, 0, none⟩) hwa (.int .i64 (f : Int))).setCell (p := ⟨ga, 1, none⟩) hwa (.int .i64 (t : Int))).setCell (p := ⟨ga, 2, none⟩) hwa (.int .i64 l)
                  refine hK.out _ _ (unhide HRD _ hza) (fun _ => ?_)
                  clear hK K
                  try simp only [Act.put, List.setIfInBounds_toArray, List.set_cons_zero, List.set_cons_succ]
                  have hya := arc_set hha' (.int .i64 (f : Int)) (.int .i64 (t : Int)) (.int .i64 l)
                  have hyb2 := (set_other3 (w := wlb) (b := ga) (c := gb) (by omega) (.int .i64 (f : Int)) (.int .i64 (t : Int)) (.int .i64 l)).trans hhb
                  clear k0 k1 k2q kf k1' k2'
                  generalize (((wlb.setCell ⟨ga, 0, none⟩ (.int .i64 (f : Int))).setCell ⟨ga, 1, none⟩ (.int .i64 (t : Int))).setCell ⟨ga, 2, none⟩ (.int .i64 l)) = wsa at *
                  obtain ⟨k0, k1, k2q, kf⟩ := arc_cells hyb2
                  have k1' := fun v : Value => show (wsa.setCell ⟨gb, 0, none⟩ v).cell? ⟨gb, 1, none⟩ = some _ by rw [cell_set_ne (by omega)]; exact k1
                  have k2' := fun v u : Value => show ((wsa.setCell ⟨gb, 0, none⟩ v).setCell ⟨gb, 1, none⟩ u).cell? ⟨gb, 2, none⟩ = some _ by rw [cell_set_ne (by omega), cell_set_ne (by omega)]; exact k2q
                  refine wpAnyG_ready [21] (by kernel_rfl) (by simp) ?_
                  refine AllReadyG.cons 21 (by rfl) (fun K hK => ?_) ?_
                  · simp only [List.getElem_toArray, List.getElem_cons_succ, List.getElem_cons_zero]
                    go_simp
                    have hzb := ((hza.setCell (p := ⟨gb, 0, none⟩) hwb (.int .i64 (t : Int))).setCell (p := ⟨gb, 1, none⟩) hwb (.int .i64 (t2 : Int))).setCell (p := ⟨gb, 2, none⟩) hwb (.int .i64 l2)
                    refine hK.out _ _ (unhide HRD _ hzb) (fun _ => ?_)
                    clear hK K
                    try simp only [Act.put, List.setIfInBounds_toArray, List.set_cons_zero, List.set_cons_succ]
                    have hyb := arc_set hyb2 (.int .i64 (t : Int)) (.int .i64 (t2 : Int)) (.int .i64 l2)
                    have hya2 := (set_other3 (w := wsa) (b := gb) (c := ga) (by omega) (.int .i64 (t : Int)) (.int .i64 (t2 : Int)) (.int .i64 l2)).trans hya
                    clear k0 k1 k2q kf k1' k2'
                    generalize (((wsa.setCell ⟨gb, 0, none⟩ (.int .i64 (t : Int))).setCell ⟨gb, 1, none⟩ (.int .i64 (t2 : Int))).setCell ⟨gb, 2, none⟩ (.int .i64 l2)) = wsb at *
                    refine wpAnyG_done (by kernel_rfl) ?_ _
                    refine NoPanic.normal ?_
                    go_wp2
                    go_meet
                    exact ⟨ga, gb, _, rfl, rfl, rfl, hide ⟨hzb, hwa, hwb, hya2, hyb⟩⟩
                  exact AllReadyG.nil
                exact AllReadyG.nil
              exact AllReadyG.nil
            refine AllReadyG.cons 19 (by rfl) (fun K hK => ?_) ?_
            · simp only [List.getElem_toArray, List.getElem_cons_succ, List.getElem_cons_zero]
              go_simp
              refine hK.out _ _ (unhide HRD _ (Below.alloc hbq hbq.size (.cells #[.int .i64 0, .int .i64 0, .int .i64 0] 30))) (fun _ => ?_)
              clear hK K
              try simp only [Act.put, List.setIfInBounds_toArray, List.set_cons_zero, List.set_cons_succ]
              have hbb := Below.alloc hbq hbq.size (.cells #[.int .i64 0, .int .i64 0, .int .i64 0] 30)
              have hsb : (wq.alloc (.cells #[.int .i64 0, .int .i64 0, .int .i64 0] 30)).heap.size = wq.heap.size + 1 := by simp
              have hhb : (wq.alloc (.cells #[.int .i64 0, .int .i64 0, .int .i64 0] 30)).heap[wq.heap.size]? = some (.cells #[.int .i64 0, .int .i64 0, .int .i64 0] 30) := heap_alloc_new wq _
              obtain ⟨gb, hgb⟩ : ∃ g, g = wq.heap.size := ⟨_, rfl⟩
              have hwb : wr.heap.size ≤ gb := by rw [hgb]; exact hbq.size
              rw [← hgb] at hhb
              have hlb : gb < (wq.alloc (.cells #[.int .i64 0, .int .i64 0, .int .i64 0] 30)).heap.size := by omega
              try rw [← hgb]
              generalize wq.alloc (.cells #[.int .i64 0, .int .i64 0, .int .i64 0] 30) = wlb at *
              clear hgb hsb
              refine wpAnyG_ready [18] (by kernel_rfl) (by simp) ?_
              refine AllReadyG.cons 18 (by rfl) (fun K hK => ?_) ?_
              · simp only [List.getElem_toArray, List.getElem_cons_succ, List.getElem_cons_zero]
                go_simp
                refine hK.out _ _ (unhide HRD _ (Below.alloc hbb hbb.size (.cells #[.int .i64 0, .int .i64 0, .int .i64 0] 30))) (fun _ => ?_)
                clear hK K
                try simp only [Act.put, List.setIfInBounds_toArray, List.set_cons_zero, List.set_cons_succ]
                have hba := Below.alloc hbb hbb.size (.cells #[.int .i64 0, .int .i64 0, .int .i64 0] 30)
                have hsa : (wlb.alloc (.cells #[.int .i64 0, .int .i64 0, .int .i64 0] 30)).heap.size = wlb.heap.size + 1 := by simp
                have hha : (wlb.alloc (.cells #[.int .i64 0, .int .i64 0, .int .i64 0] 30)).heap[wlb.heap.size]? = some (.cells #[.int .i64 0, .int .i64 0, .int .i64 0] 30) := heap_alloc_new wlb _
                have hhb' : (wlb.alloc (.cells #[.int .i64 0, .int .i64 0, .int .i64 0] 30)).heap[gb]? = some (.cells #[.int .i64 0, .int .i64 0, .int .i64 0] 30) := ((Below.refl _ wlb).alloc (Nat.le_refl _) _ |>.block _ hlb).trans hhb
                obtain ⟨ga, hga⟩ : ∃ g, g = wlb.heap.size := ⟨_, rfl⟩
                have hwa : wr.heap.size ≤ ga := by rw [hga]; exact hbb.size
                have hne : gb ≠ ga := by omega
                rw [← hga] at hha
                have hla : ga < (wlb.alloc (.cells #[.int .i64 0, .int .i64 0, .int .i64 0] 30)).heap.size := by omega
                try rw [← hga]
                generalize wlb.alloc (.cells #[.int .i64 0, .int .i64 0, .int .i64 0] 30) = wla at *
                clear hga hsa
                obtain ⟨k0, k1, k2q, kf⟩ := arc_cells hha
                have k1' := fun v : Value => show (wla.setCell ⟨ga, 0, none⟩ v).cell? ⟨ga, 1, none⟩ = some _ by rw [cell_set_ne (by omega)]; exact k1
                have k2' := fun v u : Value => show ((wla.setCell ⟨ga, 0, none⟩ v).setCell ⟨ga, 1, none⟩ u).cell? ⟨ga, 2, none⟩ = some _ by rw [cell_set_ne (by omega), cell_set_ne (by omega)]; exact k2q
                refine wpAnyG_ready [20] (by kernel_rfl) (by simp) ?_
                refine AllReadyG.cons 20 (by rfl) (fun K hK => ?_) ?_
                · simp only [List.getElem_toArray, List.getElem_cons_succ, List.getElem_cons_zero]
                  go_simp
                  have hza := ((hba.setCell (p := ⟨ga, 0, none⟩) hwa (.int .i64 (f : Int))).setCell (p := ⟨ga, 1, none⟩) hwa (.int .i64 (t : Int))).setCell (p := ⟨ga, 2, none⟩) hwa (.int .i64 l)
                  refine hK.out _ _ (unhide HRD _ hza) (fun _ => ?_)
                  clear hK K
                  try simp only [Act.put, List.setIfInBounds_toArray, List.set_cons_zero, List.set_cons_succ]
                  have hya := arc_set hha (.int .i64 (f : Int)) (.int .i64 (t : Int)) (.int .i64 l)
                  have hyb2 := (set_other3 (w := wla) (b := ga) (c := gb) (by omega) (.int .i64 (f : Int)) (.int .i64 (t : Int)) (.int .i64 l)).trans hhb'
                  clear k0 k1 k2q kf k1' k2'
                  generalize (((wla.setCell ⟨ga, 0, none⟩ (.int .i64 (f : Int))).setCell ⟨ga, 1, none⟩ (.int .i64 (t : Int))).setCell ⟨ga, 2, none⟩ (.int .i64 l)) = wsa at *
                  obtain ⟨k0, k1, k2q, kf⟩ := arc_cells hyb2
                  have k1' := fun v : Value => show (wsa.setCell ⟨gb, 0, none⟩ v).cell? ⟨gb, 1, none⟩ = some _ by rw [cell_set_ne (by omega)]; exact k1
                  have k2' := fun v u : Value => show ((wsa.setCell ⟨gb, 0, none⟩ v).setCell ⟨gb, 1, none⟩ u).cell? ⟨gb, 2, none⟩ = some _ by rw [cell_set_ne (by omega), cell_set_ne (by omega)]; exact k2q
                  refine wpAnyG_ready [21] (by kernel_rfl) (by simp) ?_
                  refine AllReadyG.cons 21 (by rfl) (fun K hK => ?_) ?_
                  · simp only [List.getElem_toArray, List.getElem_cons_succ, List.getElem_cons_zero]
                    go_simp
                    have hzb := ((hza.setCell (p := ⟨gb, 0, none⟩) hwb (.int .i64 (t : Int))).setCell (p := ⟨gb, 1, none⟩) hwb (.int .i64 (t2 : Int))).setCell (p := ⟨gb, 2, none⟩) hwb (.int .i64 l2)
                    refine hK.out _ _ (unhide HRD _ hzb) (fun _ => ?_)
                    clear hK K
                    try simp only [Act.put, List.setIfInBounds_toArray, List.set_cons_zero, List.set_cons_succ]
                    have hyb := arc_set hyb2 (.int .i64 (t : Int)) (.int .i64 (t2 : Int)) (.int .i64 l2)
                    have hya2 := (set_other3 (w := wsa) (b := gb) (c := ga) (by omega) (.int .i64 (t : Int)) (.int .i64 (t2 : Int)) (.int .i64 l2)).trans hya
                    clear k0 k1 k2q kf k1' k2'
                    generalize (((wsa.setCell ⟨gb, 0, none⟩ (.int .i64 (t : Int))).setCell ⟨gb, 1, none⟩ (.int .i64 (t2 : Int))).setCell ⟨gb, 2, none⟩ (.int .i64 l2)) = wsb at *
                    refine wpAnyG_done (by kernel_rfl) ?_ _
                    refine NoPanic.normal ?_
                    go_wp2
                    go_meet
                    exact ⟨ga, gb, _, rfl, rfl, rfl, hide ⟨hzb, hwa, hwb, hya2, hyb⟩⟩
                  exact AllReadyG.nil
                exact AllReadyG.nil
              exact AllReadyG.nil
            exact AllReadyG.nil

          case rest =>
            obtain ⟨ga, gb, wx, rfl, rfl, rfl, HZ⟩ := hcut
            obtain ⟨p0, p1, p2, -⟩ := arc_cells (unhide HZ).2.2.2.1
            obtain ⟨r0, r1, r2, -⟩ := arc_cells (unhide HZ).2.2.2.2
            obtain ⟨hbx, hrx, hfx, hcx, hGl⟩ := unhide HB _ (unhide HZ).1
            have hga := (unhide HZ).2.1
            have htt : ((t : Int) != (t : Int)) = false := by simp
            have p2' : (wx.setCell ⟨G, f, none⟩ (.bool true)).cell? ⟨ga, 2, none⟩ = some (.int .i64 l) := (World.cell?_of_block (w := wx) (Below.heap_setCell _ _ _ _ (by show ga ≠ G; omega))).trans p2
            have HI2 : Hid (Below w.heap.size w (wx.setCell ⟨G, f, none⟩ (.bool true)) ∧ RowB (wx.setCell ⟨G, f, none⟩ (.bool true)) G N (Sp.updB B f true)) := hide ⟨hbx.setCell (p := ⟨G, f, none⟩) (unhide HGe) _, hrx.set _ _⟩
            clear hbx hrx HB HRD HI hga hGl HZ
            go_wp2
            go_roundg g'
            case rel => exact ⟨i + 1, Sp.updB B f true, by omega, by rw [(unhide HSn).1], by go_num, hide ⟨(unhide HI2).1, (unhide HI2).2, (unhide HSn).2⟩⟩
            case measure => omega
        | zero =>
          obtain rfl : q = i := by omega
          clear hig
          have hsum := (unhide HRn).sum
          obtain ⟨hs0, hs1⟩ := unhide HSm q (Nat.le_refl _)
          obtain ⟨hk, hf, -, -, -⟩ := unhide HF 0 hq0
          obtain ⟨rb, ro, rfl, hr1⟩ := unhide HRc 0 hq0
          obtain ⟨b, o, rfl, -, hc1⟩ := unhide HA (K 0) hk
          have HAt := hide (unhide HRn).att
          have HRD : Hid (∀ w', Below wr.heap.size wr w' → w'.cell? ⟨rb, ro, none⟩ = some (.int .i64 ((K 0 : Nat) : Int)) ∧ w'.cell? ⟨b, o + K 0 * 3, none⟩ = some (.int .i64 ((L.getD (K 0) Sp.arc0).f : Int))) := hide fun w' hb => by
            have hb2 := (unhide HI).1.trans (hb.mono (unhide HI).1.size)
            exact ⟨hr1 w' hb2, (hc1 w' hb2).1⟩
          have HBw := hide (unhide HI).1
          have hkI : ((K 0 : Nat) : Int) < (L.length : Int) := by omega
          have hqI : (0 : Int) < (q : Int) := by omega
          clear hr1 hc1 HI HF HSm HRc HA HRn
          generalize K 0 = k at *
          generalize (L.getD k Sp.arc0).f = f at *
          generalize Sp.smK L K q = sm at *
          have hfI : (f : Int) < (N : Int) := by omega
          go_upto_region 18 with fail
          have hbq := (Below.refl wr.heap.size wr).drew
          refine wp_region_G (fun w' => w'.cell? ⟨rb, ro, none⟩ = some (.int .i64 (k : Int)) ∧ w'.cell? ⟨b, o + k * 3, none⟩ = some (.int .i64 (f : Int))) (fun _ => false) (by kernel_rfl) (unhide HRD _ hbq) (fun hHeld => ?_)
          generalize wr.drew = wq at *
          refine wpAnyG_take (v := ?_) 0 (by rfl) (by kernel_rfl) (by kernel_rfl) (by kernel_rfl) (by kernel_rfl) (fun _ _ _ h => h) (Or.inl ⟨by rfl, ?_⟩) (by assumption) ?_
          rotate_left
          · (intro w' hSw; (try dsimp only at hSw); (try simp only [List.getElem_toArray, List.getElem_cons_zero]); go_simp; try (with_reducible rfl))
          simp only [Act.put, List.getElem_toArray, List.getElem_cons_zero, List.setIfInBounds_toArray, List.set_cons_zero, List.set_cons_succ]
          refine wpAnyG_take (v := ?_) 1 (by rfl) (by kernel_rfl) (by kernel_rfl) (by kernel_rfl) (by kernel_rfl) (fun _ _ _ h => h) (Or.inl ⟨by rfl, ?_⟩) (by assumption) ?_
          rotate_left
          · (intro w' hSw; (try dsimp only at hSw); (try simp only [List.getElem_toArray, List.getElem_cons_succ, List.getElem_cons_zero]); go_simp; try (with_reducible rfl))
          simp only [Act.put, List.getElem_toArray, List.getElem_cons_succ, List.getElem_cons_zero, List.setIfInBounds_toArray, List.set_cons_zero, List.set_cons_succ]
          refine wpAnyG_take (v := ?_) 2 (by rfl) (by kernel_rfl) (by kernel_rfl) (by kernel_rfl) (by kernel_rfl) (fun _ _ _ h => h) (Or.inl ⟨by rfl, ?_⟩) (by assumption) ?_
          rotate_left
          · (intro w' hSw; (try dsimp only at hSw); (try simp only [List.getElem_toArray, List.getElem_cons_succ, List.getElem_cons_zero]); go_simp; try (with_reducible rfl))
          simp only [Act.put, List.getElem_toArray, List.getElem_cons_succ, List.getElem_cons_zero, List.setIfInBounds_toArray, List.set_cons_zero, List.set_cons_succ]
          refine wpAnyG_take (v := ?_) 3 (by rfl) (by kernel_rfl) (by kernel_rfl) (by kernel_rfl) (by kernel_rfl) (fun _ _ _ h => h) (Or.inl ⟨by rfl, ?_⟩) (by assumption) ?_
          rotate_left
          · (intro w' hSw; (try dsimp only at hSw); (try simp only [List.getElem_toArray, List.getElem_cons_succ, List.getElem_cons_zero]); go_simp; try (with_reducible rfl))
          simp only [Act.put, List.getElem_toArray, List.getElem_cons_succ, List.getElem_cons_zero, List.setIfInBounds_toArray, List.set_cons_zero, List.set_cons_succ]
          refine wpAnyG_take (v := ?_) 4 (by rfl) (by kernel_rfl) (by kernel_rfl) (by kernel_rfl) (by kernel_rfl) (fun _ _ _ h => h) (Or.inl ⟨by rfl, ?_⟩) (by assumption) ?_
          rotate_left
          · (intro w' hSw; (try dsimp only at hSw); (try simp only [List.getElem_toArray, List.getElem_cons_succ, List.getElem_cons_zero]); go_simp; try (with_reducible rfl))
          simp only [Act.put, List.getElem_toArray, List.getElem_cons_succ, List.getElem_cons_zero, List.setIfInBounds_toArray, List.set_cons_zero, List.set_cons_succ]
          refine wpAnyG_take (v := ?_) 5 (by rfl) (by kernel_rfl) (by kernel_rfl) (by kernel_rfl) (by kernel_rfl) (fun _ _ _ h => h) (Or.inl ⟨by rfl, ?_⟩) (by assumption) ?_
          rotate_left
          · (intro w' hSw; (try dsimp only at hSw); (try simp only [List.getElem_toArray, List.getElem_cons_succ, List.getElem_cons_zero]); go_simp; try (with_reducible rfl))
          simp only [Act.put, List.getElem_toArray, List.getElem_cons_succ, List.getElem_cons_zero, List.setIfInBounds_toArray, List.set_cons_zero, List.set_cons_succ]
          refine wpAnyG_take (v := ?_) 7 (by rfl) (by kernel_rfl) (by kernel_rfl) (by kernel_rfl) (by kernel_rfl) (fun _ _ _ h => h) (Or.inl ⟨by rfl, ?_⟩) (by assumption) ?_
          rotate_left
          · (intro w' hSw; (try dsimp only at hSw); (try simp only [List.getElem_toArray, List.getElem_cons_succ, List.getElem_cons_zero]); go_simp; try (with_reducible rfl))
          simp only [Act.put, List.getElem_toArray, List.getElem_cons_succ, List.getElem_cons_zero, List.setIfInBounds_toArray, List.set_cons_zero, List.set_cons_succ]
          refine wpAnyG_take (v := ?_) 8 (by rfl) (by kernel_rfl) (by kernel_rfl) (by kernel_rfl) (by kernel_rfl) (fun _ _ _ h => h) (Or.inl ⟨by rfl, ?_⟩) (by assumption) ?_
          rotate_left
          · (intro w' hSw; (try dsimp only at hSw); (try simp only [List.getElem_toArray, List.getElem_cons_succ, List.getElem_cons_zero]); go_simp; try (with_reducible rfl))
          simp only [Act.put, List.getElem_toArray, List.getElem_cons_succ, List.getElem_cons_zero, List.setIfInBounds_toArray, List.set_cons_zero, List.set_cons_succ]
          refine wpAnyG_take (v := ?_) 9 (by rfl) (by kernel_rfl) (by kernel_rfl) (by kernel_rfl) (by kernel_rfl) (fun _ _ _ h => h) (Or.inl ⟨by rfl, ?_⟩) (by assumption) ?_
          rotate_left
          · (intro w' hSw; (try dsimp only at hSw); (try simp only [List.getElem_toArray, List.getElem_cons_succ, List.getElem_cons_zero]); go_simp; try (with_reducible rfl))
          simp only [Act.put, List.getElem_toArray, List.getElem_cons_succ, List.getElem_cons_zero, List.setIfInBounds_toArray, List.set_cons_zero, List.set_cons_succ]
          refine wpAnyG_take (v := ?_) 10 (by rfl) (by kernel_rfl) (by kernel_rfl) (by kernel_rfl) (by kernel_rfl) (fun _ _ _ h => h) (Or.inl ⟨by rfl, ?_⟩) (by assumption) ?_
          rotate_left
          · (intro w' hSw; (try dsimp only at hSw); (try simp only [List.getElem_toArray, List.getElem_cons_succ, List.getElem_cons_zero]); go_simp; try (with_reducible rfl))
          simp only [Act.put, List.getElem_toArray, List.getElem_cons_succ, List.getElem_cons_zero, List.setIfInBounds_toArray, List.set_cons_zero, List.set_cons_succ]
          refine wpAnyG_take (v := ?_) 11 (by rfl) (by kernel_rfl) (by kernel_rfl) (by kernel_rfl) (by kernel_rfl) (fun _ _ _ h => h) (Or.inl ⟨by rfl, ?_⟩) (by assumption) ?_
          rotate_left
          · (intro w' hSw; (try dsimp only at hSw); (try simp only [List.getElem_toArray, List.getElem_cons_succ, List.getElem_cons_zero]); go_simp; try (with_reducible rfl))
          simp only [Act.put, List.getElem_toArray, List.getElem_cons_succ, List.getElem_cons_zero, List.setIfInBounds_toArray, List.set_cons_zero, List.set_cons_succ]
          refine wpAnyG_take (v := ?_) 12 (by rfl) (by kernel_rfl) (by kernel_rfl) (by kernel_rfl) (by kernel_rfl) (fun _ _ _ h => h) (Or.inl ⟨by rfl, ?_⟩) (by assumption) ?_
          rotate_left
          · (intro w' hSw; (try dsimp only at hSw); (try simp only [List.getElem_toArray, List.getElem_cons_succ, List.getElem_cons_zero]); go_simp; try (with_reducible rfl))
          simp only [Act.put, List.getElem_toArray, List.getElem_cons_succ, List.getElem_cons_zero, List.setIfInBounds_toArray, List.set_cons_zero, List.set_cons_succ]
          refine wpAnyG_take (v := ?_) 13 (by rfl) (by kernel_rfl) (by kernel_rfl) (by kernel_rfl) (by kernel_rfl) (fun _ _ _ h => h) (Or.inl ⟨by rfl, ?_⟩) (by assumption) ?_
          rotate_left
          · (intro w' hSw; (try dsimp only at hSw); (try simp only [List.getElem_toArray, List.getElem_cons_succ, List.getElem_cons_zero]); go_simp; try (with_reducible rfl))
          simp only [Act.put, List.getElem_toArray, List.getElem_cons_succ, List.getElem_cons_zero, List.setIfInBounds_toArray, List.set_cons_zero, List.set_cons_succ]
          refine wpAnyG_ready [6] (by kernel_rfl) (by simp) ?_
          refine AllReadyG.cons 6 (by rfl) (fun K hK => ?_) ?_
          · simp only [List.getElem_toArray, List.getElem_cons_succ, List.getElem_cons_zero]
            go_simp
            go_at_call 30
            refine (unhide HRe wq ((unhide HBw).trans (hbq.mono (unhide HBw).size))).mono ?_
            rintro e wc ⟨G2, B2, rfl, hr2, hbc, hclo⟩
            have hbb := Below.trans hbq (hbc.mono hbq.size)
            have c2 := hr2.cell hf
            obtain ⟨m, x, hwk⟩ := unhide HAt
            rw [Sp.clo.wk hclo m f x hwk] at c2
            refine hK.out _ _ (unhide HRD _ hbb) (fun _ => ?_)
            clear hK K
            try simp only [Act.put, List.setIfInBounds_toArray, List.set_cons_zero, List.set_cons_succ]
            refine wpAnyG_take (v := ?_) 14 (by rfl) (by kernel_rfl) (by kernel_rfl) (by kernel_rfl) (by kernel_rfl) (fun _ _ _ h => h) (Or.inl ⟨by rfl, ?_⟩) (by assumption) ?_
            rotate_left
            · (intro w' hSw; (try dsimp only at hSw); (try simp only [List.getElem_toArray, List.getElem_cons_succ, List.getElem_cons_zero]); go_simp; try (with_reducible rfl))
            simp only [Act.put, List.getElem_toArray, List.getElem_cons_succ, List.getElem_cons_zero, List.setIfInBounds_toArray, List.set_cons_zero, List.set_cons_succ]
            refine wpAnyG_ready [15] (by kernel_rfl) (by simp) ?_
            refine AllReadyG.cons 15 (by rfl) (fun K hK => ?_) ?_
            · simp only [List.getElem_toArray, List.getElem_cons_succ, List.getElem_cons_zero]
              go_simp
              refine hK.out _ _ (unhide HRD _ hbb) (fun _ => ?_)
              clear hK K
              try simp only [Act.put, List.setIfInBounds_toArray, List.set_cons_zero, List.set_cons_succ]
              refine wpAnyG_take (v := ?_) 16 (by rfl) (by kernel_rfl) (by kernel_rfl) (by kernel_rfl) (by kernel_rfl) (fun _ _ _ h => h) (Or.inl ⟨by rfl, ?_⟩) (by assumption) ?_
              rotate_left
              · (intro w' hSw; (try dsimp only at hSw); (try simp only [List.getElem_toArray, List.getElem_cons_succ, List.getElem_cons_zero]); go_simp; try (with_reducible rfl))
              simp only [Act.put, List.getElem_toArray, List.getElem_cons_succ, List.getElem_cons_zero, List.setIfInBounds_toArray, List.set_cons_zero, List.set_cons_succ]
              refine wpAnyG_take (v := ?_) 17 (by rfl) (by kernel_rfl) (by kernel_rfl) (by kernel_rfl) (by kernel_rfl) (fun _ _ _ h => h) (Or.inl ⟨by rfl, ?_⟩) (by assumption) ?_
              rotate_left
              · (intro w' hSw; (try dsimp only at hSw); (try simp only [List.getElem_toArray, List.getElem_cons_succ, List.getElem_cons_zero]); go_simp; try (with_reducible rfl))
              simp only [Act.put, List.getElem_toArray, List.getElem_cons_succ, List.getElem_cons_zero, List.setIfInBounds_toArray, List.set_cons_zero, List.set_cons_succ]
              refine wpAnyG_done (by kernel_rfl) ?_ _
              refine NoPanic.normal ?_
              go_wp2
              rw [unhide HP]
              exact ⟨rfl, (unhide HBw).trans (hbb.mono (unhide HBw).size)⟩
            exact AllReadyG.nil
          exact AllReadyG.nil


end Go.Proofs.Ytggjpglakocilaa


/- The law PathFrom, walked. -/
namespace Go.Proofs.Ytggjpglakocilaa
open Go Go.RowKit

theorem Sp.Short.pos {L : List Sp.Arc} {s n : Nat} {D : Nat → Int} (h : Sp.Short 1152921504606846976 L s n D) (hp : ∀ a ∈ L, 0 ≤ a.l) {v : Nat} (hv : v < n) : 0 ≤ D v := by
  have hw : ∀ m v x, Sp.Wk L s m v x → 0 ≤ x := by
    intro m
    induction m with
    | zero => intro v x hw; have := hw.2; omega
    | succ m ih =>
      intro v x hw
      obtain ⟨a, ha, -, hw⟩ := hw
      have := ih _ _ hw
      have := hp a ha
      omega
  by_cases h1 : D v = 1152921504606846976
  · rw [h1]; decide
  · obtain ⟨m, hm⟩ := h.att v hv h1
    exact hw m v _ hm
theorem Sp.rows_eq {L : List Sp.Arc} {s n : Nat} {D D' : Nat → Int} (h : Sp.Short 1152921504606846976 L s n D) (h' : Sp.Short 1152921504606846976 L s n D') : (List.range n).map D = (List.range n).map D' :=
  List.map_congr_left fun v hv => h.uniq h' (by decide) (List.mem_range.1 hv)
end Go.Proofs.Ytggjpglakocilaa


/- The law PathAny, walked. -/
namespace Go.Proofs.Ytggjpglakocilaa
open Go Go.RowKit

theorem Sp.pk_att {N s : Nat} {L : List Sp.Arc} (hS : Sp.Snd N L) (k : Nat) : ∀ v, v < N → Sp.pk L s k v ≠ 1152921504606846976 → ∃ m x, Sp.Wk L s m v x := fun v hv hne => by
  obtain ⟨m, hw⟩ := (Sp.Att.ps (L := L) (n := N) (by decide) (fun a ha => (hS.at_ a ha).1) (Sp.att0 (s := s) (by decide)) k).att v hv hne
  exact ⟨m, _, hw⟩
/-- Any where no row is: a round is told. -/
theorem any_rnd (N : Nat) (L : List Sp.Arc) (s : Nat) (lv : Value) (w : World) (hl : ArcsI w lv L) (hS : Sp.Snd N L) (hs : s < N) (hN : N ≤ 60) (hex : ∀ k, k < N → ¬ Sp.still L (Sp.pk L s k)) :
    Calls Try.prog 16 #[.int .i64 (N : Int), lv, .int .i64 (s : Int)] w fun e w' => ∃ rv q K, e = .returned (.tuple #[.slice none 0 0, rv, .bool false]) ∧ Below w.heap.size w w' ∧ Sp.Rnd L N s q K ∧ Ints w' rv ((List.range q).map fun i => ((K i : Nat) : Int)) := by
  refine (any_no N L s lv w hl hS hs hN hex).mono ?_
  rintro e w' ⟨rv, q, a, Y, pn, rfl, hb, hA, h1, h2, h3, h4, h5, h6, h7⟩
  obtain ⟨g1, g2⟩ := hA.rnd h1 h2 h3 h4 h5 h6 (Sp.pk_att hS N)
  refine ⟨rv, q, _, rfl, hb, g1, ?_⟩
  have e1 : ((List.range q).map fun i => (((Y (Sp.itb L Y (q - 1 - i) a)).toNat : Nat) : Int)) = ((List.range q).map fun i => Y (Sp.itb L Y (q - 1 - i) a)) := List.map_congr_left fun i hi => (g2 i (List.mem_range.1 hi)).symm
  rw [e1]; exact OwnI.ints h7
set_option maxRecDepth 100000 in
set_option maxHeartbeats 16000000 in
theorem pathAny_any (size s low : Int) (ns : List Int) (nv : Value) (w : World) (hv : Ints w nv ns) :
    Calls Try.prog 4 #[.int .i64 size, nv, .int .i64 s, .int .i64 low] w fun e w' => e = .returned (.bool true) ∧ Below w.heap.size w w' := by
  have HK := hide (known6_any w)
  have hl0 : 0 ≤ low % 4 := Int.emod_nonneg _ (by omega)
  have hl4 : low % 4 < 4 := Int.emod_lt_of_pos _ (by omega)
  obtain ⟨lw, hlw⟩ : ∃ lw, low % 4 = lw := ⟨_, rfl⟩
  have HLw : Hid (∀ w', Calls Try.prog 10 #[.int .i64 low, .int .i64 4] w' fun e w'' => e = .returned (.int .i64 lw) ∧ w'' = w') := hide (fun w' => by rw [← hlw]; exact within6_any low 4 w' (by omega) (by omega))
  rw [hlw] at hl0 hl4
  clear hlw
  have HN0 := hide (fun w' => within6_any size 14 w' (by omega) (by omega))
  have hm0 : 0 ≤ size % 14 := Int.emod_nonneg _ (by omega)
  have hm1 : size % 14 < 14 := Int.emod_lt_of_pos _ (by omega)
  obtain ⟨N, hN⟩ : ∃ N : Nat, 1 + size % 14 = (N : Int) := ⟨(1 + size % 14).toNat, by omega⟩
  have hN1 : 0 < N := by omega
  have hN2 : N ≤ 14 + 1 - 1 := by omega
  have HAr := hide (fun w' (hb : Below w.heap.size w w') => arcs_any N ns lw nv w' (hv.below hb) hN1 (by omega) (by omega) (by omega))
  have HSn : Hid (Sp.Snd N (Sp.arcsOf N ns lw 50)) := hide (Sp.arcsOf_snd hN1 ns (by omega) (by omega))
  have HLn : Hid ((Sp.arcsOf N ns lw 50).length ≤ 50) := hide (by rw [Sp.arcsOf_len]; omega)
  obtain ⟨L, hL⟩ : ∃ L, Sp.arcsOf N ns lw 50 = L := ⟨_, rfl⟩
  rw [hL] at HSn HLn
  simp only [hL] at HAr
  generalize size % 14 = sz at *
  obtain ⟨na, nc, rfl, -, -⟩ := hv.form
  obtain ⟨P, hP⟩ : ∃ P : Ending → World → Prop, P = fun e w' => e = .returned (.bool true) ∧ Below w.heap.size w w' := ⟨_, rfl⟩
  rw [← hP]
  have HP := hide hP
  clear hP
  go_enter Try.func4, Try.ntmps4
  go_wp2_with fail
  go_at_call 9
  refine (unhide HK).mono ?_
  rintro e w1 ⟨rfl, hb1⟩
  have HB1 := hide hb1
  clear hb1 HK
  go_wp2_with fail
  go_at_call 10
  refine (unhide HN0 w1).mono ?_
  rintro e wz ⟨rfl, hwz⟩
  have hwz' := hwz.symm
  subst hwz'
  clear hwz
  clear HN0
  go_wp2_with fail
  go_at_call 10
  refine (unhide HLw w1).mono ?_
  rintro e wz ⟨rfl, hwz⟩
  have hwz' := hwz.symm
  subst hwz'
  clear hwz
  clear HLw
  go_wp2_with fail
  go_at_call 11
  refine (unhide HAr _ (unhide HB1)).mono ?_
  rintro e w3 ⟨lv, rfl, ho3, hb3⟩
  have hwb3 := (unhide HB1).trans (hb3.mono (unhide HB1).size)
  have hal3 := ho3.arcs
  obtain ⟨la, lc, rfl, -⟩ := hal3.form
  have HA3 : Hid (∀ w', Below w3.heap.size w3 w' → ArcsI w' (.slice la L.length lc) L ∧ Below w.heap.size w w') := hide fun w' hb => ⟨hal3.below hb, hwb3.trans (hb.mono hwb3.size)⟩
  have HNN := hide hN
  have hln := unhide HLn
  clear hN HAr ho3 hb3 hwb3 hal3 HB1 hL
  have hx0 : 0 ≤ s % (N : Int) := Int.emod_nonneg _ (by omega)
  have hx1 : s % (N : Int) < (N : Int) := Int.emod_lt_of_pos _ (by omega)
  obtain ⟨x, hx⟩ : ∃ x : Nat, s % (N : Int) = (x : Int) := ⟨(s % (N : Int)).toNat, by omega⟩
  have hxN : x < N := by omega
  have hxI : (x : Int) < (N : Int) := by omega
  have HWtx : Hid (∀ w', Calls Try.prog 10 #[.int .i64 s, .int .i64 (N : Int)] w' fun e w'' => e = .returned (.int .i64 (x : Int)) ∧ w'' = w') := hide (fun w' => by rw [← hx]; exact within6_any s (N : Int) w' (by omega) (by omega))
  clear hx0 hx1 hx
  go_wp2_with fail
  go_at_call 10
  refine (unhide HWtx _).mono ?_
  rintro e wz ⟨rfl, hwz⟩
  have hwz' := hwz.symm
  subst hwz'
  clear hwz
  clear HWtx
  have HAn := hide (fun w' (hb : Below w3.heap.size w3 w') => rAny_any N L x _ w' (unhide HA3 w' hb).1 (unhide HSn) hxN (by omega))
  rcases Sp.pk_case (unhide HSn) hxN (show N ≤ 60 by omega) with hex | ⟨hno, hns⟩
  · have HAy := hide (any_yes N L x _ w3 (unhide HA3 w3 (Below.refl _ _)).1 (unhide HSn) hxN (by omega) hex)
    have HEx := hide hex
    clear hex
    go_wp2_with fail
    go_at_call 16
    refine (unhide HAy).mono ?_
    rintro e w4 ⟨G, D, rfl, hG, hr4, hb4, hD⟩
    have HB4 := hide (And.intro hb4 (And.intro hr4 hD))
    have HAn4 := hide (unhide HAn w4 hb4)
    clear hG hr4 hb4 hD HAy HAn
    go_wp2_with fail
    go_at_call 17
    refine (unhide HAn4).mono ?_
    rintro e w5 ⟨hb5, ⟨G2, D2, rfl, hG2, hr5, hD2⟩ | ⟨rfl, hn⟩⟩
    · have hI0 : Calls Try.prog 13 #[.slice (some ⟨G, 0, none⟩) N N, .slice (some ⟨G2, 0, none⟩) N N] w5 fun e w' => e = .returned (.bool true) ∧ Below w5.heap.size w5 w' := by
        refine (ints6_any _ _ _ _ w5 (((unhide HB4).2.1.below hb5).ints (by omega)) (hr5.ints (by omega)) (by simp; omega)).mono ?_
        rintro e w' ⟨rfl, hb⟩
        rw [Sp.rows_eq (unhide HB4).2.2 hD2]
        exact ⟨by simp, hb⟩
      have HI0 := hide hI0
      have HB5 := hide ((unhide HB4).1.trans (hb5.mono (unhide HB4).1.size))
      clear hI0 hb5 hG2 hr5 hD2 HAn4
      go_wp2_with fail
      go_at_call 13
      refine (unhide HI0).mono ?_
      rintro e w6 ⟨rfl, hb6⟩
      have HE := hide (unhide HA3 _ ((unhide HB5).trans (hb6.mono (unhide HB5).size))).2
      clear hb6
      go_wp2
      rw [unhide HP]
      exact ⟨rfl, unhide HE⟩
    · exact absurd (unhide HEx) hn
  · have HAy := hide (any_rnd N L x _ w3 (unhide HA3 w3 (Below.refl _ _)).1 (unhide HSn) hxN (by omega) hno)
    have HNs := hide hns
    clear hno hns
    go_wp2_with fail
    go_at_call 16
    refine (unhide HAy).mono ?_
    rintro e w4 ⟨rv, q, K, rfl, hb4, hR, hi4⟩
    have HB4 := hide (And.intro hb4 (And.intro hi4 hR))
    have HAn4 := hide (unhide HAn w4 hb4)
    clear hb4 hR hi4 HAy HAn
    go_wp2_with fail
    go_at_call 17
    refine (unhide HAn4).mono ?_
    rintro e w5 ⟨hb5, ⟨G2, D2, rfl, hG2, hr5, hD2⟩ | ⟨rfl, -⟩⟩
    · exact absurd ⟨D2, hD2⟩ (unhide HNs)
    · have HB5 := hide ((unhide HB4).1.trans (hb5.mono (unhide HB4).1.size))
      have HRd := hide (round_yes6 N L x q K _ rv w5 (unhide HA3 w5 (unhide HB5)).1 ((unhide HB4).2.1.below hb5) (unhide HSn) hxN (by omega) (unhide HB4).2.2)
      clear hb5 HAn4
      go_wp2_with fail
      go_at_call 18
      refine (unhide HRd).mono ?_
      rintro e w6 ⟨rfl, hb6⟩
      have HE := hide (unhide HA3 _ ((unhide HB5).trans (hb6.mono (unhide HB5).size))).2
      clear hb6
      go_wp2
      rw [unhide HP]
      exact ⟨rfl, unhide HE⟩
end Go.Proofs.Ytggjpglakocilaa


