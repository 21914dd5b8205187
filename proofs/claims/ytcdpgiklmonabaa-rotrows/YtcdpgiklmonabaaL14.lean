/- What the proof needs, part 14. -/
import Derived.Test.YtcdpgiklmonabaaL13
/- The law RotRows, walked. -/
namespace Go.Proofs.Ytcdpgiklmonabaa
open Go Go.RowKit

/-- What the law asks of a net. -/
structure Sp.RowsQ (q : Sp.Net) : Prop where
  walk : Sp.walkB q = true
  pm : Sp.Perm q.next
theorem Sp.rowsQ_plane (ns : List Int) : Sp.RowsQ (Sp.plane ns) := by
  have h := Sp.plane_ok ns
  exact ⟨h.walk (by omega), h.pm⟩
theorem Sp.rowsQ_make (size : Int) (ms : List Int) : Sp.RowsQ (Sp.make size ms) := by
  obtain ⟨h, h8, h40⟩ := Sp.make_whole size ms
  have l := h.lists
  exact ⟨walkB_of ⟨l.n1, l.n0, l.tl, l.ev, l.nl, l.cl, h.perm.bd, l.tb⟩, h.perm⟩
set_option maxRecDepth 100000 in
set_option maxHeartbeats 4000000 in
theorem rotRows_any (ns ms : List Int) (x y : Value) (size d : Int) (w : World) (hx : Ints w x ns) (hy : Ints w y ms) (hi64 : ∀ y ∈ ms, -9223372036854775808 ≤ y ∧ y ≤ 9223372036854775807) :
    Calls Try.prog 4 #[x, .int .i64 size, y, .int .i64 d] w fun e w' => e = .returned (.bool true) ∧ Below w.heap.size w w' := by
  obtain ⟨a, c, rfl, hc, hm⟩ := hx.form
  obtain ⟨a2, c2, rfl, hc2, hm2⟩ := hy.form
  have HPL := hide (fun w' (hb : Below w.heap.size w w') => plane_any ns (.slice a ns.length c) w' (hx.below hb))
  have HMK := hide (fun w' (hb : Below w.heap.size w w') => make_any size ms (.slice a2 ms.length c2) w' (hy.below hb) hy.len hi64)
  have HQ1 := hide (Sp.rowsQ_plane ns)
  have HQ2 := hide (Sp.rowsQ_make size ms)
  generalize Sp.plane ns = p at *
  generalize Sp.make size ms = q at *
  generalize ns.length = n at *
  generalize ms.length = n2 at *
  clear hx hy hi64
  obtain ⟨P, hP⟩ : ∃ P : Ending → World → Prop, P = fun e w' => e = .returned (.bool true) ∧ Below w.heap.size w w' := ⟨_, rfl⟩
  rw [← hP]
  have HP := hide hP
  clear hP
  go_enter Try.func4, Try.ntmps4
  go_wp2_with fail
  go_at_call 9
  refine (known2_any w).mono ?_
  rintro e w2 ⟨rfl, hb2⟩
  have Hb2 := hide hb2
  clear hb2
  go_wp2_with fail
  go_at_call 10
  refine (unhide HPL _ (unhide Hb2)).mono ?_
  rintro e w3 ⟨v, tv, nv, cv, rfl, hnv, hb3⟩
  have hval := hnv.val
  subst hval
  have Hb3 := hide ((unhide Hb2).trans (hb3.mono (unhide Hb2).size))
  obtain ⟨ta, tc, rfl, -, -⟩ := hnv.netI.tail.form
  obtain ⟨na, nc, rfl, -, -⟩ := hnv.netI.next.form
  obtain ⟨ca, cc, rfl, -, -⟩ := hnv.netI.cap.form
  have HN3 := hide hnv.netI
  clear hnv hb3 Hb2 HPL
  go_wp2_with fail
  go_at_call 14
  refine (unhide HMK _ (unhide Hb3)).mono ?_
  clear HMK
  rintro e w4 ⟨v, tv, nv, cv, rfl, hnv, hb4⟩
  have hval := hnv.val
  subst hval
  obtain ⟨ta2, tc2, rfl, -, -⟩ := hnv.netI.tail.form
  obtain ⟨na2, nc2, rfl, -, -⟩ := hnv.netI.next.form
  obtain ⟨ca2, cc2, rfl, -, -⟩ := hnv.netI.cap.form
  obtain ⟨W5, hW5⟩ : ∃ W5, W5 = w4.alloc (.cells #[.int .i64 p.n, .slice ta p.tail.length tc, .slice na p.next.length nc, .slice ca p.cap.length cc, .int .i64 q.n, .slice ta2 q.tail.length tc2, .slice na2 q.next.length nc2, .slice ca2 q.cap.length cc2] 25) := ⟨_, rfl⟩
  have hb5 : Below w4.heap.size w4 W5 := by rw [hW5]; exact (Below.refl _ w4).alloc (Nat.le_refl _) _
  have hs5 : W5.heap.size = w4.heap.size + 1 := by rw [hW5]; simp
  have hN3 := unhide HN3
  have hall : ∀ i, i < 2 → ∃ (r : Sp.Net) (ta tc na nc ca cc : _), Sp.RowsQ r ∧ ∀ w', Below (w4.heap.size + 1) W5 w' → (w'.cell? ⟨w4.heap.size, i * 4, none⟩ = some (.int .i64 r.n) ∧ w'.cell? ⟨w4.heap.size, i * 4 + 1, none⟩ = some (.slice ta r.tail.length tc) ∧ w'.cell? ⟨w4.heap.size, i * 4 + 2, none⟩ = some (.slice na r.next.length nc) ∧ w'.cell? ⟨w4.heap.size, i * 4 + 3, none⟩ = some (.slice ca r.cap.length cc)) ∧ NetI w' (.agg #[.int .i64 r.n, .slice ta r.tail.length tc, .slice na r.next.length nc, .slice ca r.cap.length cc]) r (.slice ta r.tail.length tc) (.slice na r.next.length nc) (.slice ca r.cap.length cc) := by
    intro i hi
    have hc : ∀ w', Below (w4.heap.size + 1) W5 w' → ∀ k, w'.cell? ⟨w4.heap.size, k, none⟩ = (#[.int .i64 p.n, .slice ta p.tail.length tc, .slice na p.next.length nc, .slice ca p.cap.length cc, .int .i64 q.n, .slice ta2 q.tail.length tc2, .slice na2 q.next.length nc2, .slice ca2 q.cap.length cc2] : Array Value)[k]? := fun w' hb k => by
      rw [hb.cell (by show w4.heap.size < _; omega), hW5, cell_of_row _ _ _ _ _ _ (heap_alloc_new w4 _)]
    have hB : ∀ w', Below (w4.heap.size + 1) W5 w' → Below w4.heap.size w4 w' := fun w' hb => hb5.trans (hb.mono (by omega))
    rcases (show i = 0 ∨ i = 1 by omega) with rfl | rfl
    · refine ⟨p, ta, tc, na, nc, ca, cc, unhide HQ1, fun w' hb => ⟨⟨?_, ?_, ?_, ?_⟩, rfl, (hN3.tail.below hb4).below (hB w' hb), (hN3.next.below hb4).below (hB w' hb), (hN3.cap.below hb4).below (hB w' hb)⟩⟩ <;> exact (hc w' hb _).trans rfl
    · refine ⟨q, ta2, tc2, na2, nc2, ca2, cc2, unhide HQ2, fun w' hb => ⟨⟨?_, ?_, ?_, ?_⟩, rfl, hnv.netI.tail.below (hB w' hb), hnv.netI.next.below (hB w' hb), hnv.netI.cap.below (hB w' hb)⟩⟩ <;> exact (hc w' hb _).trans rfl
  have HALL := hide hall
  have HBW : Hid (∀ w', Below (w4.heap.size + 1) W5 w' → Below w.heap.size w w') := hide fun w' hb => ((unhide Hb3).trans (hb4.mono (unhide Hb3).size)).trans ((hb5.trans (hb.mono (by omega))).mono ((unhide Hb3).trans (hb4.mono (unhide Hb3).size)).size)
  have HW5 := hide hW5
  have Hs5 := hide hs5
  clear hall hb5 hs5 hW5 hN3 HN3 hnv hb4 Hb3 HQ1 HQ2
  have hb5 : Below (w4.heap.size + 1) W5 W5 := Below.refl _ _
  go_upto_region 5 with fail
  rw [← unhide HW5]
  generalize w4.heap.size = L at *
  go_loopg [10] 2 (fun g s10 wr => ∃ i : Nat, i + g = 2 ∧ s10 = .int .i64 (i : Int) ∧ Hid (Below (L + 1) W5 wr))
  case atStart => exact ⟨0, by omega, rfl, hide hb5⟩
  case round =>
    clear hb5
    obtain ⟨i, hig, rfl, HBr⟩ := hrel
    cases gk with
    | zero =>
      obtain rfl : i = 2 := by omega
      go_wp2
      rw [unhide HP]
      exact ⟨by rfl, unhide HBW _ (unhide HBr)⟩
    | succ g' =>
      have hi2 : i < 2 := by omega
      have hiI : (i : Int) < 2 := by omega
      obtain ⟨r, ta, tc, na, nc, ca, cc, hrq, hr⟩ := unhide HALL i hi2
      have HRQ := hide hrq
      have HR := hide hr
      obtain ⟨⟨x0, x1, x2, x3⟩, -⟩ := hr wr (unhide HBr)
      clear hrq hr
      obtain ⟨hwk, hpm⟩ := unhide HRQ
      have hq := walkQ hwk
      obtain ⟨W6, hW6⟩ : ∃ W6, W6 = wr.alloc (.cells #[.int .i64 r.n, .slice ta r.tail.length tc, .slice na r.next.length nc, .slice ca r.cap.length cc] 25) := ⟨_, rfl⟩
      obtain ⟨hBX, hs6, hTR⟩ := boxed (w0 := wr) (Below.refl _ _) (unhide HR wr (unhide HBr)).2 W6 hW6
      have hszr := (unhide HBr).size
      rw [unhide Hs5] at hszr
      have HUP : Hid (∀ w', Below (wr.heap.size + 1) W6 w' → Below (L + 1) W5 w') := hide fun w' hb => (unhide HBr).trans ((hBX w' hb).2.2.1.mono (by omega))
      have HFE := Sp.faces_eq hpm hq.nx hq.ev
      have HF := hide (fun w' (hb : Below (wr.heap.size + 1) W6 w') => faces_any r _ _ _ _ w' (hBX w' hb).2.1 hwk)
      have HF2 := hide (fun w' (hb : Below (wr.heap.size + 1) W6 w') => faces2_any r _ _ _ _ w' (hBX w' hb).2.1 hq.nx hq.big hq.ev hpm)
      rw [HFE.1, HFE.2] at HF
      have HPa := hide (fun w' (hb : Below (wr.heap.size + 1) W6 w') => parts_any r _ _ _ _ w' (hBX w' hb).2.1 hwk)
      have HPb := hide (fun w' (hb : Below (wr.heap.size + 1) W6 w') => parts2_any r _ _ _ _ w' (hBX w' hb).2.1 hwk)
      have HTa : Hid (∀ w', Below (wr.heap.size + 1) W6 w' → Calls Try.prog 21 #[.agg #[.int .i64 r.n, .slice ta r.tail.length tc, .slice na r.next.length nc, .slice ca r.cap.length cc]] w' fun e w'' => ∃ tv nv cv, e = .returned (.agg #[.int .i64 r.n, tv, nv, cv]) ∧ NetI w'' (.agg #[.int .i64 r.n, tv, nv, cv]) (Sp.seen r) tv nv cv ∧ Below w'.heap.size w' w'') := by
        refine hide fun w' hb => (rturn_any r _ _ _ _ w' (hBX w' hb).2.1 hwk).mono ?_
        rintro e w'' ⟨tv, nv, cv, e1, e2, e3, e4, e5⟩
        exact ⟨tv, nv, cv, e1, ⟨rfl, e2.ints, e3.ints, e4.ints⟩, e5⟩
      have HTb : Hid (∀ w', Below (wr.heap.size + 1) W6 w' → Calls Try.prog 22 #[.agg #[.int .i64 r.n, .slice ta r.tail.length tc, .slice na r.next.length nc, .slice ca r.cap.length cc]] w' fun e w'' => ∃ tv nv cv, e = .returned (.agg #[.int .i64 r.n, tv, nv, cv]) ∧ NetI w'' (.agg #[.int .i64 r.n, tv, nv, cv]) (Sp.seen r) tv nv cv ∧ Below w'.heap.size w' w'') := by
        refine hide fun w' hb => (turn2_any r _ _ _ _ w' (hBX w' hb).2.1 hwk).mono ?_
        rintro e w'' ⟨tv, nv, cv, e1, e2, e3, e4, e5⟩
        exact ⟨tv, nv, cv, e1, ⟨rfl, e2.ints, e3.ints, e4.ints⟩, e5⟩
      have HSm : Hid (∀ w' u v tu nu cu tv nv cv, NetI w' u (Sp.seen r) tu nu cu → NetI w' v (Sp.seen r) tv nv cv → Calls Try.prog 20 #[u, v] w' fun e w'' => e = .returned (.bool true) ∧ Below w'.heap.size w' w'') := by
        refine hide fun w' u v tu nu cu tv nv cv hu hv => ?_
        have l1 : (Sp.seen r).tail.length ≤ 1000001 := by show r.tail.length ≤ _; have := hq.big; omega
        have l2 : (Sp.seen r).next.length ≤ 1000001 := by show (Sp.turnL r.next).length ≤ _; rw [Sp.turnL_len, hq.nx]; have := hq.big; omega
        have l3 : (Sp.seen r).cap.length ≤ 1000001 := by show r.cap.length ≤ _; rw [hq.cp]; have := hq.big; omega
        refine (same_any _ _ u v tu nu cu tv nv cv w' hu hv ⟨l1, l2, l3⟩ ⟨l1, l2, l3⟩).mono fun e w'' ⟨a1, a2⟩ => ⟨?_, a2⟩
        rw [a1, netEq_refl]
      have HFL : Hid ((Sp.faces2 r).1.length ≤ 1000001) := hide (by rw [Sp.faces2_len]; have := hq.big; omega)
      have HPL : Hid ((Sp.pieces r).1.length ≤ 1000001) := hide (by rw [(Sp.pieces_st hq.n0 hq.tb hq.ev).len]; have := hq.n1; omega)
      have HQ := hide hq
      have HWK := hide hwk
      have HPM := hide hpm
      have HBX := hide hBX
      have HTR := hide hTR
      have HW6 := hide hW6
      clear hBX hTR hW6 hwk hpm hq HFE hszr hs6
      have HIs : Hid (∀ (l : List Int) w' v u, l.length ≤ 1000001 → Ints w' v l → Ints w' u l → Calls Try.prog 19 #[v, u] w' fun e w'' => e = .returned (.bool true) ∧ Below w'.heap.size w' w'') := by
        refine hide fun l w' v u hl h1 h2 => ?_
        refine (rInts_any _ _ v u w' h1 h2 hl hl).mono fun e w'' ⟨a1, a2⟩ => ⟨?_, a2⟩
        rw [a1, decide_eq_true rfl]
      generalize (Sp.faces2 r).1 = FL at *
      generalize (Sp.pieces r).1 = PL at *
      generalize max (Sp.faces2 r).2 1 = KF at *
      generalize (Sp.pieces r).2 = KP at *
      have hb6 : Below (wr.heap.size + 1) W6 W6 := Below.refl _ _
      have kk : ∀ z : Nat, ((z : Int) != (z : Int)) = false := fun z => by simp
      have k1 := kk KF
      have k2 := kk KP
      clear kk
      go_upto_region 8 with fail
      rw [← unhide HW6]
      clear x0 x1 x2 x3
      obtain ⟨y0, y1, y2, y3⟩ := (unhide HBX W6 hb6).1
      go_wp2_with fail
      go_at_call 15
      refine (unhide HF W6 hb6).mono ?_
      rintro e w7 ⟨fv, rfl, hf7, hl7⟩
      have hb7 := unhide HTR _ _ hb6 hl7
      have Hf7 := hide hf7.ints
      clear y0 y1 y2 y3 hf7 hl7 hb6 HF
      obtain ⟨y0, y1, y2, y3⟩ := (unhide HBX w7 hb7).1
      go_wp2_with fail
      go_at_call 16
      refine (unhide HF2 w7 hb7).mono ?_
      rintro e w8 ⟨fv2, rfl, hf8, hl8⟩
      have hb8 := unhide HTR _ _ hb7 hl8
      have Hf8 := hide (And.intro ((unhide Hf7).below hl8) hf8.ints)
      clear y0 y1 y2 y3 hf8 hl8 hb7 HF2 Hf7
      obtain ⟨y0, y1, y2, y3⟩ := (unhide HBX w8 hb8).1
      go_wp2_with fail
      go_at_call 17
      refine (unhide HPa w8 hb8).mono ?_
      rintro e w9 ⟨pv, rfl, hf9, hl9⟩
      have hb9 := unhide HTR _ _ hb8 hl9
      have Hf9 := hide (And.intro ((unhide Hf8).1.below hl9) (And.intro ((unhide Hf8).2.below hl9) hf9.ints))
      clear y0 y1 y2 y3 hf9 hl9 hb8 HPa Hf8
      obtain ⟨y0, y1, y2, y3⟩ := (unhide HBX w9 hb9).1
      go_wp2_with fail
      go_at_call 18
      refine (unhide HPb w9 hb9).mono ?_
      rintro e wa ⟨pv2, rfl, hfa, hla⟩
      have hba := unhide HTR _ _ hb9 hla
      have hF1 := (unhide Hf9).1.below hla
      have hF2 := (unhide Hf9).2.1.below hla
      have hP1 := (unhide Hf9).2.2.below hla
      have hP2 := hfa.ints
      clear y0 y1 y2 y3 hfa hla hb9 HPb Hf9
      have hbad := hba.drew
      go_upto_region 12 with fail
      go_cut [84] (fun s84 wx => s84 = .bool false ∧ Hid (Below (wr.heap.size + 1) W6 wx))
      case first =>
        refine wp_region_G (fun w' => w'.cell? ⟨wr.heap.size, 0, none⟩ = some (.int .i64 r.n) ∧ w'.cell? ⟨wr.heap.size, 1, none⟩ = some (.slice ta r.tail.length tc) ∧ w'.cell? ⟨wr.heap.size, 2, none⟩ = some (.slice na r.next.length nc) ∧ w'.cell? ⟨wr.heap.size, 3, none⟩ = some (.slice ca r.cap.length cc)) (fun _ => false) (by kernel_rfl) (unhide HBX _ hbad).1 (fun hHeld => ?_)
        replace hF1 := hF1.below (Below.refl _ _).drew
        replace hF2 := hF2.below (Below.refl _ _).drew
        replace hP1 := hP1.below (Below.refl _ _).drew
        replace hP2 := hP2.below (Below.refl _ _).drew
        clear hba
        generalize wa.drew = wb at *
        refine wpAnyG_take (v := ?_) 0 (by rfl) (by kernel_rfl) (by kernel_rfl) (by kernel_rfl) (by kernel_rfl) (fun _ _ _ h => h) (Or.inl ⟨by rfl, ?_⟩) (by assumption) ?_
        rotate_left
        · (intro w' hSw; (try dsimp only at hSw); (try simp only [List.getElem_toArray, List.getElem_cons_zero]); go_simp; try (with_reducible rfl))
        simp only [Act.put, List.getElem_toArray, List.getElem_cons_zero, List.setIfInBounds_toArray, List.set_cons_zero, List.set_cons_succ]
        refine wpAnyG_take (v := ?_) 1 (by rfl) (by kernel_rfl) (by kernel_rfl) (by kernel_rfl) (by kernel_rfl) (fun _ _ _ h => h) (Or.inl ⟨by rfl, ?_⟩) (by assumption) ?_
        rotate_left
        · (intro w' hSw; (try dsimp only at hSw); (try simp only [List.getElem_toArray, List.getElem_cons_succ, List.getElem_cons_zero]); go_simp; try (with_reducible rfl))
        simp only [Act.put, List.getElem_toArray, List.getElem_cons_succ, List.getElem_cons_zero, List.setIfInBounds_toArray, List.set_cons_zero, List.set_cons_succ]
        refine wpAnyG_ready [2] (by kernel_rfl) (by simp) ?_
        refine AllReadyG.cons 2 (by rfl) (fun K hK => ?_) ?_
        · simp only [List.getElem_toArray, List.getElem_cons_succ, List.getElem_cons_zero]
          go_simp
          go_at_call 19
          refine (unhide HIs _ _ _ _ (unhide HFL) hF1 hF2).mono ?_
          rintro e wI ⟨rfl, hlI⟩
          have hbI := unhide HTR _ _ hbad hlI
          replace hP1 := hP1.below hlI
          replace hP2 := hP2.below hlI
          refine hK.out _ _ (unhide HBX _ hbI).1 (fun _ => ?_)
          clear hK K
          try simp only [Act.put, List.setIfInBounds_toArray, List.set_cons_zero, List.set_cons_succ]
          refine wpAnyG_take (v := ?_) 3 (by rfl) (by kernel_rfl) (by kernel_rfl) (by kernel_rfl) (by kernel_rfl) (fun _ _ _ h => h) (Or.inl ⟨by rfl, ?_⟩) (by assumption) ?_
          rotate_left
          · (intro w' hSw; (try dsimp only at hSw); (try simp only [List.getElem_toArray, List.getElem_cons_succ, List.getElem_cons_zero]); go_simp; try (with_reducible rfl))
          simp only [Act.put, List.getElem_toArray, List.getElem_cons_succ, List.getElem_cons_zero, List.setIfInBounds_toArray, List.set_cons_zero, List.set_cons_succ]
          refine wpAnyG_take (v := ?_) 4 (by rfl) (by kernel_rfl) (by kernel_rfl) (by kernel_rfl) (by kernel_rfl) (fun _ _ _ h => h) (Or.inl ⟨by rfl, ?_⟩) (by assumption) ?_
          rotate_left
          · (intro w' hSw; (try dsimp only at hSw); (try simp only [List.getElem_toArray, List.getElem_cons_succ, List.getElem_cons_zero]); go_simp; try (with_reducible rfl))
          simp only [Act.put, List.getElem_toArray, List.getElem_cons_succ, List.getElem_cons_zero, List.setIfInBounds_toArray, List.set_cons_zero, List.set_cons_succ]
          refine wpAnyG_take (v := ?_) 5 (by rfl) (by kernel_rfl) (by kernel_rfl) (by kernel_rfl) (by kernel_rfl) (fun _ _ _ h => h) (Or.inl ⟨by rfl, ?_⟩) (by assumption) ?_
          rotate_left
          · (intro w' hSw; (try dsimp only at hSw); (try simp only [List.getElem_toArray, List.getElem_cons_succ, List.getElem_cons_zero]); go_simp; try (with_reducible rfl))
          simp only [Act.put, List.getElem_toArray, List.getElem_cons_succ, List.getElem_cons_zero, List.setIfInBounds_toArray, List.set_cons_zero, List.set_cons_succ]
          refine wpAnyG_take (v := ?_) 6 (by rfl) (by kernel_rfl) (by kernel_rfl) (by kernel_rfl) (by kernel_rfl) (fun _ _ _ h => h) (Or.inl ⟨by rfl, ?_⟩) (by assumption) ?_
          rotate_left
          · (intro w' hSw; (try dsimp only at hSw); (try simp only [List.getElem_toArray, List.getElem_cons_succ, List.getElem_cons_zero]); go_simp; try (with_reducible rfl))
          simp only [Act.put, List.getElem_toArray, List.getElem_cons_succ, List.getElem_cons_zero, List.setIfInBounds_toArray, List.set_cons_zero, List.set_cons_succ]
          refine wpAnyG_take (v := ?_) 7 (by rfl) (by kernel_rfl) (by kernel_rfl) (by kernel_rfl) (by kernel_rfl) (fun _ _ _ h => h) (Or.inl ⟨by rfl, ?_⟩) (by assumption) ?_
          rotate_left
          · (intro w' hSw; (try dsimp only at hSw); (try simp only [List.getElem_toArray, List.getElem_cons_succ, List.getElem_cons_zero]); go_simp; try (with_reducible rfl))
          simp only [Act.put, List.getElem_toArray, List.getElem_cons_succ, List.getElem_cons_zero, List.setIfInBounds_toArray, List.set_cons_zero, List.set_cons_succ]
          refine wpAnyG_take (v := ?_) 8 (by rfl) (by kernel_rfl) (by kernel_rfl) (by kernel_rfl) (by kernel_rfl) (fun _ _ _ h => h) (Or.inl ⟨by rfl, ?_⟩) (by assumption) ?_
          rotate_left
          · (intro w' hSw; (try dsimp only at hSw); (try simp only [List.getElem_toArray, List.getElem_cons_succ, List.getElem_cons_zero]); go_simp; try (with_reducible rfl))
          simp only [Act.put, List.getElem_toArray, List.getElem_cons_succ, List.getElem_cons_zero, List.setIfInBounds_toArray, List.set_cons_zero, List.set_cons_succ]
          refine wpAnyG_take (v := ?_) 9 (by rfl) (by kernel_rfl) (by kernel_rfl) (by kernel_rfl) (by kernel_rfl) (fun _ _ _ h => h) (Or.inl ⟨by rfl, ?_⟩) (by assumption) ?_
          rotate_left
          · (intro w' hSw; (try dsimp only at hSw); (try simp only [List.getElem_toArray, List.getElem_cons_succ, List.getElem_cons_zero]); go_simp; try (with_reducible rfl))
          simp only [Act.put, List.getElem_toArray, List.getElem_cons_succ, List.getElem_cons_zero, List.setIfInBounds_toArray, List.set_cons_zero, List.set_cons_succ]
          refine wpAnyG_take (v := ?_) 10 (by rfl) (by kernel_rfl) (by kernel_rfl) (by kernel_rfl) (by kernel_rfl) (fun _ _ _ h => h) (Or.inl ⟨by rfl, ?_⟩) (by assumption) ?_
          rotate_left
          · (intro w' hSw; (try dsimp only at hSw); (try simp only [List.getElem_toArray, List.getElem_cons_succ, List.getElem_cons_zero]); go_simp; try (with_reducible rfl))
          simp only [Act.put, List.getElem_toArray, List.getElem_cons_succ, List.getElem_cons_zero, List.setIfInBounds_toArray, List.set_cons_zero, List.set_cons_succ]
          refine wpAnyG_take (v := ?_) 11 (by rfl) (by kernel_rfl) (by kernel_rfl) (by kernel_rfl) (by kernel_rfl) (fun _ _ _ h => h) (Or.inl ⟨by rfl, ?_⟩) (by assumption) ?_
          rotate_left
          · (intro w' hSw; (try dsimp only at hSw); (try simp only [List.getElem_toArray, List.getElem_cons_succ, List.getElem_cons_zero]); go_simp; try (with_reducible rfl))
          simp only [Act.put, List.getElem_toArray, List.getElem_cons_succ, List.getElem_cons_zero, List.setIfInBounds_toArray, List.set_cons_zero, List.set_cons_succ]
          refine wpAnyG_ready [12] (by kernel_rfl) (by simp) ?_
          refine AllReadyG.cons 12 (by rfl) (fun K hK => ?_) ?_
          · simp only [List.getElem_toArray, List.getElem_cons_succ, List.getElem_cons_zero]
            go_simp
            go_at_call 19
            refine (unhide HIs _ _ _ _ (unhide HPL) hP1 hP2).mono ?_
            rintro e wJ ⟨rfl, hlJ⟩
            have hbJ := unhide HTR _ _ hbI hlJ
            refine hK.out _ _ (unhide HBX _ hbJ).1 (fun _ => ?_)
            clear hK K
            try simp only [Act.put, List.setIfInBounds_toArray, List.set_cons_zero, List.set_cons_succ]
            refine wpAnyG_take (v := ?_) 13 (by rfl) (by kernel_rfl) (by kernel_rfl) (by kernel_rfl) (by kernel_rfl) (fun _ _ _ h => h) (Or.inl ⟨by rfl, ?_⟩) (by assumption) ?_
            rotate_left
            · (intro w' hSw; (try dsimp only at hSw); (try simp only [List.getElem_toArray, List.getElem_cons_succ, List.getElem_cons_zero]); go_simp; try (with_reducible rfl))
            simp only [Act.put, List.getElem_toArray, List.getElem_cons_succ, List.getElem_cons_zero, List.setIfInBounds_toArray, List.set_cons_zero, List.set_cons_succ]
            refine wpAnyG_take (v := ?_) 14 (by rfl) (by kernel_rfl) (by kernel_rfl) (by kernel_rfl) (by kernel_rfl) (fun _ _ _ h => h) (Or.inl ⟨by rfl, ?_⟩) (by assumption) ?_
            rotate_left
            · (intro w' hSw; (try dsimp only at hSw); (try simp only [List.getElem_toArray, List.getElem_cons_succ, List.getElem_cons_zero]); go_simp; try (with_reducible rfl))
            simp only [Act.put, List.getElem_toArray, List.getElem_cons_succ, List.getElem_cons_zero, List.setIfInBounds_toArray, List.set_cons_zero, List.set_cons_succ]
            refine wpAnyG_take (v := ?_) 15 (by rfl) (by kernel_rfl) (by kernel_rfl) (by kernel_rfl) (by kernel_rfl) (fun _ _ _ h => h) (Or.inl ⟨by rfl, ?_⟩) (by assumption) ?_
            rotate_left
            · (intro w' hSw; (try dsimp only at hSw); (try simp only [List.getElem_toArray, List.getElem_cons_succ, List.getElem_cons_zero]); go_simp; try (with_reducible rfl))
            simp only [Act.put, List.getElem_toArray, List.getElem_cons_succ, List.getElem_cons_zero, List.setIfInBounds_toArray, List.set_cons_zero, List.set_cons_succ]
            refine wpAnyG_take (v := ?_) 16 (by rfl) (by kernel_rfl) (by kernel_rfl) (by kernel_rfl) (by kernel_rfl) (fun _ _ _ h => h) (Or.inl ⟨by rfl, ?_⟩) (by assumption) ?_
            rotate_left
            · (intro w' hSw; (try dsimp only at hSw); (try simp only [List.getElem_toArray, List.getElem_cons_succ, List.getElem_cons_zero]); go_simp; try (with_reducible rfl))
            simp only [Act.put, List.getElem_toArray, List.getElem_cons_succ, List.getElem_cons_zero, List.setIfInBounds_toArray, List.set_cons_zero, List.set_cons_succ]
            refine wpAnyG_take (v := ?_) 17 (by rfl) (by kernel_rfl) (by kernel_rfl) (by kernel_rfl) (by kernel_rfl) (fun _ _ _ h => h) (Or.inl ⟨by rfl, ?_⟩) (by assumption) ?_
            rotate_left
            · (intro w' hSw; (try dsimp only at hSw); (try simp only [List.getElem_toArray, List.getElem_cons_succ, List.getElem_cons_zero]); go_simp; try (with_reducible rfl))
            simp only [Act.put, List.getElem_toArray, List.getElem_cons_succ, List.getElem_cons_zero, List.setIfInBounds_toArray, List.set_cons_zero, List.set_cons_succ]
            refine wpAnyG_take (v := ?_) 18 (by rfl) (by kernel_rfl) (by kernel_rfl) (by kernel_rfl) (by kernel_rfl) (fun _ _ _ h => h) (Or.inl ⟨by rfl, ?_⟩) (by assumption) ?_
            rotate_left
            · (intro w' hSw; (try dsimp only at hSw); (try simp only [List.getElem_toArray, List.getElem_cons_succ, List.getElem_cons_zero]); go_simp; try (with_reducible rfl))
            simp only [Act.put, List.getElem_toArray, List.getElem_cons_succ, List.getElem_cons_zero, List.setIfInBounds_toArray, List.set_cons_zero, List.set_cons_succ]
            refine wpAnyG_take (v := ?_) 19 (by rfl) (by kernel_rfl) (by kernel_rfl) (by kernel_rfl) (by kernel_rfl) (fun _ _ _ h => h) (Or.inl ⟨by rfl, ?_⟩) (by assumption) ?_
            rotate_left
            · (intro w' hSw; (try dsimp only at hSw); (try simp only [List.getElem_toArray, List.getElem_cons_succ, List.getElem_cons_zero]); go_simp; try (with_reducible rfl))
            simp only [Act.put, List.getElem_toArray, List.getElem_cons_succ, List.getElem_cons_zero, List.setIfInBounds_toArray, List.set_cons_zero, List.set_cons_succ]
            refine wpAnyG_take (v := ?_) 20 (by rfl) (by kernel_rfl) (by kernel_rfl) (by kernel_rfl) (by kernel_rfl) (fun _ _ _ h => h) (Or.inl ⟨by rfl, ?_⟩) (by assumption) ?_
            rotate_left
            · (intro w' hSw; (try dsimp only at hSw); (try simp only [List.getElem_toArray, List.getElem_cons_succ, List.getElem_cons_zero]); go_simp; try (with_reducible rfl))
            simp only [Act.put, List.getElem_toArray, List.getElem_cons_succ, List.getElem_cons_zero, List.setIfInBounds_toArray, List.set_cons_zero, List.set_cons_succ]
            refine wpAnyG_take (v := ?_) 21 (by rfl) (by kernel_rfl) (by kernel_rfl) (by kernel_rfl) (by kernel_rfl) (fun _ _ _ h => h) (Or.inl ⟨by rfl, ?_⟩) (by assumption) ?_
            rotate_left
            · (intro w' hSw; (try dsimp only at hSw); (try simp only [List.getElem_toArray, List.getElem_cons_succ, List.getElem_cons_zero]); go_simp; try (with_reducible rfl))
            simp only [Act.put, List.getElem_toArray, List.getElem_cons_succ, List.getElem_cons_zero, List.setIfInBounds_toArray, List.set_cons_zero, List.set_cons_succ]
            refine wpAnyG_take (v := ?_) 23 (by rfl) (by kernel_rfl) (by kernel_rfl) (by kernel_rfl) (by kernel_rfl) (fun _ _ _ h => h) (Or.inl ⟨by rfl, ?_⟩) (by assumption) ?_
            rotate_left
            · (intro w' hSw; (try dsimp only at hSw); (try simp only [List.getElem_toArray, List.getElem_cons_succ, List.getElem_cons_zero]); go_simp; try (with_reducible rfl))
            simp only [Act.put, List.getElem_toArray, List.getElem_cons_succ, List.getElem_cons_zero, List.setIfInBounds_toArray, List.set_cons_zero, List.set_cons_succ]
            refine wpAnyG_ready [22] (by kernel_rfl) (by simp) ?_
            refine AllReadyG.cons 22 (by rfl) (fun K hK => ?_) ?_
            · simp only [List.getElem_toArray, List.getElem_cons_succ, List.getElem_cons_zero]
              go_simp
              go_at_call 21
              refine (unhide HTa _ hbJ).mono ?_
              rintro e wT ⟨tvT, nvT, cvT, rfl, hNT, hlT⟩
              have hbT := unhide HTR _ _ hbJ hlT
              refine hK.out _ _ (unhide HBX _ hbT).1 (fun _ => ?_)
              clear hK K
              try simp only [Act.put, List.setIfInBounds_toArray, List.set_cons_zero, List.set_cons_succ]
              refine wpAnyG_ready [24] (by kernel_rfl) (by simp) ?_
              refine AllReadyG.cons 24 (by rfl) (fun K hK => ?_) ?_
              · simp only [List.getElem_toArray, List.getElem_cons_succ, List.getElem_cons_zero]
                go_simp
                go_at_call 22
                refine (unhide HTb _ hbT).mono ?_
                rintro e wU ⟨tvU, nvU, cvU, rfl, hNU, hlU⟩
                have hbU := unhide HTR _ _ hbT hlU
                replace hNT := hNT.below hlU
                refine hK.out _ _ (unhide HBX _ hbU).1 (fun _ => ?_)
                clear hK K
                try simp only [Act.put, List.setIfInBounds_toArray, List.set_cons_zero, List.set_cons_succ]
                refine wpAnyG_ready [25] (by kernel_rfl) (by simp) ?_
                refine AllReadyG.cons 25 (by rfl) (fun K hK => ?_) ?_
                · simp only [List.getElem_toArray, List.getElem_cons_succ, List.getElem_cons_zero]
                  go_simp
                  go_at_call 20
                  refine (unhide HSm _ _ _ _ _ _ _ _ _ hNT hNU).mono ?_
                  rintro e wS ⟨rfl, hlS⟩
                  have hbS := unhide HTR _ _ hbU hlS
                  refine hK.out _ _ (unhide HBX _ hbS).1 (fun _ => ?_)
                  clear hK K
                  try simp only [Act.put, List.setIfInBounds_toArray, List.set_cons_zero, List.set_cons_succ]
                  refine wpAnyG_take (v := ?_) 26 (by rfl) (by kernel_rfl) (by kernel_rfl) (by kernel_rfl) (by kernel_rfl) (fun _ _ _ h => h) (Or.inl ⟨by rfl, ?_⟩) (by assumption) ?_
                  rotate_left
                  · (intro w' hSw; (try dsimp only at hSw); (try simp only [List.getElem_toArray, List.getElem_cons_succ, List.getElem_cons_zero]); go_simp; try (with_reducible rfl))
                  simp only [Act.put, List.getElem_toArray, List.getElem_cons_succ, List.getElem_cons_zero, List.setIfInBounds_toArray, List.set_cons_zero, List.set_cons_succ]
                  refine wpAnyG_take (v := ?_) 27 (by rfl) (by kernel_rfl) (by kernel_rfl) (by kernel_rfl) (by kernel_rfl) (fun _ _ _ h => h) (Or.inl ⟨by rfl, ?_⟩) (by assumption) ?_
                  rotate_left
                  · (intro w' hSw; (try dsimp only at hSw); (try simp only [List.getElem_toArray, List.getElem_cons_succ, List.getElem_cons_zero]); go_simp; try (with_reducible rfl))
                  simp only [Act.put, List.getElem_toArray, List.getElem_cons_succ, List.getElem_cons_zero, List.setIfInBounds_toArray, List.set_cons_zero, List.set_cons_succ]
                  refine wpAnyG_done (by kernel_rfl) ?_ _
                  refine NoPanic.normal ?_
                  go_wp2
                  go_meet
                  exact ⟨rfl, hide hbS⟩
                exact AllReadyG.nil
              exact AllReadyG.nil
            exact AllReadyG.nil
          exact AllReadyG.nil
        exact AllReadyG.nil
      case rest =>
        obtain ⟨wP, rfl⟩ : ∃ wP, wP = wc := ⟨_, rfl⟩
        obtain ⟨rfl, HBP⟩ := hcut
        obtain ⟨y0, y1, y2, y3⟩ := (unhide HBX wP (unhide HBP)).1
        have hl240 : r.tail.length ≤ 240 := (unhide HQ).big
        have Hnl : Hid (r.next.length = r.tail.length) := hide (unhide HQ).nx
        generalize hln : r.tail.length = ln at *
        have Hln := hide hln
        clear hln hF1 hF2 hP1 hP2 hba hbad HTa HTb HSm HFL HPL k1 k2
        by_cases hz : ln = 0
        · subst hz
          have HBN := hide (unhide HUP wP (unhide HBP))
          clear HBP
          go_wp2
          go_roundg g'
          case rel => exact ⟨i + 1, by omega, by go_num, HBN⟩
          case measure => omega
        · have hzI : ¬ (ln : Int) = 0 := by omega
          have hzB : ((ln : Int) == 0) = false := beq_eq_false_iff_ne.2 hzI
          have hWI := within2_any d ln wP (by omega) (by omega)
          have hd0 : 0 ≤ d % (ln : Int) := Int.emod_nonneg _ hzI
          have hd1 : d % (ln : Int) < ln := Int.emod_lt_of_pos _ (by omega)
          obtain ⟨y, hy⟩ : ∃ y : Nat, d % (ln : Int) = (y : Int) := ⟨(d % (ln : Int)).toNat, by omega⟩
          have hyl : y < ln := by omega
          rw [hy] at hWI
          have HWI := hide hWI
          clear hd0 hd1 hy hWI
          have hyt : y < r.tail.length := by rw [unhide Hln]; exact hyl
          have hyn : y < r.next.length := by rw [unhide Hnl]; exact hyl
          have hev := (unhide HQ).ev
          have hpb : Sp.Perm (Sp.behindL r.next) := (unhide HPM).behind (by rw [(unhide HQ).nx]; exact hev)
          have hyb : y < (Sp.behindL r.next).length := by rw [Sp.behindL_len]; exact hyn
          have HHa := hide (fun w' (hb : Below (wr.heap.size + 1) W6 w') => head_any' r _ _ _ _ y w' (unhide HBX w' hb).2.1 hyt hev (unhide HQ).big)
          have HHb := hide (fun w' (hb : Below (wr.heap.size + 1) W6 w') => head2_any r _ _ _ _ y w' (unhide HBX w' hb).2.1 hyt hev (unhide HQ).big)
          obtain ⟨m1, m2, m3, m4⟩ := (unhide HPM).per hyn
          obtain ⟨n1, n2, n3, n4⟩ := hpb.per hyb
          rw [Sp.behindL_len] at n2
          have h240 : r.next.length ≤ 240 := by rw [unhide Hnl]; omega
          have hnev : r.next.length % 2 = 0 := by rw [unhide Hnl, ← unhide Hln]; exact hev
          have HAa : Hid (∀ w', Below (wr.heap.size + 1) W6 w' → Calls Try.prog 25 #[.agg #[.int .i64 r.n, .slice ta ln tc, .slice na r.next.length nc, .slice ca r.cap.length cc], .int .i64 (y : Int)] w' fun e w'' => ∃ rv, e = .returned rv ∧ Ints w'' rv (Sp.rounds r.next y (Sp.per r.next y)) ∧ Below w'.heap.size w' w'') := hide fun w' hb => by
            refine (about_any r _ _ _ _ y w' (unhide HBX w' hb).2.1 (unhide HWK)).mono fun e w'' ⟨rv, a1, a2, a3⟩ => ⟨rv, a1, ?_, a3⟩
            rw [Sp.roundOf_eq (unhide HPM) hyn] at a2
            exact a2.ints
          have HAb : Hid (∀ w', Below (wr.heap.size + 1) W6 w' → Calls Try.prog 26 #[.agg #[.int .i64 r.n, .slice ta ln tc, .slice na r.next.length nc, .slice ca r.cap.length cc], .int .i64 (y : Int)] w' fun e w'' => ∃ rv, e = .returned rv ∧ Ints w'' rv (Sp.rounds r.next y (Sp.per r.next y)) ∧ Below w'.heap.size w' w'') := hide fun w' hb => by
            refine (about2_any r _ _ _ _ y _ w' (unhide HBX w' hb).2.1 h240 hnev (unhide HPM).bd hyn m1 (by omega) m3 m4).mono fun e w'' ⟨rv, a1, a2, a3⟩ => ⟨rv, a1, a2.ints, a3⟩
          have HCa : Hid (∀ w', Below (wr.heap.size + 1) W6 w' → Calls Try.prog 27 #[.agg #[.int .i64 r.n, .slice ta ln tc, .slice na r.next.length nc, .slice ca r.cap.length cc], .int .i64 (y : Int)] w' fun e w'' => ∃ rv, e = .returned rv ∧ Ints w'' rv (Sp.rounds (Sp.behindL r.next) y (Sp.per (Sp.behindL r.next) y)) ∧ Below w'.heap.size w' w'') := hide fun w' hb => by
            refine (face_any r _ _ _ _ y w' (unhide HBX w' hb).2.1 (unhide HWK)).mono fun e w'' ⟨rv, a1, a2, a3⟩ => ⟨rv, a1, ?_, a3⟩
            rw [Sp.roundOf_eq hpb hyb] at a2
            exact a2.ints
          have HCb : Hid (∀ w', Below (wr.heap.size + 1) W6 w' → Calls Try.prog 28 #[.agg #[.int .i64 r.n, .slice ta ln tc, .slice na r.next.length nc, .slice ca r.cap.length cc], .int .i64 (y : Int)] w' fun e w'' => ∃ rv, e = .returned rv ∧ Ints w'' rv (Sp.rounds (Sp.behindL r.next) y (Sp.per (Sp.behindL r.next) y)) ∧ Below w'.heap.size w' w'') := hide fun w' hb => by
            refine (face2_any r _ _ _ _ y _ w' (unhide HBX w' hb).2.1 h240 hnev (unhide HPM).bd hyn n1 (by omega) n3 n4).mono fun e w'' ⟨rv, a1, a2, a3⟩ => ⟨rv, a1, a2.ints, a3⟩
          have HAl : Hid ((Sp.rounds r.next y (Sp.per r.next y)).length ≤ 1000001) := hide (by rw [Sp.rounds_len]; omega)
          have HCl : Hid ((Sp.rounds (Sp.behindL r.next) y (Sp.per (Sp.behindL r.next) y)).length ≤ 1000001) := hide (by rw [Sp.rounds_len]; omega)
          generalize Sp.rounds r.next y (Sp.per r.next y) = A at *
          generalize Sp.rounds (Sp.behindL r.next) y (Sp.per (Sp.behindL r.next) y) = C at *
          generalize r.tail.getD (Sp.oth y) 0 = hz0 at *
          have hzz : (hz0 != hz0) = false := by simp
          clear m1 m2 m3 m4 n1 n2 n3 n4 hev hnev h240 hpb hyb hyt hyn
          go_wp2_with fail
          go_at_call 11
          refine (unhide HWI).mono ?_
          rintro e w5 ⟨rfl, rfl⟩
          have hb0 := (unhide HBP).drew
          go_upto_region 16 with fail
          clear y0 y1 y2 y3 HWI
          go_cut [120] (fun s120 wx => s120 = .bool false ∧ Hid (Below (wr.heap.size + 1) W6 wx))
          case first =>
            refine wp_region_G (fun w' => w'.cell? ⟨wr.heap.size, 0, none⟩ = some (.int .i64 r.n) ∧ w'.cell? ⟨wr.heap.size, 1, none⟩ = some (.slice ta ln tc) ∧ w'.cell? ⟨wr.heap.size, 2, none⟩ = some (.slice na r.next.length nc) ∧ w'.cell? ⟨wr.heap.size, 3, none⟩ = some (.slice ca r.cap.length cc)) (fun _ => false) (by kernel_rfl) (unhide HBX _ hb0).1 (fun hHeld => ?_)
            generalize w5.drew = wQ at *
            refine wpAnyG_take (v := ?_) 0 (by rfl) (by kernel_rfl) (by kernel_rfl) (by kernel_rfl) (by kernel_rfl) (fun _ _ _ h => h) (Or.inl ⟨by rfl, ?_⟩) (by assumption) ?_
            rotate_left
            · (intro w' hSw; (try dsimp only at hSw); (try simp only [List.getElem_toArray, List.getElem_cons_zero]); go_simp; try (with_reducible rfl))
            simp only [Act.put, List.getElem_toArray, List.getElem_cons_zero, List.setIfInBounds_toArray, List.set_cons_zero, List.set_cons_succ]
            refine wpAnyG_take (v := ?_) 1 (by rfl) (by kernel_rfl) (by kernel_rfl) (by kernel_rfl) (by kernel_rfl) (fun _ _ _ h => h) (Or.inl ⟨by rfl, ?_⟩) (by assumption) ?_
            rotate_left
            · (intro w' hSw; (try dsimp only at hSw); (try simp only [List.getElem_toArray, List.getElem_cons_succ, List.getElem_cons_zero]); go_simp; try (with_reducible rfl))
            simp only [Act.put, List.getElem_toArray, List.getElem_cons_succ, List.getElem_cons_zero, List.setIfInBounds_toArray, List.set_cons_zero, List.set_cons_succ]
            refine wpAnyG_take (v := ?_) 3 (by rfl) (by kernel_rfl) (by kernel_rfl) (by kernel_rfl) (by kernel_rfl) (fun _ _ _ h => h) (Or.inl ⟨by rfl, ?_⟩) (by assumption) ?_
            rotate_left
            · (intro w' hSw; (try dsimp only at hSw); (try simp only [List.getElem_toArray, List.getElem_cons_succ, List.getElem_cons_zero]); go_simp; try (with_reducible rfl))
            simp only [Act.put, List.getElem_toArray, List.getElem_cons_succ, List.getElem_cons_zero, List.setIfInBounds_toArray, List.set_cons_zero, List.set_cons_succ]
            refine wpAnyG_take (v := ?_) 4 (by rfl) (by kernel_rfl) (by kernel_rfl) (by kernel_rfl) (by kernel_rfl) (fun _ _ _ h => h) (Or.inl ⟨by rfl, ?_⟩) (by assumption) ?_
            rotate_left
            · (intro w' hSw; (try dsimp only at hSw); (try simp only [List.getElem_toArray, List.getElem_cons_succ, List.getElem_cons_zero]); go_simp; try (with_reducible rfl))
            simp only [Act.put, List.getElem_toArray, List.getElem_cons_succ, List.getElem_cons_zero, List.setIfInBounds_toArray, List.set_cons_zero, List.set_cons_succ]
            refine wpAnyG_ready [2] (by kernel_rfl) (by simp) ?_
            refine AllReadyG.cons 2 (by rfl) (fun K hK => ?_) ?_
            · simp only [List.getElem_toArray, List.getElem_cons_succ, List.getElem_cons_zero]
              go_simp
              go_at_call 23
              refine (unhide HHa _ hb0).mono ?_
              rintro e wM ⟨rfl, hlM⟩
              have hbM := unhide HTR _ _ hb0 hlM
              refine hK.out _ _ (unhide HBX _ hbM).1 (fun _ => ?_)
              clear hK K
              try simp only [Act.put, List.setIfInBounds_toArray, List.set_cons_zero, List.set_cons_succ]
              refine wpAnyG_ready [5] (by kernel_rfl) (by simp) ?_
              refine AllReadyG.cons 5 (by rfl) (fun K hK => ?_) ?_
              · simp only [List.getElem_toArray, List.getElem_cons_succ, List.getElem_cons_zero]
                go_simp
                go_at_call 24
                refine (unhide HHb _ hbM).mono ?_
                rintro e wN ⟨rfl, hlN⟩
                have hbN := unhide HTR _ _ hbM hlN
                refine hK.out _ _ (unhide HBX _ hbN).1 (fun _ => ?_)
                clear hK K
                try simp only [Act.put, List.setIfInBounds_toArray, List.set_cons_zero, List.set_cons_succ]
                refine wpAnyG_take (v := ?_) 6 (by rfl) (by kernel_rfl) (by kernel_rfl) (by kernel_rfl) (by kernel_rfl) (fun _ _ _ h => h) (Or.inl ⟨by rfl, ?_⟩) (by assumption) ?_
                rotate_left
                · (intro w' hSw; (try dsimp only at hSw); (try simp only [List.getElem_toArray, List.getElem_cons_succ, List.getElem_cons_zero]); go_simp; try (with_reducible rfl))
                simp only [Act.put, List.getElem_toArray, List.getElem_cons_succ, List.getElem_cons_zero, List.setIfInBounds_toArray, List.set_cons_zero, List.set_cons_succ]
                refine wpAnyG_take (v := ?_) 7 (by rfl) (by kernel_rfl) (by kernel_rfl) (by kernel_rfl) (by kernel_rfl) (fun _ _ _ h => h) (Or.inl ⟨by rfl, ?_⟩) (by assumption) ?_
                rotate_left
                · (intro w' hSw; (try dsimp only at hSw); (try simp only [List.getElem_toArray, List.getElem_cons_succ, List.getElem_cons_zero]); go_simp; try (with_reducible rfl))
                simp only [Act.put, List.getElem_toArray, List.getElem_cons_succ, List.getElem_cons_zero, List.setIfInBounds_toArray, List.set_cons_zero, List.set_cons_succ]
                refine wpAnyG_take (v := ?_) 8 (by rfl) (by kernel_rfl) (by kernel_rfl) (by kernel_rfl) (by kernel_rfl) (fun _ _ _ h => h) (Or.inl ⟨by rfl, ?_⟩) (by assumption) ?_
                rotate_left
                · (intro w' hSw; (try dsimp only at hSw); (try simp only [List.getElem_toArray, List.getElem_cons_succ, List.getElem_cons_zero]); go_simp; try (with_reducible rfl))
                simp only [Act.put, List.getElem_toArray, List.getElem_cons_succ, List.getElem_cons_zero, List.setIfInBounds_toArray, List.set_cons_zero, List.set_cons_succ]
                refine wpAnyG_take (v := ?_) 9 (by rfl) (by kernel_rfl) (by kernel_rfl) (by kernel_rfl) (by kernel_rfl) (fun _ _ _ h => h) (Or.inl ⟨by rfl, ?_⟩) (by assumption) ?_
                rotate_left
                · (intro w' hSw; (try dsimp only at hSw); (try simp only [List.getElem_toArray, List.getElem_cons_succ, List.getElem_cons_zero]); go_simp; try (with_reducible rfl))
                simp only [Act.put, List.getElem_toArray, List.getElem_cons_succ, List.getElem_cons_zero, List.setIfInBounds_toArray, List.set_cons_zero, List.set_cons_succ]
                refine wpAnyG_take (v := ?_) 11 (by rfl) (by kernel_rfl) (by kernel_rfl) (by kernel_rfl) (by kernel_rfl) (fun _ _ _ h => h) (Or.inl ⟨by rfl, ?_⟩) (by assumption) ?_
                rotate_left
                · (intro w' hSw; (try dsimp only at hSw); (try simp only [List.getElem_toArray, List.getElem_cons_succ, List.getElem_cons_zero]); go_simp; try (with_reducible rfl))
                simp only [Act.put, List.getElem_toArray, List.getElem_cons_succ, List.getElem_cons_zero, List.setIfInBounds_toArray, List.set_cons_zero, List.set_cons_succ]
                refine wpAnyG_take (v := ?_) 12 (by rfl) (by kernel_rfl) (by kernel_rfl) (by kernel_rfl) (by kernel_rfl) (fun _ _ _ h => h) (Or.inl ⟨by rfl, ?_⟩) (by assumption) ?_
                rotate_left
                · (intro w' hSw; (try dsimp only at hSw); (try simp only [List.getElem_toArray, List.getElem_cons_succ, List.getElem_cons_zero]); go_simp; try (with_reducible rfl))
                simp only [Act.put, List.getElem_toArray, List.getElem_cons_succ, List.getElem_cons_zero, List.setIfInBounds_toArray, List.set_cons_zero, List.set_cons_succ]
                refine wpAnyG_ready [10] (by kernel_rfl) (by simp) ?_
                refine AllReadyG.cons 10 (by rfl) (fun K hK => ?_) ?_
                · simp only [List.getElem_toArray, List.getElem_cons_succ, List.getElem_cons_zero]
                  go_simp
                  go_at_call 25
                  refine (unhide HAa _ hbN).mono ?_
                  rintro e wA ⟨rvA, rfl, hmA, hlA⟩
                  have hbA := unhide HTR _ _ hbN hlA
                  refine hK.out _ _ (unhide HBX _ hbA).1 (fun _ => ?_)
                  clear hK K
                  try simp only [Act.put, List.setIfInBounds_toArray, List.set_cons_zero, List.set_cons_succ]
                  refine wpAnyG_ready [13] (by kernel_rfl) (by simp) ?_
                  refine AllReadyG.cons 13 (by rfl) (fun K hK => ?_) ?_
                  · simp only [List.getElem_toArray, List.getElem_cons_succ, List.getElem_cons_zero]
                    go_simp
                    go_at_call 26
                    refine (unhide HAb _ hbA).mono ?_
                    rintro e wB ⟨rvB, rfl, hmB, hlB⟩
                    have hbB := unhide HTR _ _ hbA hlB
                    replace hmA := hmA.below hlB
                    refine hK.out _ _ (unhide HBX _ hbB).1 (fun _ => ?_)
                    clear hK K
                    try simp only [Act.put, List.setIfInBounds_toArray, List.set_cons_zero, List.set_cons_succ]
                    refine wpAnyG_ready [14] (by kernel_rfl) (by simp) ?_
                    refine AllReadyG.cons 14 (by rfl) (fun K hK => ?_) ?_
                    · simp only [List.getElem_toArray, List.getElem_cons_succ, List.getElem_cons_zero]
                      go_simp
                      go_at_call 19
                      refine (unhide HIs _ _ _ _ (unhide HAl) hmA hmB).mono ?_
                      rintro e wY ⟨rfl, hlY⟩
                      have hbY := unhide HTR _ _ hbB hlY
                      refine hK.out _ _ (unhide HBX _ hbY).1 (fun _ => ?_)
                      clear hK K
                      try simp only [Act.put, List.setIfInBounds_toArray, List.set_cons_zero, List.set_cons_succ]
                      refine wpAnyG_take (v := ?_) 15 (by rfl) (by kernel_rfl) (by kernel_rfl) (by kernel_rfl) (by kernel_rfl) (fun _ _ _ h => h) (Or.inl ⟨by rfl, ?_⟩) (by assumption) ?_
                      rotate_left
                      · (intro w' hSw; (try dsimp only at hSw); (try simp only [List.getElem_toArray, List.getElem_cons_succ, List.getElem_cons_zero]); go_simp; try (with_reducible rfl))
                      simp only [Act.put, List.getElem_toArray, List.getElem_cons_succ, List.getElem_cons_zero, List.setIfInBounds_toArray, List.set_cons_zero, List.set_cons_succ]
                      refine wpAnyG_take (v := ?_) 16 (by rfl) (by kernel_rfl) (by kernel_rfl) (by kernel_rfl) (by kernel_rfl) (fun _ _ _ h => h) (Or.inl ⟨by rfl, ?_⟩) (by assumption) ?_
                      rotate_left
                      · (intro w' hSw; (try dsimp only at hSw); (try simp only [List.getElem_toArray, List.getElem_cons_succ, List.getElem_cons_zero]); go_simp; try (with_reducible rfl))
                      simp only [Act.put, List.getElem_toArray, List.getElem_cons_succ, List.getElem_cons_zero, List.setIfInBounds_toArray, List.set_cons_zero, List.set_cons_succ]
                      refine wpAnyG_take (v := ?_) 17 (by rfl) (by kernel_rfl) (by kernel_rfl) (by kernel_rfl) (by kernel_rfl) (fun _ _ _ h => h) (Or.inl ⟨by rfl, ?_⟩) (by assumption) ?_
                      rotate_left
                      · (intro w' hSw; (try dsimp only at hSw); (try simp only [List.getElem_toArray, List.getElem_cons_succ, List.getElem_cons_zero]); go_simp; try (with_reducible rfl))
                      simp only [Act.put, List.getElem_toArray, List.getElem_cons_succ, List.getElem_cons_zero, List.setIfInBounds_toArray, List.set_cons_zero, List.set_cons_succ]
                      refine wpAnyG_take (v := ?_) 18 (by rfl) (by kernel_rfl) (by kernel_rfl) (by kernel_rfl) (by kernel_rfl) (fun _ _ _ h => h) (Or.inl ⟨by rfl, ?_⟩) (by assumption) ?_
                      rotate_left
                      · (intro w' hSw; (try dsimp only at hSw); (try simp only [List.getElem_toArray, List.getElem_cons_succ, List.getElem_cons_zero]); go_simp; try (with_reducible rfl))
                      simp only [Act.put, List.getElem_toArray, List.getElem_cons_succ, List.getElem_cons_zero, List.setIfInBounds_toArray, List.set_cons_zero, List.set_cons_succ]
                      refine wpAnyG_take (v := ?_) 19 (by rfl) (by kernel_rfl) (by kernel_rfl) (by kernel_rfl) (by kernel_rfl) (fun _ _ _ h => h) (Or.inl ⟨by rfl, ?_⟩) (by assumption) ?_
                      rotate_left
                      · (intro w' hSw; (try dsimp only at hSw); (try simp only [List.getElem_toArray, List.getElem_cons_succ, List.getElem_cons_zero]); go_simp; try (with_reducible rfl))
                      simp only [Act.put, List.getElem_toArray, List.getElem_cons_succ, List.getElem_cons_zero, List.setIfInBounds_toArray, List.set_cons_zero, List.set_cons_succ]
                      refine wpAnyG_take (v := ?_) 21 (by rfl) (by kernel_rfl) (by kernel_rfl) (by kernel_rfl) (by kernel_rfl) (fun _ _ _ h => h) (Or.inl ⟨by rfl, ?_⟩) (by assumption) ?_
                      rotate_left
                      · (intro w' hSw; (try dsimp only at hSw); (try simp only [List.getElem_toArray, List.getElem_cons_succ, List.getElem_cons_zero]); go_simp; try (with_reducible rfl))
                      simp only [Act.put, List.getElem_toArray, List.getElem_cons_succ, List.getElem_cons_zero, List.setIfInBounds_toArray, List.set_cons_zero, List.set_cons_succ]
                      refine wpAnyG_take (v := ?_) 22 (by rfl) (by kernel_rfl) (by kernel_rfl) (by kernel_rfl) (by kernel_rfl) (fun _ _ _ h => h) (Or.inl ⟨by rfl, ?_⟩) (by assumption) ?_
                      rotate_left
                      · (intro w' hSw; (try dsimp only at hSw); (try simp only [List.getElem_toArray, List.getElem_cons_succ, List.getElem_cons_zero]); go_simp; try (with_reducible rfl))
                      simp only [Act.put, List.getElem_toArray, List.getElem_cons_succ, List.getElem_cons_zero, List.setIfInBounds_toArray, List.set_cons_zero, List.set_cons_succ]
                      refine wpAnyG_ready [20] (by kernel_rfl) (by simp) ?_
                      refine AllReadyG.cons 20 (by rfl) (fun K hK => ?_) ?_
                      · simp only [List.getElem_toArray, List.getElem_cons_succ, List.getElem_cons_zero]
                        go_simp
                        go_at_call 27
                        refine (unhide HCa _ hbY).mono ?_
                        rintro e wE ⟨rvE, rfl, hmE, hlE⟩
                        have hbE := unhide HTR _ _ hbY hlE
                        refine hK.out _ _ (unhide HBX _ hbE).1 (fun _ => ?_)
                        clear hK K
                        try simp only [Act.put, List.setIfInBounds_toArray, List.set_cons_zero, List.set_cons_succ]
                        refine wpAnyG_ready [23] (by kernel_rfl) (by simp) ?_
                        refine AllReadyG.cons 23 (by rfl) (fun K hK => ?_) ?_
                        · simp only [List.getElem_toArray, List.getElem_cons_succ, List.getElem_cons_zero]
                          go_simp
                          go_at_call 28
                          refine (unhide HCb _ hbE).mono ?_
                          rintro e wG ⟨rvG, rfl, hmG, hlG⟩
                          have hbG := unhide HTR _ _ hbE hlG
                          replace hmE := hmE.below hlG
                          refine hK.out _ _ (unhide HBX _ hbG).1 (fun _ => ?_)
                          clear hK K
                          try simp only [Act.put, List.setIfInBounds_toArray, List.set_cons_zero, List.set_cons_succ]
                          refine wpAnyG_ready [24] (by kernel_rfl) (by simp) ?_
                          refine AllReadyG.cons 24 (by rfl) (fun K hK => ?_) ?_
                          · simp only [List.getElem_toArray, List.getElem_cons_succ, List.getElem_cons_zero]
                            go_simp
                            go_at_call 19
                            refine (unhide HIs _ _ _ _ (unhide HCl) hmE hmG).mono ?_
                            rintro e wZ ⟨rfl, hlZ⟩
                            have hbZ := unhide HTR _ _ hbG hlZ
                            refine hK.out _ _ (unhide HBX _ hbZ).1 (fun _ => ?_)
                            clear hK K
                            try simp only [Act.put, List.setIfInBounds_toArray, List.set_cons_zero, List.set_cons_succ]
                            refine wpAnyG_take (v := ?_) 25 (by rfl) (by kernel_rfl) (by kernel_rfl) (by kernel_rfl) (by kernel_rfl) (fun _ _ _ h => h) (Or.inl ⟨by rfl, ?_⟩) (by assumption) ?_
                            rotate_left
                            · (intro w' hSw; (try dsimp only at hSw); (try simp only [List.getElem_toArray, List.getElem_cons_succ, List.getElem_cons_zero]); go_simp; try (with_reducible rfl))
                            simp only [Act.put, List.getElem_toArray, List.getElem_cons_succ, List.getElem_cons_zero, List.setIfInBounds_toArray, List.set_cons_zero, List.set_cons_succ]
                            refine wpAnyG_take (v := ?_) 26 (by rfl) (by kernel_rfl) (by kernel_rfl) (by kernel_rfl) (by kernel_rfl) (fun _ _ _ h => h) (Or.inl ⟨by rfl, ?_⟩) (by assumption) ?_
                            rotate_left
                            · (intro w' hSw; (try dsimp only at hSw); (try simp only [List.getElem_toArray, List.getElem_cons_succ, List.getElem_cons_zero]); go_simp; try (with_reducible rfl))
                            simp only [Act.put, List.getElem_toArray, List.getElem_cons_succ, List.getElem_cons_zero, List.setIfInBounds_toArray, List.set_cons_zero, List.set_cons_succ]
                            refine wpAnyG_done (by kernel_rfl) ?_ _
                            refine NoPanic.normal ?_
                            go_wp2
                            go_meet
                            exact ⟨rfl, hide hbZ⟩
                          exact AllReadyG.nil
                        exact AllReadyG.nil
                      exact AllReadyG.nil
                    exact AllReadyG.nil
                  exact AllReadyG.nil
                exact AllReadyG.nil
              exact AllReadyG.nil
            exact AllReadyG.nil
          case rest =>
            obtain ⟨wP2, rfl⟩ : ∃ wP2, wP2 = wc := ⟨_, rfl⟩
            obtain ⟨rfl, HBP2⟩ := hcut
            have HBN := hide (unhide HUP wP2 (unhide HBP2))
            clear HBP2
            go_wp2
            go_roundg g'
            case rel => exact ⟨i + 1, by omega, by go_num, HBN⟩
            case measure => omega
end Go.Proofs.Ytcdpgiklmonabaa


