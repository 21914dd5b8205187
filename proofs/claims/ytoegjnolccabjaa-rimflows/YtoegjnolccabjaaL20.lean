/- What the proof needs, part 20. -/
import Derived.Test.YtoegjnolccabjaaL19
/- The reference's Flow (chapter 13): a flow is taken. -/
namespace Go.Proofs.Ytoegjnolccabjaa
open Go Go.RowKit

set_option maxRecDepth 100000 in
set_option maxHeartbeats 4000000 in
theorem ends13_any (q : Sp.Net) (v tv nv cv : Value) (s t : Int) (w : World) (hv : NetI w v q tv nv cv) :
    Calls Try.prog 33 #[v, .int .i64 s, .int .i64 t] w fun e w' => e = .returned (.int .i64 (Sp.endsE q s t)) ∧ Below w.heap.size w w' := by
  obtain ⟨rfl, h1, h2, h3⟩ := hv
  obtain ⟨ta, tc, rfl, -, -⟩ := h1.form
  obtain ⟨na, nc, rfl, -, -⟩ := h2.form
  obtain ⟨ca, cc, rfl, -, -⟩ := h3.form
  have HB := hide ((Below.refl _ w).alloc (Nat.le_refl _) (.cells #[.int .i64 q.n, .slice ta q.tail.length tc, .slice na q.next.length nc, .slice ca q.cap.length cc] 25))
  clear h1 h2 h3
  have H3 : Hid (¬ ((0 ≤ s ∧ s < q.n) ∧ (0 ≤ t ∧ t < q.n)) → Sp.endsE q s t = 3) := hide fun h => by unfold Sp.endsE; rw [if_pos h]
  have H9 : Hid (((0 ≤ s ∧ s < q.n) ∧ (0 ≤ t ∧ t < q.n)) → s = t → Sp.endsE q s t = 9) := hide fun h h' => by unfold Sp.endsE; rw [if_neg (fun k => k h), if_pos h']
  have H0 : Hid (((0 ≤ s ∧ s < q.n) ∧ (0 ≤ t ∧ t < q.n)) → s ≠ t → Sp.endsE q s t = 0) := hide fun h h' => by unfold Sp.endsE; rw [if_neg (fun k => k h), if_neg h']
  generalize Sp.endsE q s t = E at *
  by_cases c1 : s < 0
  · have HE := hide (unhide H3 (by omega))
    clear H3 H9 H0
    go_enter Try.func33, Try.ntmps33
    go_wp2
    go_ret
    exact ⟨by rw [unhide HE]; rfl, unhide HB⟩
  · by_cases c2 : t < 0
    · have HE := hide (unhide H3 (by omega))
      clear H3 H9 H0
      go_enter Try.func33, Try.ntmps33
      go_wp2
      go_ret
      exact ⟨by rw [unhide HE]; rfl, unhide HB⟩
    · by_cases c3 : q.n ≤ s
      · have HE := hide (unhide H3 (by omega))
        clear H3 H9 H0
        go_enter Try.func33, Try.ntmps33
        go_wp2
        go_ret
        exact ⟨by rw [unhide HE]; rfl, unhide HB⟩
      · by_cases c4 : q.n ≤ t
        · have HE := hide (unhide H3 (by omega))
          clear H3 H9 H0
          go_enter Try.func33, Try.ntmps33
          go_wp2
          go_ret
          exact ⟨by rw [unhide HE]; rfl, unhide HB⟩
        · by_cases c5 : s = t
          · have HE := hide (unhide H9 (by omega) c5)
            clear H3 H9 H0
            subst c5
            have c6 : (s == s) = true := beq_self_eq_true s
            go_enter Try.func33, Try.ntmps33
            go_wp2
            go_ret
            exact ⟨by rw [unhide HE]; rfl, unhide HB⟩
          · have HE := hide (unhide H0 (by omega) c5)
            clear H3 H9 H0
            have c6 : (s == t) = false := beq_eq_false_iff_ne.2 c5
            go_enter Try.func33, Try.ntmps33
            go_wp2
            go_ret
            exact ⟨by rw [unhide HE]; rfl, unhide HB⟩
set_option maxRecDepth 100000 in
set_option maxHeartbeats 8000000 in
theorem rflow13_ok (q : Sp.Net) (v tv nv cv fv : Value) (s t : Int) (N : Nat) (L : List Int) (x : Int) (w : World) (hv : NetI w v q tv nv cv) (hF : Ints w fv L) (hfl : Sp.FlowQ q s t L x) (hs : 0 ≤ s ∧ s < q.n) (ht : 0 ≤ t ∧ t < q.n) (hst : s ≠ t) (hev : q.tail.length % 2 = 0) (hle : q.tail.length ≤ 48) (hcl : q.cap.length = q.tail.length) (hN : q.n = (N : Int)) (hN1 : N ≤ 60) (hcb : ∀ x ∈ q.cap, 0 ≤ x ∧ x ≤ 2147483648) :
    Calls Try.prog 19 #[v, .int .i64 s, .int .i64 t, fv] w fun e w' => e = .returned (.int .i64 0) ∧ Below w.heap.size w w' := by
  have hv' := hv
  have hE : Sp.endsE q s t = 0 := by unfold Sp.endsE; rw [if_neg (fun k => k ⟨hs, ht⟩), if_neg hst]
  have hll := hfl.len
  obtain ⟨rfl, h1, h2, h3⟩ := hv
  obtain ⟨ta, tc, rfl, -, -⟩ := h1.form
  obtain ⟨na, nc, rfl, -, -⟩ := h2.form
  obtain ⟨ca, cc, rfl, -, -, HC⟩ := h3.allA
  obtain ⟨fa, fc, hfe, -, -⟩ := hF.form
  rw [hll] at hfe
  subst hfe
  clear h1 h2 h3
  have HCb : Hid (∀ d, d < q.tail.length → 0 ≤ q.cap.getD d 0 ∧ q.cap.getD d 0 ≤ 2147483648) := hide fun d hd => hcb _ (Sp.getD_mem (by omega))
  have HFl := hide hfl
  rw [hN] at hv' ⊢
  have HBX := hide (box_new w (N : Int) (.slice ta q.tail.length tc) (.slice na q.next.length nc) (.slice ca q.cap.length cc))
  obtain ⟨W1, hW1⟩ : ∃ W1, W1 = w.alloc (.cells #[.int .i64 (N : Int), .slice ta q.tail.length tc, .slice na q.next.length nc, .slice ca q.cap.length cc] 25) := ⟨_, rfl⟩
  rw [← hW1] at HBX
  have hb1 : Below w.heap.size w W1 := by rw [hW1]; exact (Below.refl _ w).alloc (Nat.le_refl _) _
  have hs1 : W1.heap.size = w.heap.size + 1 := by rw [hW1]; simp
  have HW : Hid (∀ w', Below (w.heap.size + 1) W1 w' → Below w.heap.size w w') := hide fun w' hb => hb1.trans (hb.mono (by omega))
  have HTR : Hid (∀ w' w'', Below (w.heap.size + 1) W1 w' → Below w'.heap.size w' w'' → Below (w.heap.size + 1) W1 w'') := hide fun w' w'' h h' => h.trans (h'.mono (by have := h.size; omega))
  have HNt : Hid (∀ w', Below (w.heap.size + 1) W1 w' → NetI w' (.agg #[.int .i64 (N : Int), .slice ta q.tail.length tc, .slice na q.next.length nc, .slice ca q.cap.length cc]) q (.slice ta q.tail.length tc) (.slice na q.next.length nc) (.slice ca q.cap.length cc)) := hide fun w' hb => ⟨by rw [hN], hv'.tail.below (unhide HW w' hb), hv'.next.below (unhide HW w' hb), hv'.cap.below (unhide HW w' hb)⟩
  have HEn := hide (fun w' (hb : Below (w.heap.size + 1) W1 w') => ends13_any q _ _ _ _ s t w' (unhide HNt w' hb))
  rw [hE] at HEn
  have HLi := hide hF
  have HVl : Hid (∀ (u : Nat) w', (u : Int) ≠ s → (u : Int) ≠ t → Below (w.heap.size + 1) W1 w' → Calls Try.prog 20 #[.agg #[.int .i64 (N : Int), .slice ta q.tail.length tc, .slice na q.next.length nc, .slice ca q.cap.length cc], .int .i64 (u : Int), .slice fa q.tail.length fc] w' fun e w'' => e = .returned (.int .i64 0) ∧ Below w'.heap.size w' w'') := hide fun u w' hu1 hu2 hb => rvalue9_is q _ _ _ _ _ (u : Int) L 0 w' (unhide HNt w' hb) (hF.below (unhide HW w' hb)) hll (by omega) (hfl.mid _ hu1 hu2) (by omega) (by omega)
  obtain ⟨P, hP⟩ : ∃ P : Ending → World → Prop, P = fun e w' => e = .returned (.int .i64 0) ∧ Below w.heap.size w w' := ⟨_, rfl⟩
  rw [← hP]
  have HP := hide hP
  have HCl := hide hcl
  have HLl := hide hll
  have hB0 : Below (w.heap.size + 1) W1 W1 := Below.refl _ _
  have HW1 := hide hW1
  clear hP hb1 hv' hs1 hN hcl hcb hF hfl hE hll hst hW1
  go_enter Try.func19, Try.ntmps19
  go_upto_region 1 with fail
  rw [← unhide HW1]
  obtain ⟨x0, x1, x2, x3, -⟩ := unhide HBX W1 hB0
  go_wp2_with fail
  go_at_call 33
  refine (unhide HEn W1 hB0).mono ?_
  rintro e w5 ⟨rfl, hl⟩
  have hb5 := unhide HTR _ _ hB0 hl
  clear hl x0 x1 x2 x3 hB0 HW1
  obtain ⟨x0, x1, x2, x3, -⟩ := unhide HBX w5 hb5
  have e0 : (((q.tail.length : Nat) : Int) != ((q.tail.length : Nat) : Int)) = false := bne_self_eq_false _
  go_wp2
  clear x0 x1 x2 x3
  go_loopg [10] q.tail.length (fun g s10 wr => ∃ d : Nat, d + g = q.tail.length ∧ s10 = .int .i64 (d : Int) ∧ Hid (Below (w.heap.size + 1) W1 wr))
  case atStart => exact ⟨0, by omega, rfl, hide hb5⟩
  case round =>
    clear hb5
    obtain ⟨d, hdg, rfl, HI⟩ := hrel
    cases gk with
    | succ g' =>
      have hd : d < q.tail.length := by omega
      have hdI : (d : Int) < (q.tail.length : Int) := by omega
      have ho := oth_lt hd hev
      have hoI : ((Sp.oth d : Nat) : Int) < (q.tail.length : Int) := by omega
      have hX : bits .xor .i64 (d : Int) 1 = ((Sp.oth d : Nat) : Int) := xor_oth ⟨d, by omega⟩
      obtain ⟨fb, fo, rfl, -, hfc⟩ := (unhide HLi).at2 (j := d) (k := Sp.oth d) (by rw [unhide HLl]; exact hd) (by rw [unhide HLl]; exact ho)
      obtain ⟨c1, c2⟩ := hfc wr (unhide HW _ (unhide HI))
      have b1 := (unhide HFl).le d hd
      have b2 := (unhide HFl).ge hev hd
      have b3 := unhide HCb d hd
      have b4 := unhide HCb _ ho
      rw [(unhide HFl).op d hd] at c2
      generalize L.getD d 0 = fd at *
      have hw1 : IntKind.i64.wrap (0 - -fd) = fd := by rw [IntKind.wrap_i64]; omega
      have hw3 : IntKind.i64.wrap fd = fd := by rw [IntKind.wrap_i64]; omega
      have e3 : (fd != fd) = false := bne_self_eq_false _
      have e4 : (fd == -9223372036854775808) = false := beq_eq_false_iff_ne.2 (by omega)
      have HI2 : Hid (∀ n, Below (w.heap.size + 1) W1 (wr.drewN n)) := hide fun n => below_dn (unhide HI) n
      clear hfc HI b1 b2 b3 b4
      go_wp2
      go_quiet (fail)
      have HI3 := hide (unhide HI2 nq)
      clear HI2 c1 c2
      generalize wr.drewN nq = wq at *
      go_wp2
      go_roundg g'
      case rel => exact ⟨d + 1, by omega, by go_num, HI3⟩
      case measure => omega
    | zero =>
      have hie : d = q.tail.length := by omega
      rw [hie]
      clear hie hdg
      go_wp2
      go_loopg [11] q.tail.length (fun g s11 wr => ∃ d : Nat, d + g = q.tail.length ∧ s11 = .int .i64 (d : Int) ∧ Hid (Below (w.heap.size + 1) W1 wr))
      case atStart => exact ⟨0, by omega, rfl, HI⟩
      case round =>
        clear HI
        obtain ⟨d, hdg, rfl, HI⟩ := hrel
        obtain ⟨x0, x1, x2, x3, -⟩ := unhide HBX wr (unhide HI)
        cases gk with
        | succ g' =>
          have hd : d < q.tail.length := by omega
          have hdI : (d : Int) < (q.tail.length : Int) := by omega
          have hdC : (d : Int) < (q.cap.length : Int) := by rw [unhide HCl]; omega
          obtain ⟨fb, fo, rfl, -, hfc⟩ := (unhide HLi).at_ d (by rw [unhide HLl]; exact hd)
          obtain ⟨cb, co, rfl, -, hcc⟩ := unhide HC d (by rw [unhide HCl]; exact hd)
          have c1 := hfc wr (unhide HW _ (unhide HI))
          have c2 := hcc wr (unhide HW _ (unhide HI))
          have b1 := (unhide HFl).le d hd
          generalize L.getD d 0 = fd at *
          generalize q.cap.getD d 0 = cd at *
          have n1 : ¬ cd < fd := by omega
          have n2 : decide (fd > cd) = false := decide_eq_false (by omega)
          have HI2 : Hid (∀ n, Below (w.heap.size + 1) W1 (wr.drewN n)) := hide fun n => below_dn (unhide HI) n
          clear hfc hcc HI b1
          go_wp2
          go_quiet (fail)
          have HI3 := hide (unhide HI2 nq)
          clear HI2 c1 c2 x0 x1 x2 x3
          generalize wr.drewN nq = wq at *
          go_wp2
          go_roundg g'
          case rel => exact ⟨d + 1, by omega, by go_num, HI3⟩
          case measure => omega
        | zero =>
          have hie : d = q.tail.length := by omega
          rw [hie]
          clear hie hdg
          go_wp2
          clear x0 x1 x2 x3
          go_loopg [12] N (fun g s12 wr => ∃ u : Nat, u + g = N ∧ s12 = .int .i64 (u : Int) ∧ Hid (Below (w.heap.size + 1) W1 wr))
          case atStart => exact ⟨0, by omega, rfl, HI⟩
          case round =>
            clear HI
            obtain ⟨u, hug, rfl, HI⟩ := hrel
            obtain ⟨x0, x1, x2, x3, -⟩ := unhide HBX wr (unhide HI)
            cases gk with
            | succ g' =>
              have huI : (u : Int) < (N : Int) := by omega
              by_cases k1 : (u : Int) = s
              · have e1 : ((u : Int) != s) = false := by rw [k1]; exact bne_self_eq_false _
                clear k1
                go_wp2
                go_roundg g'
                case rel => exact ⟨u + 1, by omega, by go_num, HI⟩
                case measure => omega
              · have e1 : ((u : Int) != s) = true := bne_iff_ne.2 k1
                by_cases k2 : (u : Int) = t
                · have e2 : ((u : Int) != t) = false := by rw [k2]; exact bne_self_eq_false _
                  clear k1 k2
                  go_wp2
                  go_roundg g'
                  case rel => exact ⟨u + 1, by omega, by go_num, HI⟩
                  case measure => omega
                · have e2 : ((u : Int) != t) = true := bne_iff_ne.2 k2
                  have HV := hide (unhide HVl u wr k1 k2 (unhide HI))
                  clear k1 k2
                  go_wp2_with fail
                  go_at_call 20
                  refine (unhide HV).mono ?_
                  rintro e w8 ⟨rfl, hl⟩
                  have HI2 := hide (unhide HTR _ _ (unhide HI) hl)
                  clear HV hl HI x0 x1 x2 x3
                  go_wp2
                  go_roundg g'
                  case rel => exact ⟨u + 1, by omega, by go_num, HI2⟩
                  case measure => omega
            | zero =>
              have hie : u = N := by omega
              have hnI : ¬ (u : Int) < (N : Int) := by omega
              have HF := hide (unhide HW _ (unhide HI))
              clear hug HI
              go_wp2
              rw [unhide HP]
              exact ⟨rfl, unhide HF⟩
end Go.Proofs.Ytoegjnolccabjaa


/- The law DualFirst, walked. -/
namespace Go.Proofs.Ytoegjnolccabjaa
open Go Go.RowKit

/-- Was a dart of the face that begins at the vertex met among the first ones? -/
def Sp.mt (T F : List Int) (f : Nat) (v : Int) : Nat → Bool
  | 0 => false
  | j + 1 => Sp.mt T F f v j || (F.getD j 0 == (f : Int) && T.getD j 0 == v)
theorem Sp.sharedGo_some {T F : List Int} {s t : Int} : ∀ g f (c : Nat), f ≤ c → c < f + g → Sp.meets T F c s → Sp.meets T F c t → (Sp.sharedGo T F s t g f).2 = true
  | 0, f, c, h1, h2, _, _ => by omega
  | g + 1, f, c, h1, h2, h3, h4 => by
    rw [Sp.sharedGo]
    split
    · rfl
    · rename_i h
      refine Sp.sharedGo_some g (f + 1) c ?_ (by omega) h3 h4
      rcases Nat.lt_or_ge f c with h5 | h5
      · omega
      · obtain rfl : f = c := by omega
        exact absurd ⟨Sp.meetsB_true h3, Sp.meetsB_true h4⟩ h
/-- The ends of an edge share a face. -/
theorem Sp.DualQ.edge {q : Sp.Net} (h : Sp.DualQ q) {x : Nat} (hx : x < q.tail.length) : (Sp.shared q (q.tail.getD x 0) (q.tail.getD (Sp.oth x) 0)).2 = (q.tail.getD x 0 != q.tail.getD (Sp.oth x) 0) := by
  unfold Sp.shared
  by_cases e : q.tail.getD x 0 = q.tail.getD (Sp.oth x) 0
  · rw [if_pos e, e]; simp
  · rw [if_neg e]
    have e2 : (q.tail.getD x 0 != q.tail.getD (Sp.oth x) 0) = true := by simpa using e
    rw [e2]
    have ho := oth_lt hx h.link.ev
    have hb := h.fb hx
    have hn := h.mpN _ ho
    have hk := h.k1
    have e3 : ((((Sp.faces2 q).1.getD x 0).toNat : Nat) : Int) = (Sp.faces2 q).1.getD x 0 := by omega
    refine Sp.sharedGo_some _ 0 ((Sp.faces2 q).1.getD x 0).toNat (by omega) (by omega) ⟨x, hx, rfl, e3.symm⟩ ⟨Sp.fn q.next (Sp.oth x), hn, ?_, ?_⟩
    · have hv := h.pl.vert.inv _ ho
      have b1 := h.tb _ (Sp.getD_mem (l := q.tail) hn)
      have b2 := h.tb _ (Sp.getD_mem (l := q.tail) ho)
      omega
    · rw [e3, h.turn ho, oth_oth]
end Go.Proofs.Ytoegjnolccabjaa


/- The law RimEdges, walked. -/
namespace Go.Proofs.Ytoegjnolccabjaa
open Go Go.RowKit

theorem Sp.RimIs.none {q : Sp.Net} {s t : Int} {P L : List Int} {x : Int} (h : Sp.RimIs q s t P L x) (h0 : Sp.rimE q s t ≠ 0) : P = [] ∧ L = [] ∧ x = 0 := by
  rcases h with ⟨-, h1, h2, h3⟩ | ⟨h1, -⟩
  · exact ⟨h1, h2, h3⟩
  · exact absurd h1 h0
end Go.Proofs.Ytoegjnolccabjaa


/- The law RimFlows, walked. -/
namespace Go.Proofs.Ytoegjnolccabjaa
open Go Go.RowKit

set_option maxRecDepth 100000 in
set_option maxHeartbeats 4000000 in
theorem rimFlows_any (ns : List Int) (x : Value) (s t : Int) (w : World) (hx : Ints w x ns) :
    Calls Try.prog 4 #[x, .int .i64 s, .int .i64 t] w fun e w' => e = .returned (.bool true) ∧ Below w.heap.size w w' := by
  obtain ⟨a, c, rfl, hc, hm⟩ := hx.form
  have HPL := hide (fun w' (hb : Below w.heap.size w w') => plane_any ns (.slice a ns.length c) w' (hx.below hb))
  have HOK := hide (Sp.plane_ok ns)
  have HLQ := hide (Sp.linkQ_plane ns)
  have HCk := hide (Sp.check_plane ns)
  have HRQ := hide (Sp.rimQ_plane ns)
  have HDQ := hide (Sp.dualQ_pos ns)
  have HCi := hide (Sp.plane_cir ns)
  generalize Sp.plane ns = q at *
  generalize ns.length = n at *
  clear hx
  obtain ⟨P, hP⟩ : ∃ P : Ending → World → Prop, P = fun e w' => e = .returned (.bool true) ∧ Below w.heap.size w w' := ⟨_, rfl⟩
  rw [← hP]
  have HP := hide hP
  clear hP
  go_enter Try.func4, Try.ntmps4
  go_wp2_with fail
  go_at_call 9
  refine (known8_any w).mono ?_
  rintro e w2 ⟨rfl, hb2⟩
  have Hb2 := hide hb2
  clear hb2
  go_wp2_with fail
  go_at_call 10
  refine (unhide HPL _ (unhide Hb2)).mono ?_
  clear HPL
  rintro e w3 ⟨v, tv, nv, cv, rfl, hnv, hb3⟩
  have hval := hnv.val
  subst hval
  obtain ⟨ta, tc, rfl, htc, htm, HT⟩ := hnv.netI.tail.allD
  obtain ⟨na, nc, rfl, -, -⟩ := hnv.netI.next.form
  obtain ⟨ca, cc, rfl, -, -⟩ := hnv.netI.cap.form
  obtain ⟨W4, hW4⟩ : ∃ W4, W4 = w3.alloc (.cells #[.int .i64 q.n, .slice ta q.tail.length tc, .slice na q.next.length nc, .slice ca q.cap.length cc] 25) := ⟨_, rfl⟩
  obtain ⟨hBX, hs4, hTR⟩ := boxed ((unhide Hb2).trans (hb3.mono (unhide Hb2).size)) hnv.netI W4 hW4
  have HBX := hide hBX
  have HTR := hide hTR
  have Hs4 := hide hs4
  have HW4 := hide hW4
  clear hnv hb3 Hb2 hBX hTR hs4 hW4
  have hb4 : Below (w3.heap.size + 1) W4 W4 := Below.refl _ _
  have HWK := hide ((unhide HOK).walk (by omega))
  have hn0 : 1 ≤ q.n := (unhide HOK).n0
  have hn1 : q.n ≤ 100 := by have := (unhide HOK).n1; omega
  go_upto_region 4 with fail
  rw [← unhide HW4]
  go_cut [8, 9] (fun s8 s9 w' => s8 = .int .i64 (s % q.n) ∧ s9 = .int .i64 (t % q.n) ∧ Hid (Below (w3.heap.size + 1) W4 w'))
  case first =>
    have hbq : Below (w3.heap.size + 1) W4 W4.drew := hb4.drew
    refine wp_region_G (fun w' => w'.cell? ⟨w3.heap.size, 0, none⟩ = some (.int .i64 q.n) ∧ w'.cell? ⟨w3.heap.size, 1, none⟩ = some (.slice ta q.tail.length tc) ∧ w'.cell? ⟨w3.heap.size, 2, none⟩ = some (.slice na q.next.length nc) ∧ w'.cell? ⟨w3.heap.size, 3, none⟩ = some (.slice ca q.cap.length cc)) (fun _ => false) (by kernel_rfl) (unhide HBX _ hbq).1 (fun hHeld => ?_)
    generalize W4.drew = wq at *
    refine wpAnyG_take (v := ?_) 0 (by rfl) (by kernel_rfl) (by kernel_rfl) (by kernel_rfl) (by kernel_rfl) (fun _ _ _ h => h) (Or.inl ⟨by rfl, ?_⟩) (by assumption) ?_
    rotate_left
    · (intro w' hSw; (try dsimp only at hSw); (try simp only [List.getElem_toArray, List.getElem_cons_zero]); go_simp; try (with_reducible rfl))
    simp only [Act.put, List.getElem_toArray, List.getElem_cons_zero, List.setIfInBounds_toArray, List.set_cons_zero, List.set_cons_succ]
    refine wpAnyG_take (v := ?_) 1 (by rfl) (by kernel_rfl) (by kernel_rfl) (by kernel_rfl) (by kernel_rfl) (fun _ _ _ h => h) (Or.inl ⟨by rfl, ?_⟩) (by assumption) ?_
    rotate_left
    · (intro w' hSw; (try dsimp only at hSw); (try simp only [List.getElem_toArray, List.getElem_cons_succ, List.getElem_cons_zero]); go_simp; try (with_reducible rfl))
    simp only [Act.put, List.getElem_toArray, List.getElem_cons_succ, List.getElem_cons_zero, List.setIfInBounds_toArray, List.set_cons_zero, List.set_cons_succ]
    refine wpAnyG_take (v := ?_) 2 (by rfl) (by kernel_rfl) (by kernel_rfl) (by kernel_rfl) (by kernel_rfl) (fun _ _ _ h => h) (Or.inl ⟨by rfl, ?_⟩) (by assumption) ?_
    rotate_left
    · (intro w' hSw; (try dsimp only at hSw); (try simp only [List.getElem_toArray, List.getElem_cons_succ, List.getElem_cons_zero]); go_simp; try (with_reducible rfl))
    simp only [Act.put, List.getElem_toArray, List.getElem_cons_succ, List.getElem_cons_zero, List.setIfInBounds_toArray, List.set_cons_zero, List.set_cons_succ]
    refine wpAnyG_take (v := ?_) 4 (by rfl) (by kernel_rfl) (by kernel_rfl) (by kernel_rfl) (by kernel_rfl) (fun _ _ _ h => h) (Or.inl ⟨by rfl, ?_⟩) (by assumption) ?_
    rotate_left
    · (intro w' hSw; (try dsimp only at hSw); (try simp only [List.getElem_toArray, List.getElem_cons_succ, List.getElem_cons_zero]); go_simp; try (with_reducible rfl))
    simp only [Act.put, List.getElem_toArray, List.getElem_cons_succ, List.getElem_cons_zero, List.setIfInBounds_toArray, List.set_cons_zero, List.set_cons_succ]
    refine wpAnyG_take (v := ?_) 5 (by rfl) (by kernel_rfl) (by kernel_rfl) (by kernel_rfl) (by kernel_rfl) (fun _ _ _ h => h) (Or.inl ⟨by rfl, ?_⟩) (by assumption) ?_
    rotate_left
    · (intro w' hSw; (try dsimp only at hSw); (try simp only [List.getElem_toArray, List.getElem_cons_succ, List.getElem_cons_zero]); go_simp; try (with_reducible rfl))
    simp only [Act.put, List.getElem_toArray, List.getElem_cons_succ, List.getElem_cons_zero, List.setIfInBounds_toArray, List.set_cons_zero, List.set_cons_succ]
    refine wpAnyG_take (v := ?_) 6 (by rfl) (by kernel_rfl) (by kernel_rfl) (by kernel_rfl) (by kernel_rfl) (fun _ _ _ h => h) (Or.inl ⟨by rfl, ?_⟩) (by assumption) ?_
    rotate_left
    · (intro w' hSw; (try dsimp only at hSw); (try simp only [List.getElem_toArray, List.getElem_cons_succ, List.getElem_cons_zero]); go_simp; try (with_reducible rfl))
    simp only [Act.put, List.getElem_toArray, List.getElem_cons_succ, List.getElem_cons_zero, List.setIfInBounds_toArray, List.set_cons_zero, List.set_cons_succ]
    refine wpAnyG_ready [3] (by kernel_rfl) (by simp) ?_
    refine AllReadyG.cons 3 (by rfl) (fun K hK => ?_) ?_
    · simp only [List.getElem_toArray, List.getElem_cons_succ, List.getElem_cons_zero]
      go_simp
      go_at_call 11
      refine (within8_any s q.n _ (by omega) (by omega)).mono ?_
      rintro e wc1 ⟨rfl, hlc1⟩
      have hlc1' := hlc1.symm
      clear hlc1
      subst hlc1'
      refine hK.out _ _ (unhide HBX _ hbq).1 (fun _ => ?_)
      clear hK K
      try simp only [Act.put, List.setIfInBounds_toArray, List.set_cons_zero, List.set_cons_succ]
      refine wpAnyG_ready [7] (by kernel_rfl) (by simp) ?_
      refine AllReadyG.cons 7 (by rfl) (fun K hK => ?_) ?_
      · simp only [List.getElem_toArray, List.getElem_cons_succ, List.getElem_cons_zero]
        go_simp
        go_at_call 11
        refine (within8_any t q.n _ (by omega) (by omega)).mono ?_
        rintro e wc2 ⟨rfl, hlc2⟩
        have hlc2' := hlc2.symm
        clear hlc2
        subst hlc2'
        refine hK.out _ _ (unhide HBX _ hbq).1 (fun _ => ?_)
        clear hK K
        try simp only [Act.put, List.setIfInBounds_toArray, List.set_cons_zero, List.set_cons_succ]
        refine wpAnyG_take (v := ?_) 8 (by rfl) (by kernel_rfl) (by kernel_rfl) (by kernel_rfl) (by kernel_rfl) (fun _ _ _ h => h) (Or.inl ⟨by rfl, ?_⟩) (by assumption) ?_
        rotate_left
        · (intro w' hSw; (try dsimp only at hSw); (try simp only [List.getElem_toArray, List.getElem_cons_succ, List.getElem_cons_zero]); go_simp; try (with_reducible rfl))
        simp only [Act.put, List.getElem_toArray, List.getElem_cons_succ, List.getElem_cons_zero, List.setIfInBounds_toArray, List.set_cons_zero, List.set_cons_succ]
        refine wpAnyG_take (v := ?_) 9 (by rfl) (by kernel_rfl) (by kernel_rfl) (by kernel_rfl) (by kernel_rfl) (fun _ _ _ h => h) (Or.inl ⟨by rfl, ?_⟩) (by assumption) ?_
        rotate_left
        · (intro w' hSw; (try dsimp only at hSw); (try simp only [List.getElem_toArray, List.getElem_cons_succ, List.getElem_cons_zero]); go_simp; try (with_reducible rfl))
        simp only [Act.put, List.getElem_toArray, List.getElem_cons_succ, List.getElem_cons_zero, List.setIfInBounds_toArray, List.set_cons_zero, List.set_cons_succ]
        refine wpAnyG_done (by kernel_rfl) ?_ _
        refine NoPanic.normal ?_
        clear hHeld
        have HBq := hide hbq
        go_wp2
        go_meet
        exact ⟨rfl, rfl, HBq⟩
      exact AllReadyG.nil
    exact AllReadyG.nil
  case rest =>
    obtain ⟨rfl, rfl, HBq⟩ := hcut
    have hb5 := unhide HBq
    clear HBq hb4
    generalize wc = w5 at *
    obtain ⟨N, hN⟩ : ∃ N : Nat, q.n = (N : Int) := ⟨q.n.toNat, by omega⟩
    obtain ⟨a, ha⟩ : ∃ a : Nat, s % q.n = (a : Int) := ⟨(s % q.n).toNat, by have := Int.emod_nonneg s (show q.n ≠ 0 by omega); omega⟩
    obtain ⟨b, hb⟩ : ∃ b : Nat, t % q.n = (b : Int) := ⟨(t % q.n).toNat, by have := Int.emod_nonneg t (show q.n ≠ 0 by omega); omega⟩
    have haN : a < N := by have := Int.emod_lt_of_pos s (show 0 < q.n by omega); omega
    have hbN : b < N := by have := Int.emod_lt_of_pos t (show 0 < q.n by omega); omega
    have hN60 : N ≤ 60 := by have := (unhide HRQ).n1; omega
    rw [ha, hb]
    clear ha hb
    have HNe := hide hN
    have HC := hide (Sp.rimE_cases (unhide HRQ) (s := (a : Int)) (t := (b : Int)) (by omega) (by omega))
    have HA := hide (fun w' (hb : Below (w3.heap.size + 1) W4 w') => shared2_any q _ _ _ _ (a : Int) (b : Int) w' (unhide HBX w' hb).2.1 (unhide HLQ))
    have HD := hide (fun w' (hb : Below (w3.heap.size + 1) W4 w') => rmflow_any q _ _ _ _ (a : Int) (b : Int) w' (unhide HBX w' hb).2.1 (unhide HRQ))
    have HTb : Hid (∀ x ∈ q.tail, 0 ≤ x ∧ x < (N : Int)) := hide fun x hx => by have := (unhide HOK).tb x hx; omega
    have HEv := hide (unhide HRQ).link.ev
    have HM := hide (fun w' (hst : a ≠ b) (hb : Below (w3.heap.size + 1) W4 w') => rmost9_yes q _ _ _ _ a b N w' (unhide HBX w' hb).2.1 (unhide HEv) (unhide HRQ).le (unhide HOK).cp hN hN60 haN hbN hst (unhide HTb) (unhide HRQ).cb)
    have HK := hide (fun w' (L : List Int) (x : Int) fv (hst : (a : Int) ≠ (b : Int)) (hF : Ints w' fv L) (h : Sp.FlowQ q (a : Int) (b : Int) L x) (hb : Below (w3.heap.size + 1) W4 w') => rflow13_ok q _ _ _ _ fv (a : Int) (b : Int) N L x w' (unhide HBX w' hb).2.1 hF h (by omega) (by omega) hst (unhide HEv) (unhide HRQ).le (unhide HOK).cp hN hN60 (unhide HRQ).cb)
    have HFl : Hid (∀ P L x, Sp.RimIs q (a : Int) (b : Int) P L x → Sp.rimE q (a : Int) (b : Int) = 0 → Sp.FlowQ q (a : Int) (b : Int) L x ∧ 0 ≤ x ∧ x < 1152921504606846976) := hide fun P L x h h0 => h.flow (unhide HDQ) (unhide HRQ) h0
    have HMo : Hid (∀ P L x, Sp.RimIs q (a : Int) (b : Int) P L x → Sp.rimE q (a : Int) (b : Int) = 0 → ∀ L' x', Sp.FlowQ q (a : Int) (b : Int) L' x' → x' ≤ x) := hide fun P L x h h0 L' x' h' => h.most (unhide HDQ) (unhide HRQ) (unhide HCi) h0 h'
    have hle48 : q.tail.length ≤ 48 := (unhide HRQ).le
    clear htc htm HT HLQ HCk HWK HOK HDQ HCi hN
    obtain ⟨x0, x1, x2, x3⟩ := (unhide HBX _ hb5).1
    go_wp2_with fail
    go_at_call 14
    refine (unhide HD _ hb5).mono ?_
    rintro e w6 ⟨lv, P1, L1, x9, rfl, hO, hR, hl⟩
    have hb6 := unhide HTR _ _ hb5 hl
    have hI6 := OwnI.ints hO
    clear hl x0 x1 x2 x3
    obtain ⟨x0, x1, x2, x3⟩ := (unhide HBX _ hb6).1
    go_wp2_with fail
    go_at_call 17
    refine (unhide HA _ hb6).mono ?_
    rintro e w7 ⟨rfl, hl⟩
    have hb7 := unhide HTR _ _ hb6 hl
    have hI7 := hI6.below hl
    clear hl x0 x1 x2 x3
    clear hO hI6 hb5 hb6 HA HD
    obtain ⟨la, lc, hlv, -, -⟩ := hI7.form
    subst hlv
    have HF7 := hide (unhide HBX _ hb7).2.2.1
    rcases unhide HC with ⟨hE, hst⟩ | ⟨hE, hst, hsh⟩ | ⟨hE, hst, hsh⟩
    · obtain ⟨-, hL, hx⟩ := hR.none (by rw [hE]; decide)
      have e1 : ((a : Int) == (b : Int)) = true := by rw [hst]; exact beq_self_eq_true _
      rw [hE, hL, hx]
      clear HC HM HK HFl HMo hR hE hL hx hst
      generalize Sp.shared q (a : Int) (b : Int) = R at *
      obtain ⟨r, bb⟩ := R
      go_wp2
      rw [unhide HP]
      exact ⟨by rfl, unhide HF7⟩
    · obtain ⟨-, hL, hx⟩ := hR.none (by rw [hE]; decide)
      have e1 : ((a : Int) == (b : Int)) = false := beq_eq_false_iff_ne.2 hst
      have e2 : ((a : Int) != (b : Int)) = true := bne_iff_ne.2 hst
      rw [hE, hL, hx, hsh]
      clear HC HM HK HFl HMo hR hE hL hx hst hsh
      generalize (Sp.shared q (a : Int) (b : Int)).1 = r at *
      go_wp2
      rw [unhide HP]
      exact ⟨by rfl, unhide HF7⟩
    · obtain ⟨hF, hx0, hx1⟩ := unhide HFl _ _ _ hR hE
      have hMo := unhide HMo _ _ _ hR hE
      rw [hE, hsh]
      have hll := hF.len
      have hstN : a ≠ b := by omega
      have HFq := hide hF
      have HMx := hide hMo
      have HI7 := hide hI7
      have HV := hide (fun w' (hb : Below (w3.heap.size + 1) W4 w') (hI : Ints w' (.slice la L1.length lc) L1) => rvalue9_is q _ _ _ _ _ (a : Int) L1 x9 w' (unhide HBX w' hb).2.1 hI hll (by omega) (unhide HFq).src (by omega) (by omega))
      have Hst := hide hst
      clear HC HFl HMo hR hE hF hMo hll hI7 HF7 hst hsh
      generalize (Sp.shared q (a : Int) (b : Int)).1 = r at *
      obtain ⟨x0, x1, x2, x3⟩ := (unhide HBX _ hb7).1
      go_wp2_with fail
      go_at_call 18
      refine (unhide HM _ hstN hb7).mono ?_
      rintro e w8 ⟨G, z, xm, B, rfl, -, -, hl, hz, hz1, hz2, hz3⟩
      have hb8 := unhide HTR _ _ hb7 hl
      have HI8 := hide ((unhide HI7).below hl)
      clear hl x0 x1 x2 x3
      have hxe : xm = x9 := by
        have h1 := unhide HMx _ _ (hz.flowQ (unhide HEv) (unhide Hst))
        have h2 := hz.max ((unhide HFq).floF (unhide Hst)) (unhide HEv) (unhide HTb) haN hz1 hz2 hz3
        omega
      rw [hxe]
      clear hz hz1 hz2 hz3 hxe HMx HM hb7 HI7
      obtain ⟨x0, x1, x2, x3⟩ := (unhide HBX _ hb8).1
      go_wp2_with fail
      go_at_call 19
      refine (unhide HK _ L1 x9 _ (unhide Hst) (unhide HI8) (unhide HFq) hb8).mono ?_
      rintro e w9 ⟨rfl, hl⟩
      have hb9 := unhide HTR _ _ hb8 hl
      have HI9 := hide ((unhide HI8).below hl)
      clear hl x0 x1 x2 x3
      clear HK HI8 hb8
      obtain ⟨x0, x1, x2, x3⟩ := (unhide HBX _ hb9).1
      go_wp2_with fail
      go_at_call 20
      refine (unhide HV _ hb9 (unhide HI9)).mono ?_
      rintro e w10 ⟨rfl, hl⟩
      have hb10 := unhide HTR _ _ hb9 hl
      clear hl x0 x1 x2 x3
      have HFin := hide (unhide HBX _ hb10).2.2.1
      have e5 : (x9 == x9) = true := beq_self_eq_true _
      clear HV HI9 hb9 hx0 hx1
      go_wp2
      rw [unhide HP]
      exact ⟨by rfl, unhide HFin⟩
end Go.Proofs.Ytoegjnolccabjaa


