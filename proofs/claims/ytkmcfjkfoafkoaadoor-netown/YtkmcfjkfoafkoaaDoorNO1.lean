/- The walk of the law NetOwn. -/
import Derived.Test.YtkmcfjkfoafkoaaDoorE6
namespace Go.Proofs.YtkmcfjkfoafkoaaDoor
open Go Go.RowKit

theorem row_k3 : Sp.row [49, 32, 50, 32, 51] = some [1, 2, 3] := by kernel_rfl
theorem own_far {w : World} {B g n c g' j : Nat} {u : Value} {l : List Int} (h : OwnI w B (.slice (some ⟨g, 0, none⟩) n c) l) (hne : g ≠ g') : OwnI (w.setCell ⟨g', j, none⟩ u) B (.slice (some ⟨g, 0, none⟩) n c) l := by
  obtain ⟨h1, h2 | ⟨g2, cap, cur, e, hg, hh, r⟩⟩ := h
  · exact ⟨h1, .inl h2⟩
  · refine ⟨h1, .inr ⟨g2, cap, cur, e, hg, ?_, r⟩⟩
    injection e with e
    injection e with e
    injection e with e
    subst e
    rw [heap_setCell_other _ _ _ _ (by exact hne)]
    exact hh
set_option maxRecDepth 100000 in
set_option maxHeartbeats 1000000 in
theorem netOwn_any (size : Int) (ns : List Int) (x : Value) (w : World) (hx : Ints w x ns) (hi64 : ∀ y ∈ ns, -9223372036854775808 ≤ y ∧ y ≤ 9223372036854775807) (hr : Rt w) :
    Calls Tryd.prog 5 #[.int .i64 size, x] w fun e w' => e = .returned (.bool true) ∧ Below w.heap.size w w' := by
  have HK := hide (known_any w hr)
  have HMk := hide (fun w' (hb : Below w.heap.size w w') => make_any size ns x w' (hx.below hb) hx.len hi64)
  have Hr := hide hr; clear hr
  obtain ⟨ax, cx, rfl, -, -⟩ := hx.form
  clear hx hi64
  obtain ⟨hwh, hn8, ht40⟩ := Sp.make_whole size ns
  generalize Sp.make size ns = q at *
  have hsh := Sp.text_short q hwh hn8 ht40
  obtain ⟨hp1, -⟩ := Sp.text_back q hwh hsh
  have Hp1 := hide hp1
  have Hlen := hide hsh
  have HWh := hide hwh
  have hn0 := hwh.lists.n0
  have Hnl := hide hwh.lists.nl
  have Hcl := hide hwh.lists.cl
  clear hp1 hsh hwh
  go_enter Tryd.func5, Tryd.ntmps5
  go_wp2_with fail
  refine (unhide HK).mono ?_
  rintro e w1 ⟨rfl, hb1⟩
  clear HK
  go_wp2_with fail
  refine (unhide HMk _ hb1).mono ?_
  rintro e w2 ⟨u, tu, nu, cu, rfl, hU, hb2⟩
  have hb2' : Below w.heap.size w w2 := hb1.trans (hb2.mono hb1.size)
  obtain ⟨rfl, u1, u2, u3, -, -, -⟩ := hU
  have HU2 := hide (NetI.mk rfl u1.ints u2.ints u3.ints : NetI w2 (.agg #[.int .i64 q.n, tu, nu, cu]) q tu nu cu)
  obtain ⟨ta, tc, rfl, -, -⟩ := u1.ints.form
  obtain ⟨na, nc, rfl, -, -⟩ := u2.ints.form
  obtain ⟨ca, cc, rfl, -, -⟩ := u3.ints.form
  clear u1 u2 u3 hb1 hb2
  go_wp2_with fail
  refine (unhide HMk _ hb2').mono ?_
  rintro e w3 ⟨v, tv, nv, cv, rfl, hV, hb3⟩
  have hb3' : Below w.heap.size w w3 := hb2'.trans (hb3.mono hb2'.size)
  obtain ⟨rfl, u1, u2, u3, -, -, -⟩ := hV
  have HV3 := hide (NetI.mk rfl u1.ints u2.ints u3.ints : NetI w3 (.agg #[.int .i64 q.n, tv, nv, cv]) q tv nv cv)
  have HU3 := hide ((unhide HU2).below hb3)
  obtain ⟨ta', tc', rfl, -, -⟩ := u1.ints.form
  obtain ⟨na', nc', rfl, -, -⟩ := u2.ints.form
  obtain ⟨ca', cc', rfl, -, -⟩ := u3.ints.form
  clear u1 u2 u3 hb3 hb2' HMk HU2
  have HBX := hide (two_boxes w3 · q.n q.n (.slice ta q.tail.length tc) (.slice na q.next.length nc) (.slice ca q.cap.length cc) (.slice ta' q.tail.length tc') (.slice na' q.next.length nc') (.slice ca' q.cap.length cc'))
  obtain ⟨W0, hW0⟩ : ∃ W0, W0 = (w3.alloc (.cells #[.int .i64 q.n, .slice ta q.tail.length tc, .slice na q.next.length nc, .slice ca q.cap.length cc] 34)).alloc (.cells #[.int .i64 q.n, .slice ta' q.tail.length tc', .slice na' q.next.length nc', .slice ca' q.cap.length cc'] 34) := ⟨_, rfl⟩
  rw [← hW0] at HBX
  have hbX : Below w3.heap.size w3 W0 := by rw [hW0]; exact ((Below.refl _ _).alloc (Nat.le_refl _) _).alloc (by simp) _
  have hszX : W0.heap.size = w3.heap.size + 2 := by rw [hW0]; simp
  have HW : Hid (∀ w', Below (w3.heap.size + 2) W0 w' → Below w3.heap.size w3 w' ∧ Below w.heap.size w w' ∧ w3.heap.size + 2 ≤ w'.heap.size) := hide fun w' hb => by
    have h1 := hbX.trans (hb.mono (by omega))
    have := hb.size
    exact ⟨h1, hb3'.trans (h1.mono hb3'.size), by omega⟩
  have h00 : Below (w3.heap.size + 2) W0 W0 := Below.refl _ _
  have HTx := hide (text_any q _ _ _ _ W0 ((unhide HU3).below (unhide HW _ h00).1) (unhide HWh).lists (unhide HWh).next ((unhide Hr).below (unhide HW _ h00).2.1 (Nat.le_refl _)))
  clear hbX hszX hb3' h00
  subst hW0
  go_wp2_with fail
  refine (unhide HTx).mono ?_
  rintro e w4 ⟨s, rfl, hs, hb4⟩
  clear HTx
  have hb4' : Below (w3.heap.size + 2) ((w3.alloc (.cells #[.int .i64 q.n, .slice ta q.tail.length tc, .slice na q.next.length nc, .slice ca q.cap.length cc] 34)).alloc (.cells #[.int .i64 q.n, .slice ta' q.tail.length tc', .slice na' q.next.length nc', .slice ca' q.cap.length cc'] 34)) w4 := hb4.mono (by simp)
  clear hb4
  generalize (w3.alloc (.cells #[.int .i64 q.n, .slice ta q.tail.length tc, .slice na q.next.length nc, .slice ca q.cap.length cc] 34)).alloc (.cells #[.int .i64 q.n, .slice ta' q.tail.length tc', .slice na' q.next.length nc', .slice ca' q.cap.length cc'] 34) = W0 at *
  have hsz : s.size ≤ 8000 := by rw [Lib.size_eq, unhide hs]; exact unhide Hlen
  have HPs : Hid (∀ w', Below (w3.heap.size + 2) W0 w' → Calls Tryd.prog 17 #[.string s] w' (Out w' (some q, 0, 0))) := hide fun w' hb => by
    have h := parse_any s w' (by unfold maxLen; omega) ((unhide Hr).below (unhide HW _ hb).2.1 (Nat.le_refl _))
    rw [unhide hs, unhide Hp1] at h
    exact h
  clear hs Hp1 Hlen
  have HP1 := hide (unhide HPs _ hb4')
  go_wp2_with fail
  refine (unhide HP1).mono ?_
  intro e w5 hO
  clear HP1
  obtain ⟨xa, tva, nva, cva, rfl, hNa, hb5⟩ := hO
  have hb5' := hb4'.trans (hb5.mono (unhide HW _ hb4').2.2)
  simp only [Option.getD_some] at hNa
  obtain ⟨rfl, a1, a2, a3, s12, s13, s23⟩ := hNa
  obtain ⟨ta5, tc5, rfl, -, -⟩ := a1.ints.form
  obtain ⟨na5, nc5, rfl, -, -⟩ := a2.ints.form
  obtain ⟨ca5, cc5, rfl, -, -⟩ := a3.ints.form
  have hz4 := (unhide HW _ hb4').2.2
  have hz5 := hb5.size
  obtain ⟨W6, hW6⟩ : ∃ W6, W6 = w5.alloc (.cells #[.int .i64 q.n, .slice ta5 q.tail.length tc5, .slice na5 q.next.length nc5, .slice ca5 q.cap.length cc5] 34) := ⟨_, rfl⟩
  have hb6 : Below w4.heap.size w4 W6 := by rw [hW6]; exact hb5.alloc hz5 _
  have hbox6 : W6.heap[w5.heap.size]? = some (.cells #[.int .i64 q.n, .slice ta5 q.tail.length tc5, .slice na5 q.next.length nc5, .slice ca5 q.cap.length cc5] 34 (0, 0)) := by rw [hW6]; exact heap_alloc_new _ _
  have a1' : OwnI W6 w4.heap.size (.slice ta5 q.tail.length tc5) q.tail := by rw [hW6]; exact World.ownsRow.alloc a1 _
  have a2' : OwnI W6 w4.heap.size (.slice na5 q.next.length nc5) q.next := by rw [hW6]; exact World.ownsRow.alloc a2 _
  have a3' : OwnI W6 w4.heap.size (.slice ca5 q.cap.length cc5) q.cap := by rw [hW6]; exact World.ownsRow.alloc a3 _
  have hlt1 : ∀ k, (Value.slice ta5 q.tail.length tc5).ownBlock = some k → k < w5.heap.size := fun k hk => (a1.lt k hk).2
  have hlt2 : ∀ k, (Value.slice na5 q.next.length nc5).ownBlock = some k → k < w5.heap.size := fun k hk => (a2.lt k hk).2
  have hlt3 : ∀ k, (Value.slice ca5 q.cap.length cc5).ownBlock = some k → k < w5.heap.size := fun k hk => (a3.lt k hk).2
  have HL := hide (And.intro hlt1 (And.intro hlt2 hlt3))
  have HSp := hide (And.intro s12 (And.intro s13 s23))
  have HA6 := hide (And.intro hb6 (And.intro hbox6 (And.intro a1' (And.intro a2' a3'))))
  clear a1 a2 a3 a1' a2' a3' hlt1 hlt2 hlt3 s12 s13 s23 hbox6 hb6 hb5 hb5'
  have H45 := hide (And.intro hz4 hz5)
  clear hz4 hz5
  subst hW6
  go_wp2
  go_loopw [11] (fun iv wr => ∃ (i : Nat) (l1 l2 l3 : List Int), i ≤ q.tail.length ∧ iv = .int .i64 (i : Int) ∧ l1.length = q.tail.length ∧ l2.length = q.next.length ∧ l3.length = q.cap.length ∧ Hid (Below w4.heap.size w4 wr ∧ wr.heap[w5.heap.size]? = some (.cells #[.int .i64 q.n, .slice ta5 q.tail.length tc5, .slice na5 q.next.length nc5, .slice ca5 q.cap.length cc5] 34 (0, 0)) ∧ OwnI wr w4.heap.size (.slice ta5 q.tail.length tc5) l1 ∧ OwnI wr w4.heap.size (.slice na5 q.next.length nc5) l2 ∧ OwnI wr w4.heap.size (.slice ca5 q.cap.length cc5) l3)) (fun iv _ => q.tail.length - (intOf iv).toNat)
  case atStart => exact ⟨0, q.tail, q.next, q.cap, by omega, rfl, rfl, rfl, rfl, HA6⟩
  case round =>
    clear HA6
    obtain ⟨i, l1, l2, l3, hi, rfl, e1, e2, e3, hA⟩ := hrel
    have E1 := hide e1
    have E2 := hide e2
    have E3 := hide e3
    clear e1 e2 e3
    obtain ⟨x0, x1, x2, x3, z0, z1, z2, z3⟩ := obj_cells (unhide hA).2.1
    by_cases hlt : i < q.tail.length
    · have hltN : (i : Int) < q.next.length := by rw [unhide Hnl]; omega
      have hltC : (i : Int) < q.cap.length := by rw [unhide Hcl]; omega
      have hltT : (i : Int) < q.tail.length := by omega
      obtain ⟨gt, ct, f1, b1, lt1, o1⟩ := turn_row (unhide hA).2.2.1 (unhide E1) (by omega)
      obtain ⟨gn, cn, f2, b2, lt2, o2⟩ := turn_row (unhide hA).2.2.2.1 (unhide E2) (by omega)
      obtain ⟨gc, cg, f3, b3, lt3, o3⟩ := turn_row (unhide hA).2.2.2.2 (unhide E3) (by omega)
      have t1 := (unhide HL).1 gt o1
      have t2 := (unhide HL).2.1 gn o2
      have t3 := (unhide HL).2.2 gc o3
      have d12 : gt ≠ gn := by
        rcases (unhide HSp).1 with h | h
        · rw [o1] at h; cases h
        · rw [o1, o2] at h; exact fun e => h (by rw [e])
      have d13 : gt ≠ gc := by
        rcases (unhide HSp).2.1 with h | h
        · rw [o1] at h; cases h
        · rw [o1, o3] at h; exact fun e => h (by rw [e])
      have d23 : gn ≠ gc := by
        rcases (unhide HSp).2.2 with h | h
        · rw [o2] at h; cases h
        · rw [o2, o3] at h; exact fun e => h (by rw [e])
      injection f1 with f1 _ f1c
      injection f2 with f2 _ f2c
      injection f3 with f3 _ f3c
      subst f1 f1c f2 f2c f3 f3c
      have r1 := own_cell (unhide hA).2.2.1 i (by have := unhide E1; omega)
      have r2 := own_cell (unhide hA).2.2.2.1 i (by have := unhide E2; omega)
      have r3 := own_cell (unhide hA).2.2.2.2 i (by have := unhide E3; omega)
      have y1 := own_frozen (unhide hA).2.2.1 i
      have y2 := own_frozen (unhide hA).2.2.2.1 i
      have y3 := own_frozen (unhide hA).2.2.2.2 i
      generalize l1[i]'_ = m1 at *
      generalize l2[i]'_ = m2 at *
      generalize l3[i]'_ = m3 at *
      have D12 := hide d12
      have D13 := hide d13
      have D23 := hide d23
      have hbb := unhide H45
      have n1 : w5.heap.size ≠ gt := by omega
      have n2 : w5.heap.size ≠ gn := by omega
      have n3 : w5.heap.size ≠ gc := by omega
      have d21 := d12.symm
      have d31 := d13.symm
      have d32 := d23.symm
      clear o1 o2 o3
      go_wp2
      go_region
      all_goals
        go_wp2
        go_roundw
        case rel =>
          have h := unhide hA
          refine ⟨i + 1, l1.set i (-1), l2.set i (-1), l3.set i (-1), by omega, by go_num, by simp [unhide E1], by simp [unhide E2], by simp [unhide E3], hide ⟨?_, ?_, ?_, ?_, ?_⟩⟩
          · exact (((h.1.setCell (by exact b1) _).setCell (by exact b2) _).setCell (by exact b3) _).drew
          · show (((wr.setCell ⟨gt, i, none⟩ _).setCell ⟨gn, i, none⟩ _).setCell ⟨gc, i, none⟩ _).heap[w5.heap.size]? = _
            rw [heap_setCell_other _ _ _ _ n3, heap_setCell_other _ _ _ _ n2, heap_setCell_other _ _ _ _ n1]
            exact h.2.1
          · exact own_drew (own_far (own_far (own_setCell h.2.2.1 i (-1)) d12) d13)
          · exact own_drew (own_far (own_setCell (own_far h.2.2.2.1 d21) i (-1)) d23)
          · exact own_drew (own_setCell (own_far (own_far h.2.2.2.2 d31) d32) i (-1))
        case measure => simp [intOf]; omega
    · have hbW : Below (w3.heap.size + 2) W0 wr := hb4'.trans ((unhide hA).1.mono (unhide H45).1)
      have HP2 := hide (unhide HPs _ hbW)
      go_wp2_with fail
      refine (unhide HP2).mono ?_
      intro e w7 hO
      clear HP2 x0 x1 x2 x3 z0 z1 z2 z3
      obtain ⟨tb, tbc, nb, nbc, cb, cbc, rfl, o1, o2, o3, hb7⟩ := hO.open rfl
      clear hO
      have HIb := hide (NetI.mk rfl o1.ints o2.ints o3.ints : NetI w7 (.agg #[.int .i64 q.n, .slice tb q.tail.length tbc, .slice nb q.next.length nbc, .slice cb q.cap.length cbc]) q _ _ _)
      have hb7' : Below (w3.heap.size + 2) W0 w7 := hbW.trans (hb7.mono (unhide HW _ hbW).2.2)
      have HBb := hide (box_new w7 q.n (.slice tb q.tail.length tbc) (.slice nb q.next.length nbc) (.slice cb q.cap.length cbc))
      obtain ⟨W8, hW8⟩ : ∃ W8, W8 = w7.alloc (.cells #[.int .i64 q.n, .slice tb q.tail.length tbc, .slice nb q.next.length nbc, .slice cb q.cap.length cbc] 34) := ⟨_, rfl⟩
      rw [← hW8] at HBb
      have hs8 : W8.heap.size = w7.heap.size + 1 := by rw [hW8]; simp
      have h78 : Below w7.heap.size w7 W8 := by rw [hW8]; exact (Below.refl _ _).alloc (Nat.le_refl _) _
      have HX : Hid (∀ w', Below W8.heap.size W8 w' → Below (w3.heap.size + 2) W0 w' ∧ Below w7.heap.size w7 w' ∧ Below (w7.heap.size + 1) W8 w') := hide fun w' hb => by
        have h1 := h78.trans (hb.mono (by omega))
        exact ⟨hb7'.trans (h1.mono (unhide HW _ hb7').2.2), h1, hb.mono (by omega)⟩
      have HRw : Hid (∀ w', Below W8.heap.size W8 w' → Calls Tryd.prog 9 #[.string ⟨#[49, 32, 50, 32, 51]⟩] w' fun e w'' => ∃ v, e = .returned (.tuple #[v, .bool true]) ∧ OwnI w'' w'.heap.size v [1, 2, 3] ∧ Below w'.heap.size w' w'') := hide fun w' hb => by
        have h := row_any ⟨#[49, 32, 50, 32, 51]⟩ w' (by decide) ((unhide Hr).below (unhide HW _ (unhide HX _ hb).1).2.1 (Nat.le_refl _))
        rw [show (⟨#[49, 32, 50, 32, 51]⟩ : ByteArray).data.toList = [49, 32, 50, 32, 51] from rfl, row_k3] at h
        exact h
      have HR1 := hide (unhide HRw _ (Below.refl _ W8))
      clear hA o1 o2 o3 hb7 hbW hb7' hs8 h78 HPs
      subst hW8
      go_wp2_with fail
      refine (unhide HR1).mono ?_
      rintro e w9 ⟨rv, rfl, hown9, hb9⟩
      clear HR1
      generalize w7.alloc (.cells #[.int .i64 q.n, .slice tb q.tail.length tbc, .slice nb q.next.length nbc, .slice cb q.cap.length cbc] 34) = W8 at *
      obtain ⟨gr, cr, hrv, hbr, hlr, -⟩ := turn_row hown9 rfl (by decide)
      subst hrv
      have HO9 := hide hown9
      clear hown9
      go_wp2
      go_loopw [17] (fun iv wr => ∃ (i : Nat) (l : List Int), i ≤ 3 ∧ iv = .int .i64 (i : Int) ∧ Hid (l.length = 3) ∧ Hid (OwnI wr W8.heap.size (.slice (some ⟨gr, 0, none⟩) 3 cr) l ∧ Below W8.heap.size W8 wr)) (fun iv _ => 3 - (intOf iv).toNat)
      case atStart => exact ⟨0, [1, 2, 3], by omega, rfl, hide rfl, hide ⟨unhide HO9, hb9⟩⟩
      case round =>
        clear HO9 hb9
        obtain ⟨i, l, hi, rfl, hl, hO⟩ := hrel
        by_cases hlt3 : i < 3
        · have r1 := own_cell (unhide hO).1 i (by rw [unhide hl]; exact hlt3)
          have y1 := own_frozen (unhide hO).1 i
          have hlt3' : (i : Int) < 3 := by omega
          generalize l[i]'_ = m1 at *
          go_wp2
          go_roundw
          case rel => exact ⟨i + 1, l.set i 9, by omega, by go_num, hide (by simp [unhide hl]), hide ⟨own_setCell (unhide hO).1 i 9, (unhide hO).2.setCell (by exact hbr) _⟩⟩
          case measure => simp [intOf]; omega
        · have hbw := (unhide hO).2
          have HR2 := hide (unhide HRw _ hbw)
          clear hO hl
          go_wp2_with fail
          refine (unhide HR2).mono ?_
          rintro e w11 ⟨qv, rfl, hown11, hb11⟩
          clear HR2
          have hbY : Below W8.heap.size W8 w11 := hbw.trans (hb11.mono hbw.size)
          obtain ⟨gq, cq, hqv, -, hlq, -⟩ := turn_row hown11 rfl (by decide)
          subst hqv
          have HO11 := hide hown11
          clear hown11 hb11 hbw
          obtain ⟨a0, a1, a2, a3, b0, b1, b2, b3⟩ := unhide HBX _ (unhide HX _ hbY).1
          obtain ⟨k0, k1, k2, k3, -⟩ := unhide HBb _ (unhide HX _ hbY).2.2
          have hbV := unhide HW _ (unhide HX _ hbY).1
          have HS1 := hide (same_any q q _ _ _ _ _ _ _ _ w11 ((unhide HU3).below hbV.1) ((unhide HV3).below hbV.1) (by have := unhide Hnl; have := unhide Hcl; omega) (by have := unhide Hnl; have := unhide Hcl; omega))
          rw [netEq_refl] at HS1
          go_wp2_with fail
          refine (unhide HS1).mono ?_
          rintro e w12 ⟨rfl, hb12⟩
          clear HS1 a0 a1 a2 a3 b0 b1 b2 b3 k0 k1 k2 k3
          have hbZ : Below W8.heap.size W8 w12 := hbY.trans (hb12.mono hbY.size)
          obtain ⟨a0, a1, a2, a3, b0, b1, b2, b3⟩ := unhide HBX _ (unhide HX _ hbZ).1
          obtain ⟨k0, k1, k2, k3, -⟩ := unhide HBb _ (unhide HX _ hbZ).2.2
          have hbV2 := unhide HW _ (unhide HX _ hbZ).1
          have HS2 := hide (same_any q q _ _ _ _ _ _ _ _ w12 ((unhide HIb).below (unhide HX _ hbZ).2.1) ((unhide HV3).below hbV2.1) (by have := unhide Hnl; have := unhide Hcl; omega) (by have := unhide Hnl; have := unhide Hcl; omega))
          rw [netEq_refl] at HS2
          have HO12 := hide (own_below (unhide HO11) hb12)
          clear HO11 hb12
          go_wp2_with fail
          refine (unhide HS2).mono ?_
          rintro e w13 ⟨rfl, hb13⟩
          clear HS2 a0 a1 a2 a3 b0 b1 b2 b3 k0 k1 k2 k3
          have hbE : Below W8.heap.size W8 w13 := hbZ.trans (hb13.mono hbZ.size)
          have g0 : w13.cell? ⟨gq, 0, none⟩ = some (.int .i64 1) := own_cell (own_below (unhide HO12) hb13) 0 (by simp)
          have hfin := (unhide HW _ (unhide HX _ hbE).1).2.1
          clear HO12 hb13 hbV hbV2
          go_wp2
          go_ret
          exact ⟨rfl, hfin⟩
end Go.Proofs.YtkmcfjkfoafkoaaDoor
