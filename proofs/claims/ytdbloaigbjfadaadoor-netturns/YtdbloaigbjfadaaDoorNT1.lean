/- The walk of the law NetTurns. -/
import Derived.Test.YtdbloaigbjfadaaDoorT10
import Derived.Test.YtdbloaigbjfadaaDoorT9
import Derived.Test.YtdbloaigbjfadaaDoorE6
namespace Go.Proofs.YtdbloaigbjfadaaDoor
open Go Go.RowKit

theorem app_bytes (a b : ByteArray) : (a ++ b).data.toList = a.data.toList ++ b.data.toList := by rw [ByteArray.data_append, Array.toList_append]
theorem add_run (a b : ByteArray) (h : a.size + b.size ≤ 1000000) : ∀ x : World, (Op.stringOp .add a b).run Tryd.prog x = .ok (.string (a ++ b)) x := fun x => run_string_add_sum x _ _ (by omega)
set_option maxRecDepth 100000 in
set_option maxHeartbeats 1000000 in
theorem netTurns_any (size : Int) (ns bs : List Int) (x y : Value) (w : World) (hx : Ints w x ns) (hi64 : ∀ y ∈ ns, -9223372036854775808 ≤ y ∧ y ≤ 9223372036854775807) (hy : Ints w y bs) (hr : Rt w) :
    Calls Tryd.prog 4 #[.int .i64 size, x, y] w fun e w' => e = .returned (.bool true) ∧ Below w.heap.size w w' := by
  have HK := hide (known_any w hr)
  have HMk := hide (fun w' (hb : Below w.heap.size w w') => make_any size ns x w' (hx.below hb) hx.len hi64)
  have Hr := hide hr; clear hr
  obtain ⟨ax, cx, rfl, -, -⟩ := hx.form
  clear hx hi64
  obtain ⟨ay, cy, rfl, hcy, hmy, HY⟩ := hy.all
  have hbl := hy.len
  clear hy
  obtain ⟨hwh, hn8, ht40⟩ := Sp.make_whole size ns
  generalize Sp.make size ns = q at *
  have Hp := hide (Sp.turns_read' bs q hwh hn8 ht40)
  have HWh := hide hwh
  have hn0 := hwh.lists.n0
  have hnl := hwh.lists.nl
  have hcl := hwh.lists.cl
  have Hev := hide hwh.lists.ev
  clear hwh
  go_enter Tryd.func4, Tryd.ntmps4
  go_wp2_with fail
  refine (unhide HK).mono ?_
  rintro e w1 ⟨rfl, hb1⟩
  clear HK
  go_wp2_with fail
  refine (unhide HMk _ hb1).mono ?_
  rintro e w2 ⟨v2, tv, nv, cv, rfl, hV, hb2⟩
  clear HMk
  have hb2' : Below w.heap.size w w2 := hb1.trans (hb2.mono hb1.size)
  obtain ⟨rfl, v1, v2, v3, -, -, -⟩ := hV
  obtain ⟨ta, tc, rfl, -, -, HT⟩ := v1.ints.all
  obtain ⟨na, nc, rfl, -, -⟩ := v2.ints.form
  obtain ⟨ca, cc, rfl, -, -, HCp⟩ := v3.ints.all
  have HI := hide (NetI.mk rfl v1.ints v2.ints v3.ints : NetI w2 (.agg #[.int .i64 q.n, .slice ta q.tail.length tc, .slice na q.next.length nc, .slice ca q.cap.length cc]) q _ _ _)
  clear v1 v2 v3 hb1 hb2
  have hz2 := hb2'.size
  have HBX := hide (box_new w2 q.n (.slice ta q.tail.length tc) (.slice na q.next.length nc) (.slice ca q.cap.length cc))
  obtain ⟨bx, hbx⟩ : ∃ bx : Obj, bx = .cells #[.int .i64 q.n, .slice ta q.tail.length tc, .slice na q.next.length nc, .slice ca q.cap.length cc] 34 := ⟨_, rfl⟩
  rw [← hbx] at HBX
  have HW : Hid (∀ w', Below (w2.heap.size + 1) (w2.alloc bx) w' → Below w2.heap.size w2 w' ∧ Below w.heap.size w w') := hide fun w' hb => by
    have h1 := ((Below.refl _ w2).alloc (Nat.le_refl _) bx).trans (hb.mono (by omega))
    exact ⟨h1, hb2'.trans (h1.mono hz2)⟩
  have HCE : Hid (0 < q.tail.length → ∃ b o b2 o2, ta = some ⟨b, o, none⟩ ∧ ca = some ⟨b2, o2, none⟩ ∧ ∀ w' : World, Below w2.heap.size w2 w' → ∀ k, k < q.tail.length → w'.cell? ⟨b, o + k, none⟩ = some (.int .i64 (q.tail.getD k 0)) ∧ w'.cell? ⟨b2, o2 + k, none⟩ = some (.int .i64 (q.cap.getD k 0))) := by
    refine hide fun h0 => ?_
    obtain ⟨b, o, e1, _, -⟩ := unhide HT 0 h0
    obtain ⟨b2, o2, e2, _, -⟩ := unhide HCp 0 (by omega)
    refine ⟨b, o, b2, o2, e1, e2, fun w' hb k hk => ⟨?_, ?_⟩⟩
    · obtain ⟨b', o', e1', _, h⟩ := unhide HT k hk
      rw [e1] at e1'; injection e1' with e1'; injection e1' with e e'; subst e e'
      rw [h w' hb, Sp.getD_eq _ _ hk]
    · obtain ⟨b', o', e1', _, h⟩ := unhide HCp k (by omega)
      rw [e2] at e1'; injection e1' with e1'; injection e1' with e e'; subst e e'
      rw [h w' hb, Sp.getD_eq _ _ (by omega)]
  have HD1 : Hid (∀ w', Below (w2.heap.size + 1) (w2.alloc bx) w' → Calls Tryd.prog 18 #[.int .i64 q.n] w' fun e w'' => ∃ s : ByteArray, e = .returned (.string s) ∧ Hid (s.data.toList = Lib.itoa q.n) ∧ s.size ≤ 21 ∧ Below w'.heap.size w' w'') := hide fun w' _ => Digits_any q.n w' (by omega) (by omega)
  have Hnl := hide hnl
  have Hcl := hide hcl
  rw [hcl]
  clear HT HCp hb2' hz2 hnl hcl
  have hstart := Below.refl (w2.heap.size + 1) (w2.alloc bx)
  obtain ⟨x0, x1, x2, x3, hs1⟩ := unhide HBX _ hstart
  rw [unhide Hcl] at x3 HBX HI
  have Hbx := hide hbx
  have hbx' : bx = .cells #[.int .i64 q.n, .slice ta q.tail.length tc, .slice na q.next.length nc, .slice ca q.tail.length cc] 34 := by rw [hbx, unhide Hcl]
  clear hbx
  subst hbx'
  clear Hbx
  have HDD := hide (unhide HD1 _ hstart)
  clear HD1
  go_wp2_with fail
  refine (unhide HDD).mono ?_
  rintro e w3 ⟨d0, rfl, hd0, hd0z, hb3⟩
  clear HDD x0 x1 x2 x3
  have hb3' : Below (w2.heap.size + 1) (w2.alloc (.cells #[.int .i64 q.n, .slice ta q.tail.length tc, .slice na q.next.length nc, .slice ca q.tail.length cc] 34)) w3 := hstart.trans (hb3.mono (by simp))
  clear hb3 hstart
  generalize w2.alloc (.cells #[.int .i64 q.n, .slice ta q.tail.length tc, .slice na q.next.length nc, .slice ca q.tail.length cc] 34) = W1 at *
  have HS0 : Hid ((⟨#[110, 101, 116, 32]⟩ ++ d0 ++ ⟨#[10]⟩ : ByteArray).data.toList = Sp.preE q 0) := hide (by
    rw [app_bytes, app_bytes, unhide hd0]
    simp [Sp.preE, Sp.ended, Sp.headLine, Sp.wNet, Sp.rowText])
  have hz0 : (⟨#[110, 101, 116, 32]⟩ ++ d0 ++ ⟨#[10]⟩ : ByteArray).size ≤ 40 := by rw [ByteArray.size_append, ByteArray.size_append]; show 4 + d0.size + 1 ≤ 40; omega
  go_wp2
  clear hd0 hd0z
  generalize (⟨#[110, 101, 116, 32]⟩ ++ d0 ++ ⟨#[10]⟩ : ByteArray) = s0 at *
  go_loopw [8, 9] (fun sv dv wr => ∃ (e k : Nat) (s : ByteArray), k = 2 * e ∧ k ≤ q.tail.length ∧ sv = .string s ∧ dv = .int .i64 (k : Int) ∧ Hid (s.data.toList = Sp.preE q e) ∧ s.size ≤ 40 + 131 * e ∧ Below (w2.heap.size + 1) W1 wr) (fun _ dv _ => q.tail.length - (intOf dv).toNat)
  case atStart => exact ⟨0, 0, s0, rfl, by omega, rfl, rfl, HS0, by omega, hb3'⟩
  case round =>
    clear HS0 hz0 hb3'
    obtain ⟨e, k, s, hk, hkl, rfl, rfl, hs, hsz, hb⟩ := hrel
    obtain ⟨x0, x1, x2, x3, hszr⟩ := unhide HBX _ hb
    by_cases hlt : k < q.tail.length
    · have hlt1 : k + 1 < q.tail.length := by have := unhide Hev; omega
      have hlt' : (k : Int) < q.tail.length := by omega
      have h0' : (0 : Int) ≤ (k : Int) := by omega
      obtain ⟨j, hj⟩ : ∃ j, j = k + 1 := ⟨_, rfl⟩
      have hj' : (k : Int) + 1 = (j : Int) := by omega
      have hjw : IntKind.i64.wrap ((k : Int) + 1) = (j : Int) := by rw [IntKind.wrap_i64]; omega
      have hjw2 : IntKind.i64.wrap (j : Int) = (j : Int) := by rw [IntKind.wrap_i64]; omega
      have hlt1' : (j : Int) < q.tail.length := by omega
      have h0'' : (0 : Int) ≤ (j : Int) := by omega
      obtain ⟨b, o, b2, o2, rfl, rfl, hce⟩ := unhide HCE (by omega)
      have HKp : Hid (∀ w', Below (w2.heap.size + 1) W1 w' → w'.cell? ⟨w2.heap.size, 1, none⟩ = some (.slice (some ⟨b, o, none⟩) q.tail.length tc) ∧ w'.cell? ⟨w2.heap.size, 3, none⟩ = some (.slice (some ⟨b2, o2, none⟩) q.tail.length cc) ∧ w'.cell? ⟨b, o + k, none⟩ = some (.int .i64 (q.tail.getD k 0)) ∧ w'.cell? ⟨b, o + j, none⟩ = some (.int .i64 (q.tail.getD j 0)) ∧ w'.cell? ⟨b2, o2 + k, none⟩ = some (.int .i64 (q.cap.getD k 0)) ∧ w'.cell? ⟨b2, o2 + j, none⟩ = some (.int .i64 (q.cap.getD j 0))) := by
        refine hide fun w' hb' => ?_
        obtain ⟨-, d1, -, d3, -⟩ := unhide HBX _ hb'
        obtain ⟨g1, g2⟩ := hce w' (unhide HW _ hb').1 k hlt
        obtain ⟨g3, g4⟩ := hce w' (unhide HW _ hb').1 j (by omega)
        exact ⟨d1, d3, g1, g3, g2, g4⟩
      clear hce
      have HE : Hid (Sp.edgeLine q e = Sp.wEdge ++ 32 :: Sp.rowText [q.tail.getD k 0, q.tail.getD j 0, q.cap.getD k 0, q.cap.getD j 0]) := hide (by rw [hj, hk]; rfl)
      have HYb : Hid (∀ x ∈ [q.tail.getD k 0, q.tail.getD j 0, q.cap.getD k 0, q.cap.getD j 0], -9223372036854775808 ≤ x ∧ x ≤ 9223372036854775807) := by
        refine hide fun x hx => ?_
        have := Sp.edgeRow_bd q (unhide HWh).lists e (by omega) x (by rw [hj, hk] at hx; exact hx)
        omega
      have Hj := hide hj
      clear hj hlt1
      generalize q.tail.getD k 0 = y0 at *
      generalize q.tail.getD j 0 = y1 at *
      generalize q.cap.getD k 0 = y2 at *
      generalize q.cap.getD j 0 = y3 at *
      have HZ4 : Hid ((Sp.rowText [y0, y1, y2, y3]).length ≤ 88) := hide (Sp.rowText_len _ (unhide HYb))
      have hsz9 : s.size ≤ 8000 := by omega
      have Hhk := hide hk; clear hk
      have hqa := add_run s ⟨#[101, 100, 103, 101, 32]⟩ (by show s.size + 5 ≤ _; omega)
      have hqa2 : ¬ 9223372036854775807 < s.size + (⟨#[101, 100, 103, 101, 32]⟩ : ByteArray).size := by show ¬ _ < s.size + 5; omega
      clear x0 x2
      go_wp2
      go_region_held3 (fun w' => w'.cell? ⟨w2.heap.size, 1, none⟩ = some (.slice (some ⟨b, o, none⟩) q.tail.length tc) ∧ w'.cell? ⟨w2.heap.size, 3, none⟩ = some (.slice (some ⟨b2, o2, none⟩) q.tail.length cc) ∧ w'.cell? ⟨b, o + k, none⟩ = some (.int .i64 y0) ∧ w'.cell? ⟨b, o + j, none⟩ = some (.int .i64 y1) ∧ w'.cell? ⟨b2, o2 + k, none⟩ = some (.int .i64 y2) ∧ w'.cell? ⟨b2, o2 + j, none⟩ = some (.int .i64 y3))
        (first
          | exact unhide HKp _ hb.drew
          | exact unhide HKp _ (hb.alloc hszr _).drew
          | exact unhide HKp _ hbA)
        (first
          | (go_at_call 16
             refine (rRowText_any [y0, y1, y2, y3] _ _ (ints4_new wr y0 y1 y2 y3).drew (by simp) (unhide HYb)).mono ?_
             rintro e w4 ⟨s4, rfl, hs4, hb4⟩
             have hs4z : s4.size ≤ 88 := by rw [Lib.size_eq, unhide hs4]; exact unhide HZ4
             have hz5 : (s ++ ⟨#[101, 100, 103, 101, 32]⟩ : ByteArray).size = s.size + 5 := by rw [ByteArray.size_append]; rfl
             have hqb := add_run (s ++ ⟨#[101, 100, 103, 101, 32]⟩) s4 (by rw [hz5]; omega)
             have hz6 : (s ++ ⟨#[101, 100, 103, 101, 32]⟩ ++ s4 : ByteArray).size = s.size + 5 + s4.size := by rw [ByteArray.size_append, hz5]
             have hqc := add_run (s ++ ⟨#[101, 100, 103, 101, 32]⟩ ++ s4) ⟨#[10]⟩ (by rw [hz6]; show s.size + 5 + s4.size + 1 ≤ _; omega)
             have hqb2 : ¬ 9223372036854775807 < (s ++ ⟨#[101, 100, 103, 101, 32]⟩ : ByteArray).size + s4.size := by rw [hz5]; omega
             have hqc2 : ¬ 9223372036854775807 < (s ++ ⟨#[101, 100, 103, 101, 32]⟩ ++ s4 : ByteArray).size + (⟨#[10]⟩ : ByteArray).size := by rw [hz6]; show ¬ _ < s.size + 5 + s4.size + 1; omega
             have hbB : Below wr.heap.size wr w4 := (((Below.refl _ wr).alloc (Nat.le_refl _) _).drew).trans (hb4.mono (by simp))
             have hbA : Below (w2.heap.size + 1) W1 w4 := hb.trans (hbB.mono hszr)
             clear hz5 hz6))
      all_goals
        go_wp2
        go_roundw
        case rel =>
          refine ⟨e + 1, k + 2, _, by have := unhide Hhk; omega, by have := unhide Hev; have := unhide Hhk; omega, rfl, by go_num, hide ?_, ?_, hbA⟩
          · rw [app_bytes, app_bytes, app_bytes, unhide hs, unhide hs4, Sp.preE_succ, unhide HE]
            simp [Sp.wEdge]
          · rw [ByteArray.size_append, ByteArray.size_append, ByteArray.size_append]
            show s.size + 5 + s4.size + 1 ≤ _
            omega
        case measure => have := unhide Hev; have := unhide Hhk; simp [intOf]; omega
    · have he : e = q.tail.length / 2 := by omega
      have HS1 : Hid (s.data.toList = Sp.preT bs q 0) := hide (by rw [Sp.preT_zero, ← he]; exact unhide hs)
      have hs3 : s.size ≤ 3000 := by omega
      clear hs hsz he hk
      go_wp2
      clear x0 x1 x2 x3
      go_loopw [8, 10] (fun sv vv wr => ∃ (v : Nat) (s : ByteArray), (v : Int) ≤ q.n ∧ sv = .string s ∧ vv = .int .i64 (v : Int) ∧ Hid (s.data.toList = Sp.preT bs q v) ∧ s.size ≤ 3000 + 1000 * v ∧ Below (w2.heap.size + 1) W1 wr) (fun _ vv _ => (q.n - intOf vv).toNat)
      case atStart => exact ⟨0, s, by omega, rfl, rfl, HS1, by omega, hb⟩
      case round =>
        clear HS1 hs3 hb hszr
        obtain ⟨v, s, hvn, rfl, rfl, hs, hsz, hb⟩ := hrel
        obtain ⟨x0, x1, x2, x3, hszr⟩ := unhide HBX _ hb
        by_cases hvlt : (v : Int) < q.n
        · have hsb : s.size ≤ 90000 := by omega
          have HAb := hide (rabout_any q _ _ _ _ v wr ((unhide HI).below (unhide HW _ hb).1) (unhide HWh) hvlt)
          have hlen40 : (Sp.turnOf q v).length ≤ 40 := by
            have h := (Sp.turnOf_round q v _ (unhide HWh |>.round v hvlt).choose_spec).count
            have := (Sp.countOf_bd q.tail v).2
            omega
          have Hlb : Hid (∀ z ∈ Sp.turnOf q v, 0 ≤ z ∧ z < q.tail.length) := hide (Sp.turnOf_bd q (unhide HWh).lists (unhide HWh).next v).2
          have hKdef : Sp.rotK bs q v = if v < bs.length ∧ 0 < (Sp.turnOf q v).length then (bs.getD v 0 % ((Sp.turnOf q v).length : Int)).toNat else 0 := rfl
          have Hkl := hide (Sp.rotK_lt bs q v)
          have HTs : Hid (Sp.rotL (Sp.turnOf q v) (Sp.rotK bs q v) = Sp.tsOf bs q v) := hide rfl
          generalize Sp.turnOf q v = l at *
          generalize Sp.rotK bs q v = kk at *
          have HKd := hide hKdef
          clear hKdef
          go_wp2_with fail
          refine (unhide HAb).mono ?_
          rintro e W5 ⟨lv, rfl, hown5, hb5⟩
          clear HAb
          have hb5' := hb.trans (hb5.mono hszr)
          obtain ⟨la, lc, rfl, -, -, HL6⟩ := hown5.ints.all
          clear hown5 hb5 x0 x1 x2 x3
          by_cases c1 : v < bs.length
          · have c1' : (v : Int) < bs.length := by omega
            obtain ⟨yb, oy, rfl, -, hyc⟩ := unhide HY v c1
            have hYc := hyc _ (unhide HW _ hb5').2
            clear hyc
            by_cases c2 : 0 < l.length
            · have c2' : (0 : Int) < l.length := by omega
              have hkk : bs[v] % (l.length : Int) = (kk : Int) := by
                have h := unhide HKd
                rw [if_pos ⟨c1, c2⟩, Sp.getD_eq _ _ c1] at h
                have := Int.emod_nonneg bs[v] (show (l.length : Int) ≠ 0 by omega)
                omega
              generalize bs[v] = y at *
              have HWi := hide (within_any y (l.length : Int) W5 (by omega) (by omega))
              rw [hkk] at HWi
              clear hkk
              go_wp2_with fail
              refine (unhide HWi).mono ?_
              rintro e W5' ⟨rfl, hW5⟩
              clear HWi
              subst hW5
              go_wp2
              clear hYc
              go_loopw [8, 13] (fun sv iv wr => ∃ (i : Nat) (s' : ByteArray), i ≤ l.length ∧ sv = .string s' ∧ iv = .int .i64 (i : Int) ∧ Hid (s'.data.toList = Sp.preT bs q v ++ (Sp.wTurn ++ Sp.tlist ((Sp.rotL l kk).take i))) ∧ s'.size ≤ s.size + 4 + 22 * i ∧ Below W5'.heap.size W5' wr) (fun _ iv _ => l.length - (intOf iv).toNat)
              case atStart => exact ⟨0, s ++ ⟨#[116, 117, 114, 110]⟩, by omega, rfl, rfl, hide (by rw [app_bytes, unhide hs]; simp [Sp.tlist, Sp.wTurn]), by rw [ByteArray.size_append]; show s.size + 4 ≤ _; omega, Below.refl _ _⟩
              case round =>
                obtain ⟨i, s', hi, rfl, rfl, hs', hsz', hb6⟩ := hrel
                have hs'b : s'.size ≤ 100000 := by omega
                by_cases hil : i < l.length
                · have hkl := unhide Hkl (by omega)
                  have hmod : (i + kk) % l.length < l.length := Nat.mod_lt _ (by omega)
                  obtain ⟨b6, o6, rfl, -, hc6⟩ := unhide HL6 _ hmod
                  have g6 := hc6 _ hb6
                  have hget := Sp.rotL_get l kk hkl i hil (by rw [Sp.rotL_len]; exact hil) hmod
                  have HSn := hide (Sp.tlist_snoc (Sp.rotL l kk) i (by rw [Sp.rotL_len]; exact hil))
                  rw [hget] at HSn
                  have hzb := unhide Hlb _ (List.getElem_mem hmod)
                  have ht1 : ((i : Int) + (kk : Int)).tmod l.length = (((i + kk) % l.length : Nat) : Int) := by
                    rw [Int.tmod_eq_emod_of_nonneg (by omega)]; simp
                  have ht2 : ((i : Int) + (kk : Int)) % l.length = (((i + kk) % l.length : Nat) : Int) := by simp
                  have hmod' : (((i + kk) % l.length : Nat) : Int) < l.length := by omega
                  clear hc6 hget
                  generalize l[(i + kk) % l.length] = z at *
                  generalize (i + kk) % l.length = dm at *
                  have HDg := hide (Digits_any z wr (by omega) (by omega))
                  go_wp2_with fail
                  refine (unhide HDg).mono ?_
                  rintro e w7 ⟨dz, rfl, hdz, hdzz, hb7⟩
                  clear HDg
                  have hb7' := hb6.trans (hb7.mono hb6.size)
                  clear hb7 g6 ht1 ht2
                  go_wp2
                  go_roundw
                  case rel =>
                    refine ⟨i + 1, _, by omega, rfl, by go_num, hide ?_, ?_, hb7'⟩
                    · rw [app_bytes, app_bytes, unhide hs', unhide hdz, unhide HSn]
                      simp
                    · rw [ByteArray.size_append, ByteArray.size_append]
                      show s'.size + 1 + dz.size ≤ _
                      omega
                  case measure => simp [intOf]; omega
                · obtain rfl : i = l.length := by omega
                  have hbz := hb5'.trans (hb6.mono (unhide HBX _ hb5').2.2.2.2)
                  go_wp2
                  go_roundw
                  case rel =>
                    refine ⟨v + 1, _, by omega, rfl, by go_num, hide ?_, ?_, hbz⟩
                    · rw [app_bytes, unhide hs', Sp.preT_succ, Sp.turnLine_eq, ← unhide HTs, List.take_of_length_le (by rw [Sp.rotL_len]; omega)]
                      simp
                    · rw [ByteArray.size_append]
                      show s'.size + 1 ≤ _
                      omega
                  case measure => simp [intOf]; omega
            · have hkk : kk = 0 := by
                have h := unhide HKd
                rw [if_neg (by omega)] at h
                exact h
              subst hkk
              have c2' : ¬ (0 : Int) < l.length := by omega
              go_wp2
              clear hYc
              go_loopw [8, 13] (fun sv iv wr => ∃ (i : Nat) (s' : ByteArray), i ≤ l.length ∧ sv = .string s' ∧ iv = .int .i64 (i : Int) ∧ Hid (s'.data.toList = Sp.preT bs q v ++ (Sp.wTurn ++ Sp.tlist ((Sp.rotL l 0).take i))) ∧ s'.size ≤ s.size + 4 + 22 * i ∧ Below W5.heap.size W5 wr) (fun _ iv _ => l.length - (intOf iv).toNat)
              case atStart => exact ⟨0, s ++ ⟨#[116, 117, 114, 110]⟩, by omega, rfl, rfl, hide (by rw [app_bytes, unhide hs]; simp [Sp.tlist, Sp.wTurn]), by rw [ByteArray.size_append]; show s.size + 4 ≤ _; omega, Below.refl _ _⟩
              case round =>
                obtain ⟨i, s', hi, rfl, rfl, hs', hsz', hb6⟩ := hrel
                have hs'b : s'.size ≤ 100000 := by omega
                by_cases hil : i < l.length
                · exact absurd hil (by omega)
                · obtain rfl : i = l.length := by omega
                  have hbz := hb5'.trans (hb6.mono (unhide HBX _ hb5').2.2.2.2)
                  go_wp2
                  go_roundw
                  case rel =>
                    refine ⟨v + 1, _, by omega, rfl, by go_num, hide ?_, ?_, hbz⟩
                    · rw [app_bytes, unhide hs', Sp.preT_succ, Sp.turnLine_eq, ← unhide HTs, List.take_of_length_le (by rw [Sp.rotL_len]; omega)]
                      simp
                    · rw [ByteArray.size_append]
                      show s'.size + 1 ≤ _
                      omega
                  case measure => simp [intOf]; omega
          · have hkk : kk = 0 := by
              have h := unhide HKd
              rw [if_neg (by omega)] at h
              exact h
            subst hkk
            have hYc : True := trivial
            go_wp2
            clear hYc
            go_loopw [8, 13] (fun sv iv wr => ∃ (i : Nat) (s' : ByteArray), i ≤ l.length ∧ sv = .string s' ∧ iv = .int .i64 (i : Int) ∧ Hid (s'.data.toList = Sp.preT bs q v ++ (Sp.wTurn ++ Sp.tlist ((Sp.rotL l 0).take i))) ∧ s'.size ≤ s.size + 4 + 22 * i ∧ Below W5.heap.size W5 wr) (fun _ iv _ => l.length - (intOf iv).toNat)
            case atStart => exact ⟨0, s ++ ⟨#[116, 117, 114, 110]⟩, by omega, rfl, rfl, hide (by rw [app_bytes, unhide hs]; simp [Sp.tlist, Sp.wTurn]), by rw [ByteArray.size_append]; show s.size + 4 ≤ _; omega, Below.refl _ _⟩
            case round =>
              obtain ⟨i, s', hi, rfl, rfl, hs', hsz', hb6⟩ := hrel
              have hs'b : s'.size ≤ 100000 := by omega
              by_cases hil : i < l.length
              · have hkl := unhide Hkl (by omega)
                have hmod : (i + 0) % l.length < l.length := Nat.mod_lt _ (by omega)
                obtain ⟨b6, o6, rfl, -, hc6⟩ := unhide HL6 _ hmod
                have g6 := hc6 _ hb6
                have hget := Sp.rotL_get l 0 hkl i hil (by rw [Sp.rotL_len]; exact hil) hmod
                have HSn := hide (Sp.tlist_snoc (Sp.rotL l 0) i (by rw [Sp.rotL_len]; exact hil))
                rw [hget] at HSn
                have hzb := unhide Hlb _ (List.getElem_mem hmod)
                have ht1 : (i : Int).tmod l.length = (((i + 0) % l.length : Nat) : Int) := by
                  rw [Int.tmod_eq_emod_of_nonneg (by omega)]; simp
                have ht2 : (i : Int) % l.length = (((i + 0) % l.length : Nat) : Int) := by simp
                have hmod' : (((i + 0) % l.length : Nat) : Int) < l.length := by omega
                clear hc6 hget
                generalize l[(i + 0) % l.length] = z at *
                generalize (i + 0) % l.length = dm at *
                have HDg := hide (Digits_any z wr (by omega) (by omega))
                go_wp2_with fail
                refine (unhide HDg).mono ?_
                rintro e w7 ⟨dz, rfl, hdz, hdzz, hb7⟩
                clear HDg
                have hb7' := hb6.trans (hb7.mono hb6.size)
                clear hb7 g6 ht1 ht2
                go_wp2
                go_roundw
                case rel =>
                  refine ⟨i + 1, _, by omega, rfl, by go_num, hide ?_, ?_, hb7'⟩
                  · rw [app_bytes, app_bytes, unhide hs', unhide hdz, unhide HSn]
                    simp
                  · rw [ByteArray.size_append, ByteArray.size_append]
                    show s'.size + 1 + dz.size ≤ _
                    omega
                case measure => simp [intOf]; omega
              · obtain rfl : i = l.length := by omega
                have hbz := hb5'.trans (hb6.mono (unhide HBX _ hb5').2.2.2.2)
                go_wp2
                go_roundw
                case rel =>
                  refine ⟨v + 1, _, by omega, rfl, by go_num, hide ?_, ?_, hbz⟩
                  · rw [app_bytes, unhide hs', Sp.preT_succ, Sp.turnLine_eq, ← unhide HTs, List.take_of_length_le (by rw [Sp.rotL_len]; omega)]
                    simp
                  · rw [ByteArray.size_append]
                    show s'.size + 1 ≤ _
                    omega
                case measure => simp [intOf]; omega
        · have HE : Hid (Sp.parse s.data.toList = (some q, 0, 0)) := hide (by rw [unhide hs, show v = q.n.toNat by omega]; exact unhide Hp)
          have HP := hide (parse_any s wr (by unfold maxLen; omega) ((unhide Hr).below (unhide HW _ hb).2 (Nat.le_refl _)))
          clear hs
          go_wp2_with fail
          refine (unhide HP).mono ?_
          intro e w4 hO
          clear HP
          obtain ⟨ta4, tc4, na4, nc4, ca4, cc4, rfl, o1, o2, o3, hb4⟩ := hO.open (unhide HE)
          clear hO HE
          have HI4 := hide (NetI.mk rfl o1.ints o2.ints o3.ints : NetI w4 (.agg #[.int .i64 q.n, .slice ta4 q.tail.length tc4, .slice na4 q.next.length nc4, .slice ca4 q.cap.length cc4]) q _ _ _)
          have hb4' := hb.trans (hb4.mono hszr)
          have HI5 := hide ((unhide HI).below (unhide HW _ hb4').1)
          have hz4 : w2.heap.size + 1 ≤ w4.heap.size := (unhide HBX _ hb4').2.2.2.2
          have HSm := hide (fun ob => same_any q q _ _ _ _ _ _ _ _ (w4.alloc ob) ((unhide HI5).below ((Below.refl _ _).alloc (Nat.le_refl _) ob)) ((unhide HI4).below ((Below.refl _ _).alloc (Nat.le_refl _) ob)) (by have := unhide Hnl; have := unhide Hcl; omega) (by have := unhide Hnl; have := unhide Hcl; omega))
          have kk0 := fun ob => (unhide HBX _ (hb4'.alloc hz4 ob)).1
          have kk1 := fun ob => (unhide HBX _ (hb4'.alloc hz4 ob)).2.1
          have kk2 := fun ob => (unhide HBX _ (hb4'.alloc hz4 ob)).2.2.1
          have kk3 := fun ob => (unhide HBX _ (hb4'.alloc hz4 ob)).2.2.2.1
          have HB5 : Hid (∀ ob, Below w.heap.size w (w4.alloc ob)) := hide fun ob => (unhide HW _ (hb4'.alloc hz4 ob)).2
          rw [netEq_refl] at HSm
          clear x0 x1 x2 x3 o1 o2 o3 hb4 HI4 HI5
          rw [unhide Hcl] at HSm ⊢
          go_wp2_with fail
          refine (unhide HSm _).mono ?_
          rintro e w6 ⟨rfl, hb6⟩
          have hb6' := (unhide HB5 _).trans (hb6.mono (unhide HB5 _).size)
          clear HSm HB5 hb6 kk0 kk1 kk2 kk3
          go_wp2
          go_ret
          exact ⟨rfl, hb6'⟩
end Go.Proofs.YtdbloaigbjfadaaDoor
