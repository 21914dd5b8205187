/- What the proof needs, part 11. -/
import Derived.Test.YtggjpglakocilaaL10
/- The law PathRight, walked. -/
namespace Go.Proofs.Ytggjpglakocilaa
open Go Go.RowKit

theorem wpList_appG {w : World} {ops : Array Oper} {rest : List Oper} {o : Oper} {a : Act} {Q : Exit → Act → World → Prop} (hw : Region.wanted o (yielded ops a.tmps) = true) (s x : Operand)
    (ho : o.op = .call { callee := .builtin .append, args := #[s, x], argTypes := #[22, 22] })
    (B : Nat) (v xv : Value) (l1 l2 : List Int) (hs : a.eval s = v) (hx' : a.eval x = xv) (hown : OwnI w B v l1) (hx : Ints w xv l2) (n : Nat) (hn : l1.length + l2.length = n) (hlen : n ≤ 1000000) (hB : B ≤ w.heap.size)
    (h : ∀ a' c' w', OwnI w' B (.slice a' n c') (l1 ++ l2) → Below B w w' → w.grownBy w' v.ownBlock → wpList Try.prog ops Q rest (a.put o.dst (.slice a' n c')) w') : wpList Try.prog ops Q (o :: rest) a w :=
  wpList_step fun K hK => by
    rw [if_pos hw]
    exact wp_app s x ho B v xv l1 l2 hs hx' hown hx n hn hlen hB fun a' c' w' h2 h3 h4 => hK _ _ (h a' c' w' h2 h3 h4)
set_option maxRecDepth 100000 in
set_option maxHeartbeats 16000000 in
theorem pathRight_any (size s low at0 v : Int) (ns raw : List Int) (nv rv : Value) (w : World) (hv : Ints w nv ns) (hr : Ints w rv raw) :
    Calls Try.prog 5 #[.int .i64 size, nv, .int .i64 s, .int .i64 low, .int .i64 at0, .int .i64 v, rv] w fun e w' => e = .returned (.bool true) ∧ Below w.heap.size w w' := by
  have HK := hide (known6_any w)
  have hl0 : 0 ≤ low % 4 := Int.emod_nonneg _ (by omega)
  have hl4 : low % 4 < 4 := Int.emod_lt_of_pos _ (by omega)
  obtain ⟨lw, hlw⟩ : ∃ lw, low % 4 = lw := ⟨_, rfl⟩
  have HLw : Hid (∀ w', Calls Try.prog 10 #[.int .i64 low, .int .i64 4] w' fun e w'' => e = .returned (.int .i64 lw) ∧ w'' = w') := hide (fun w' => by rw [← hlw]; exact within6_any low 4 w' (by omega) (by omega))
  rw [hlw] at hl0 hl4
  clear hlw
  have HN0 := hide (fun w' => within6_any size 14 w' (by omega) (by omega))
  have hm0 : 0 ≤ size % 14 := Int.emod_nonneg _ (by omega)
  have hm1 : size % 14 < 14 := Int.emod_lt_of_pos _ (by omega)
  obtain ⟨N, hN⟩ : ∃ N : Nat, 1 + size % 14 = (N : Int) := ⟨(1 + size % 14).toNat, by omega⟩
  have hN1 : 0 < N := by omega
  have hN2 : N ≤ 14 + 1 - 1 := by omega
  have HAr := hide (fun w' (hb : Below w.heap.size w w') => arcs_any N ns lw nv w' (hv.below hb) hN1 (by omega) (by omega) (by omega))
  have HSn : Hid (Sp.Snd N (Sp.arcsOf N ns lw 50)) := hide (Sp.arcsOf_snd hN1 ns (by omega) (by omega))
  have HLn : Hid ((Sp.arcsOf N ns lw 50).length ≤ 50) := hide (by rw [Sp.arcsOf_len]; omega)
  obtain ⟨L, hL⟩ : ∃ L, Sp.arcsOf N ns lw 50 = L := ⟨_, rfl⟩
  rw [hL] at HSn HLn
  simp only [hL] at HAr
  generalize size % 14 = sz at *
  have HRa : Hid (∀ w', Below w.heap.size w w' → Ints w' rv raw) := hide fun w' hb => hr.below hb
  obtain ⟨na, nc, rfl, -, -⟩ := hv.form
  obtain ⟨ra, rc, rfl, -, -⟩ := hr.form
  obtain ⟨P, hP⟩ : ∃ P : Ending → World → Prop, P = fun e w' => e = .returned (.bool true) ∧ Below w.heap.size w w' := ⟨_, rfl⟩
  rw [← hP]
  have HP := hide hP
  clear hP
  go_enter Try.func5, Try.ntmps5
  go_wp2_with fail
  go_at_call 9
  refine (unhide HK).mono ?_
  rintro e w1 ⟨rfl, hb1⟩
  have HB1 := hide hb1
  clear hb1 HK
  by_cases hbig : 60 < raw.length
  · have hbI : (60 : Int) < (raw.length : Int) := by omega
    go_wp2
    rw [unhide HP]
    exact ⟨rfl, unhide HB1⟩
  have hbI : ¬ (60 : Int) < (raw.length : Int) := by omega
  go_wp2_with fail
  go_at_call 10
  refine (unhide HN0 w1).mono ?_
  rintro e wz ⟨rfl, hwz⟩
  have hwz' := hwz.symm
  subst hwz'
  clear hwz
  clear HN0
  go_wp2_with fail
  go_at_call 10
  refine (unhide HLw w1).mono ?_
  rintro e wz ⟨rfl, hwz⟩
  have hwz' := hwz.symm
  subst hwz'
  clear hwz
  clear HLw
  go_wp2_with fail
  go_at_call 11
  refine (unhide HAr _ (unhide HB1)).mono ?_
  rintro e w3 ⟨lv, rfl, ho3, hb3⟩
  have hwb3 := (unhide HB1).trans (hb3.mono (unhide HB1).size)
  have hal3 := ho3.arcs
  obtain ⟨la, lc, rfl, -⟩ := hal3.form
  have HA3 : Hid (∀ w', Below w3.heap.size w3 w' → ArcsI w' (.slice la L.length lc) L ∧ Below w.heap.size w w') := hide fun w' hb => ⟨hal3.below hb, hwb3.trans (hb.mono hwb3.size)⟩
  have HNN := hide hN
  have hln := unhide HLn
  clear hN HAr ho3 hb3 hwb3 hal3 HB1 hL hr hv
  have hx0 : 0 ≤ s % (N : Int) := Int.emod_nonneg _ (by omega)
  have hx1 : s % (N : Int) < (N : Int) := Int.emod_lt_of_pos _ (by omega)
  obtain ⟨x, hx⟩ : ∃ x : Nat, s % (N : Int) = (x : Int) := ⟨(s % (N : Int)).toNat, by omega⟩
  have hxN : x < N := by omega
  have hxI : (x : Int) < (N : Int) := by omega
  have HWtx : Hid (∀ w', Calls Try.prog 10 #[.int .i64 s, .int .i64 (N : Int)] w' fun e w'' => e = .returned (.int .i64 (x : Int)) ∧ w'' = w') := hide (fun w' => by rw [← hx]; exact within6_any s (N : Int) w' (by omega) (by omega))
  clear hx0 hx1 hx
  have hy0 : 0 ≤ at0 % (N : Int) := Int.emod_nonneg _ (by omega)
  have hy1 : at0 % (N : Int) < (N : Int) := Int.emod_lt_of_pos _ (by omega)
  obtain ⟨y, hy⟩ : ∃ y : Nat, at0 % (N : Int) = (y : Int) := ⟨(at0 % (N : Int)).toNat, by omega⟩
  have hyN : y < N := by omega
  have hyI : (y : Int) < (N : Int) := by omega
  have HWty : Hid (∀ w', Calls Try.prog 10 #[.int .i64 at0, .int .i64 (N : Int)] w' fun e w'' => e = .returned (.int .i64 (y : Int)) ∧ w'' = w') := hide (fun w' => by rw [← hy]; exact within6_any at0 (N : Int) w' (by omega) (by omega))
  clear hy0 hy1 hy
  go_wp2_with fail
  go_at_call 10
  refine (unhide HWtx _).mono ?_
  rintro e wz ⟨rfl, hwz⟩
  have hwz' := hwz.symm
  subst hwz'
  clear hwz
  clear HWtx
  have HAn := hide (rAny_any N L x _ w3 (unhide HA3 w3 (Below.refl _ _)).1 (unhide HSn) hxN (by omega))
  have HRg : Hid (∀ w' l dv, Below w3.heap.size w3 w' → Ints w' dv l → l.length ≤ 1000 → Calls Try.prog 15 #[.int .i64 (N : Int), .slice la L.length lc, .int .i64 (x : Int), dv] w' fun e w'' => e = .returned (.bool (Sp.rightB L x N l)) ∧ Below w'.heap.size w' w'') := hide fun w' l dv hb hd hl => right_any6 N L x l _ dv w' (unhide HA3 w' hb).1 hd hl (unhide HSn) hxN (by omega)
  have HRr : Hid (∀ w' l dv, Below w3.heap.size w3 w' → Ints w' dv l → Calls Try.prog 19 #[.int .i64 (N : Int), .slice la L.length lc, .int .i64 (x : Int), dv] w' fun e w'' => e = .returned (.bool (Sp.rightB L x N l)) ∧ Below w'.heap.size w' w'') := hide fun w' l dv hb hd => rright_any6 N L x l _ dv w' (unhide HA3 w' hb).1 hd (unhide HSn) hxN (by omega)
  have HK2 := hide (Sp.pk_case (unhide HSn) hxN (show N ≤ 60 by omega))
  go_wp2_with fail
  go_at_call 17
  refine (unhide HAn).mono ?_
  rintro e w4 ⟨hb4, ⟨G, D, rfl, hG, hr4, hD⟩ | ⟨rfl, hno⟩⟩
  · obtain ⟨R, hR⟩ : ∃ R, R = (List.range N).map D := ⟨_, rfl⟩
    have hRl : R.length = N := by rw [hR]; simp
    have HYes : Hid (∀ l, Sp.rightB L x N l = decide (l = R)) := hide fun l => by rw [hR]; exact (Sp.rightB_yes hD l).symm
    have HD4 : Hid (∀ w', Below w4.heap.size w4 w' → Ints w' (.slice (some ⟨G, 0, none⟩) N N) R) := hide fun w' hb => by rw [hR]; exact (hr4.below hb).ints (by omega)
    have HB4 := hide hb4
    have HR4 := hide hr4
    have hGl := hr4.lt
    have HRD := hide hR
    clear hb4 hD HAn HSn HK2 hr4 hR
    go_wp2_with (at_builtin; refine wpList_app (w := w4.alloc (.cells #[] 3)) rfl _ _ rfl w4.heap.size _ _ [] R rfl rfl (own_lit w4 _ _ 0 [] rfl rfl (Nat.le_refl _) (by simp)) (unhide HD4 _ ((Below.refl _ _).alloc (Nat.le_refl _) _)) N (by rw [hRl]; simp) (by omega) (by simp) ?_)
    rintro xa xc w7 hx7 hg7 -
    have hb7 : Below w4.heap.size w4 w7 := ((Below.refl _ w4).alloc (Nat.le_refl _) _).trans hg7
    obtain ⟨gx, rfl, hgx⟩ : ∃ gx, xa = some ⟨gx, 0, none⟩ ∧ w4.heap.size ≤ gx := by
      rcases hx7.2 with ⟨e, h⟩ | ⟨g, cap, cur, e, hg, -⟩
      · exfalso; injection e with _ e2; omega
      · injection e with e1; exact ⟨g, e1, hg⟩
    clear hg7
    obtain ⟨dy, hdy⟩ : ∃ dy, D y = dy := ⟨_, rfl⟩
    have HCy : Hid (∀ w', Below w4.heap.size w4 w' → w'.cell? ⟨G, y, none⟩ = some (.int .i64 dy)) := hide fun w' hb => by
      rw [← hdy]; exact ((unhide HR4).below hb).cell hyN
    clear hdy
    obtain ⟨V4, hV4⟩ : ∃ V4, IntKind.i64.wrap (dy + 1) = V4 := ⟨_, rfl⟩
    obtain ⟨V5, hV5⟩ : ∃ V5, IntKind.i64.wrap (dy - 1) = V5 := ⟨_, rfl⟩
    have hz0 : 0 ≤ v % 7 := Int.emod_nonneg _ (by omega)
    have hz1 : v % 7 < 7 := Int.emod_lt_of_pos _ (by omega)
    obtain ⟨z, hz⟩ : ∃ z : Nat, v % 7 = (z : Int) := ⟨(v % 7).toNat, by omega⟩
    have hz7 : z < 7 := by omega
    have hz7I : (z : Int) < 7 := by omega
    have HWtz : Hid (∀ w', Calls Try.prog 10 #[.int .i64 v, .int .i64 7] w' fun e w'' => e = .returned (.int .i64 (z : Int)) ∧ w'' = w') := hide (fun w' => by rw [← hz]; exact within6_any v 7 w' (by omega) (by omega))
    clear hz0 hz1 hz
    obtain ⟨zl, hzl⟩ : ∃ zl : Int, (#[.int .i64 0, .int .i64 (-1), .int .i64 1152921504606846976, .int .i64 v, .int .i64 V4, .int .i64 V5, .int .i64 dy] : Array Value)[z]? = some (.int .i64 zl) := by
      rcases z with _ | _ | _ | _ | _ | _ | _ | z
      · exact ⟨_, rfl⟩
      · exact ⟨_, rfl⟩
      · exact ⟨_, rfl⟩
      · exact ⟨_, rfl⟩
      · exact ⟨_, rfl⟩
      · exact ⟨_, rfl⟩
      · exact ⟨_, rfl⟩
      · omega
    go_upto_region 12 with fail
    go_cut [] (fun wx => ∃ zl : Int, Hid (OwnI wx w4.heap.size (.slice (some ⟨gx, 0, none⟩) N xc) (R.set y zl) ∧ Below w4.heap.size w4 wx))
    case first =>
      refine wp_region_G (fun w' => w'.cell? ⟨G, y, none⟩ = some (.int .i64 dy)) (fun _ => false) (by kernel_rfl) (unhide HCy _ hb7.drew) (fun hHeld => ?_)
      have hbq := hb7.drew
      have hx := own_below hx7 (Below.refl _ w7).drew
      generalize w7.drew = wq at *
      refine wpAnyG_take (v := ?_) 0 (by rfl) (by kernel_rfl) (by kernel_rfl) (by kernel_rfl) (by kernel_rfl) (fun _ _ _ h => h) (Or.inl ⟨by rfl, ?_⟩) (by assumption) ?_
      rotate_left
      · (intro w' hSw; (try dsimp only at hSw); (try simp only [List.getElem_toArray, List.getElem_cons_zero]); go_simp; try (with_reducible rfl))
      simp only [Act.put, List.getElem_toArray, List.getElem_cons_zero, List.setIfInBounds_toArray, List.set_cons_zero, List.set_cons_succ]
      refine wpAnyG_take (v := ?_) 1 (by rfl) (by kernel_rfl) (by kernel_rfl) (by kernel_rfl) (by kernel_rfl) (fun _ _ _ h => h) (Or.inl ⟨by rfl, ?_⟩) (by assumption) ?_
      rotate_left
      · (intro w' hSw; (try dsimp only at hSw); (try simp only [List.getElem_toArray, List.getElem_cons_succ, List.getElem_cons_zero]); go_simp; try (with_reducible rfl))
      simp only [Act.put, List.getElem_toArray, List.getElem_cons_succ, List.getElem_cons_zero, List.setIfInBounds_toArray, List.set_cons_zero, List.set_cons_succ]
      refine wpAnyG_take (v := ?_) 2 (by rfl) (by kernel_rfl) (by kernel_rfl) (by kernel_rfl) (by kernel_rfl) (fun _ _ _ h => h) (Or.inl ⟨by rfl, ?_⟩) (by assumption) ?_
      rotate_left
      · (intro w' hSw; (try dsimp only at hSw); (try simp only [List.getElem_toArray, List.getElem_cons_succ, List.getElem_cons_zero]); go_simp; try (with_reducible rfl))
      simp only [Act.put, List.getElem_toArray, List.getElem_cons_succ, List.getElem_cons_zero, List.setIfInBounds_toArray, List.set_cons_zero, List.set_cons_succ]
      refine wpAnyG_take (v := ?_) 4 (by rfl) (by kernel_rfl) (by kernel_rfl) (by kernel_rfl) (by kernel_rfl) (fun _ _ _ h => h) (Or.inl ⟨by rfl, ?_⟩) (by assumption) ?_
      rotate_left
      · (intro w' hSw; (try dsimp only at hSw); (try simp only [List.getElem_toArray, List.getElem_cons_succ, List.getElem_cons_zero]); go_simp; try (with_reducible rfl))
      simp only [Act.put, List.getElem_toArray, List.getElem_cons_succ, List.getElem_cons_zero, List.setIfInBounds_toArray, List.set_cons_zero, List.set_cons_succ]
      refine wpAnyG_take (v := ?_) 5 (by rfl) (by kernel_rfl) (by kernel_rfl) (by kernel_rfl) (by kernel_rfl) (fun _ _ _ h => h) (Or.inl ⟨by rfl, ?_⟩) (by assumption) ?_
      rotate_left
      · (intro w' hSw; (try dsimp only at hSw); (try simp only [List.getElem_toArray, List.getElem_cons_succ, List.getElem_cons_zero]); go_simp; try (with_reducible rfl))
      simp only [Act.put, List.getElem_toArray, List.getElem_cons_succ, List.getElem_cons_zero, List.setIfInBounds_toArray, List.set_cons_zero, List.set_cons_succ]
      refine wpAnyG_take (v := ?_) 6 (by rfl) (by kernel_rfl) (by kernel_rfl) (by kernel_rfl) (by kernel_rfl) (fun _ _ _ h => h) (Or.inl ⟨by rfl, ?_⟩) (by assumption) ?_
      rotate_left
      · (intro w' hSw; (try dsimp only at hSw); (try simp only [List.getElem_toArray, List.getElem_cons_succ, List.getElem_cons_zero]); go_simp; try (with_reducible rfl))
      simp only [Act.put, List.getElem_toArray, List.getElem_cons_succ, List.getElem_cons_zero, List.setIfInBounds_toArray, List.set_cons_zero, List.set_cons_succ]
      refine wpAnyG_take (v := ?_) 7 (by rfl) (by kernel_rfl) (by kernel_rfl) (by kernel_rfl) (by kernel_rfl) (fun _ _ _ h => h) (Or.inl ⟨by rfl, ?_⟩) (by assumption) ?_
      rotate_left
      · (intro w' hSw; (try dsimp only at hSw); (try simp only [List.getElem_toArray, List.getElem_cons_succ, List.getElem_cons_zero]); go_simp; try (with_reducible rfl))
      simp only [Act.put, List.getElem_toArray, List.getElem_cons_succ, List.getElem_cons_zero, List.setIfInBounds_toArray, List.set_cons_zero, List.set_cons_succ]
      refine wpAnyG_take (v := ?_) 12 (by rfl) (by kernel_rfl) (by kernel_rfl) (by kernel_rfl) (by kernel_rfl) (fun _ _ _ h => h) (Or.inl ⟨by rfl, ?_⟩) (by assumption) ?_
      rotate_left
      · (intro w' hSw; (try dsimp only at hSw); (try simp only [List.getElem_toArray, List.getElem_cons_succ, List.getElem_cons_zero]); go_simp; try (with_reducible rfl))
      simp only [Act.put, List.getElem_toArray, List.getElem_cons_succ, List.getElem_cons_zero, List.setIfInBounds_toArray, List.set_cons_zero, List.set_cons_succ]
      refine wpAnyG_take (v := ?_) 13 (by rfl) (by kernel_rfl) (by kernel_rfl) (by kernel_rfl) (by kernel_rfl) (fun _ _ _ h => h) (Or.inl ⟨by rfl, ?_⟩) (by assumption) ?_
      rotate_left
      · (intro w' hSw; (try dsimp only at hSw); (try simp only [List.getElem_toArray, List.getElem_cons_succ, List.getElem_cons_zero]); go_simp; try (with_reducible rfl))
      simp only [Act.put, List.getElem_toArray, List.getElem_cons_succ, List.getElem_cons_zero, List.setIfInBounds_toArray, List.set_cons_zero, List.set_cons_succ]
      refine wpAnyG_take (v := ?_) 14 (by rfl) (by kernel_rfl) (by kernel_rfl) (by kernel_rfl) (by kernel_rfl) (fun _ _ _ h => h) (Or.inl ⟨by rfl, ?_⟩) (by assumption) ?_
      rotate_left
      · (intro w' hSw; (try dsimp only at hSw); (try simp only [List.getElem_toArray, List.getElem_cons_succ, List.getElem_cons_zero]); go_simp; try (with_reducible rfl))
      simp only [Act.put, List.getElem_toArray, List.getElem_cons_succ, List.getElem_cons_zero, List.setIfInBounds_toArray, List.set_cons_zero, List.set_cons_succ]
      refine wpAnyG_take (v := ?_) 19 (by rfl) (by kernel_rfl) (by kernel_rfl) (by kernel_rfl) (by kernel_rfl) (fun _ _ _ h => h) (Or.inl ⟨by rfl, ?_⟩) (by assumption) ?_
      rotate_left
      · (intro w' hSw; (try dsimp only at hSw); (try simp only [List.getElem_toArray, List.getElem_cons_succ, List.getElem_cons_zero]); go_simp; try (with_reducible rfl))
      simp only [Act.put, List.getElem_toArray, List.getElem_cons_succ, List.getElem_cons_zero, List.setIfInBounds_toArray, List.set_cons_zero, List.set_cons_succ]
      refine wpAnyG_take (v := ?_) 20 (by rfl) (by kernel_rfl) (by kernel_rfl) (by kernel_rfl) (by kernel_rfl) (fun _ _ _ h => h) (Or.inl ⟨by rfl, ?_⟩) (by assumption) ?_
      rotate_left
      · (intro w' hSw; (try dsimp only at hSw); (try simp only [List.getElem_toArray, List.getElem_cons_succ, List.getElem_cons_zero]); go_simp; try (with_reducible rfl))
      simp only [Act.put, List.getElem_toArray, List.getElem_cons_succ, List.getElem_cons_zero, List.setIfInBounds_toArray, List.set_cons_zero, List.set_cons_succ]
      refine wpAnyG_take (v := ?_) 21 (by rfl) (by kernel_rfl) (by kernel_rfl) (by kernel_rfl) (by kernel_rfl) (fun _ _ _ h => h) (Or.inl ⟨by rfl, ?_⟩) (by assumption) ?_
      rotate_left
      · (intro w' hSw; (try dsimp only at hSw); (try simp only [List.getElem_toArray, List.getElem_cons_succ, List.getElem_cons_zero]); go_simp; try (with_reducible rfl))
      simp only [Act.put, List.getElem_toArray, List.getElem_cons_succ, List.getElem_cons_zero, List.setIfInBounds_toArray, List.set_cons_zero, List.set_cons_succ]
      refine wpAnyG_take (v := ?_) 26 (by rfl) (by kernel_rfl) (by kernel_rfl) (by kernel_rfl) (by kernel_rfl) (fun _ _ _ h => h) (Or.inl ⟨by rfl, ?_⟩) (by assumption) ?_
      rotate_left
      · (intro w' hSw; (try dsimp only at hSw); (try simp only [List.getElem_toArray, List.getElem_cons_succ, List.getElem_cons_zero]); go_simp; try (with_reducible rfl))
      simp only [Act.put, List.getElem_toArray, List.getElem_cons_succ, List.getElem_cons_zero, List.setIfInBounds_toArray, List.set_cons_zero, List.set_cons_succ]
      refine wpAnyG_ready [3] (by kernel_rfl) (by simp) ?_
      refine AllReadyG.cons 3 (by rfl) (fun K hK => ?_) ?_
      · simp only [List.getElem_toArray, List.getElem_cons_succ, List.getElem_cons_zero]
        go_simp
        go_at_call 10
        refine (unhide HWty _).mono ?_
        rintro e wc1 ⟨rfl, hlc1⟩
        have hlc1' := hlc1.symm
        clear hlc1
        subst hlc1'
        refine hK.out _ _ (unhide HCy _ hbq) (fun _ => ?_)
        clear hK K
        try simp only [Act.put, List.setIfInBounds_toArray, List.set_cons_zero, List.set_cons_succ]
        refine wpAnyG_ready [8] (by kernel_rfl) (by simp) ?_
        refine AllReadyG.cons 8 (by rfl) (fun K hK => ?_) ?_
        · simp only [List.getElem_toArray, List.getElem_cons_succ, List.getElem_cons_zero]
          go_simp
          go_at_call 10
          refine (unhide HWty _).mono ?_
          rintro e wc2 ⟨rfl, hlc2⟩
          have hlc2' := hlc2.symm
          clear hlc2
          subst hlc2'
          refine hK.out _ _ (unhide HCy _ hbq) (fun _ => ?_)
          clear hK K
          try simp only [Act.put, List.setIfInBounds_toArray, List.set_cons_zero, List.set_cons_succ]
          refine wpAnyG_take (v := ?_) 9 (by rfl) (by kernel_rfl) (by kernel_rfl) (by kernel_rfl) (by kernel_rfl) (fun _ _ _ h => h) (Or.inl ⟨by rfl, ?_⟩) (by assumption) ?_
          rotate_left
          · (intro w' hSw; (try dsimp only at hSw); (try simp only [List.getElem_toArray, List.getElem_cons_succ, List.getElem_cons_zero]); go_simp; try (with_reducible rfl))
          simp only [Act.put, List.getElem_toArray, List.getElem_cons_succ, List.getElem_cons_zero, List.setIfInBounds_toArray, List.set_cons_zero, List.set_cons_succ]
          refine wpAnyG_take (v := ?_) 10 (by rfl) (by kernel_rfl) (by kernel_rfl) (by kernel_rfl) (by kernel_rfl) (fun _ _ _ h => h) (Or.inl ⟨by rfl, ?_⟩) (by assumption) ?_
          rotate_left
          · (intro w' hSw; (try dsimp only at hSw); (try simp only [List.getElem_toArray, List.getElem_cons_succ, List.getElem_cons_zero]); go_simp; try (with_reducible rfl))
          simp only [Act.put, List.getElem_toArray, List.getElem_cons_succ, List.getElem_cons_zero, List.setIfInBounds_toArray, List.set_cons_zero, List.set_cons_succ]
          refine wpAnyG_take (v := ?_) 11 (by rfl) (by kernel_rfl) (by kernel_rfl) (by kernel_rfl) (by kernel_rfl) (fun _ _ _ h => h) (Or.inl ⟨by rfl, ?_⟩) (by assumption) ?_
          rotate_left
          · (intro w' hSw; (try dsimp only at hSw); (try simp only [List.getElem_toArray, List.getElem_cons_succ, List.getElem_cons_zero]); go_simp; try (with_reducible rfl))
          simp only [Act.put, List.getElem_toArray, List.getElem_cons_succ, List.getElem_cons_zero, List.setIfInBounds_toArray, List.set_cons_zero, List.set_cons_succ]
          refine wpAnyG_ready [15] (by kernel_rfl) (by simp) ?_
          refine AllReadyG.cons 15 (by rfl) (fun K hK => ?_) ?_
          · simp only [List.getElem_toArray, List.getElem_cons_succ, List.getElem_cons_zero]
            go_simp
            go_at_call 10
            refine (unhide HWty _).mono ?_
            rintro e wc3 ⟨rfl, hlc3⟩
            have hlc3' := hlc3.symm
            clear hlc3
            subst hlc3'
            refine hK.out _ _ (unhide HCy _ hbq) (fun _ => ?_)
            clear hK K
            try simp only [Act.put, List.setIfInBounds_toArray, List.set_cons_zero, List.set_cons_succ]
            refine wpAnyG_take (v := ?_) 16 (by rfl) (by kernel_rfl) (by kernel_rfl) (by kernel_rfl) (by kernel_rfl) (fun _ _ _ h => h) (Or.inl ⟨by rfl, ?_⟩) (by assumption) ?_
            rotate_left
            · (intro w' hSw; (try dsimp only at hSw); (try simp only [List.getElem_toArray, List.getElem_cons_succ, List.getElem_cons_zero]); go_simp; try (with_reducible rfl))
            simp only [Act.put, List.getElem_toArray, List.getElem_cons_succ, List.getElem_cons_zero, List.setIfInBounds_toArray, List.set_cons_zero, List.set_cons_succ]
            refine wpAnyG_take (v := ?_) 17 (by rfl) (by kernel_rfl) (by kernel_rfl) (by kernel_rfl) (by kernel_rfl) (fun _ _ _ h => h) (Or.inl ⟨by rfl, ?_⟩) (by assumption) ?_
            rotate_left
            · (intro w' hSw; (try dsimp only at hSw); (try simp only [List.getElem_toArray, List.getElem_cons_succ, List.getElem_cons_zero]); go_simp; try (with_reducible rfl))
            simp only [Act.put, List.getElem_toArray, List.getElem_cons_succ, List.getElem_cons_zero, List.setIfInBounds_toArray, List.set_cons_zero, List.set_cons_succ]
            refine wpAnyG_take (v := ?_) 18 (by rfl) (by kernel_rfl) (by kernel_rfl) (by kernel_rfl) (by kernel_rfl) (fun _ _ _ h => h) (Or.inl ⟨by rfl, ?_⟩) (by assumption) ?_
            rotate_left
            · (intro w' hSw; (try dsimp only at hSw); (try simp only [List.getElem_toArray, List.getElem_cons_succ, List.getElem_cons_zero]); go_simp; try (with_reducible rfl))
            simp only [Act.put, List.getElem_toArray, List.getElem_cons_succ, List.getElem_cons_zero, List.setIfInBounds_toArray, List.set_cons_zero, List.set_cons_succ]
            refine wpAnyG_ready [22] (by kernel_rfl) (by simp) ?_
            refine AllReadyG.cons 22 (by rfl) (fun K hK => ?_) ?_
            · simp only [List.getElem_toArray, List.getElem_cons_succ, List.getElem_cons_zero]
              go_simp
              go_at_call 10
              refine (unhide HWty _).mono ?_
              rintro e wc4 ⟨rfl, hlc4⟩
              have hlc4' := hlc4.symm
              clear hlc4
              subst hlc4'
              refine hK.out _ _ (unhide HCy _ hbq) (fun _ => ?_)
              clear hK K
              try simp only [Act.put, List.setIfInBounds_toArray, List.set_cons_zero, List.set_cons_succ]
              refine wpAnyG_take (v := ?_) 23 (by rfl) (by kernel_rfl) (by kernel_rfl) (by kernel_rfl) (by kernel_rfl) (fun _ _ _ h => h) (Or.inl ⟨by rfl, ?_⟩) (by assumption) ?_
              rotate_left
              · (intro w' hSw; (try dsimp only at hSw); (try simp only [List.getElem_toArray, List.getElem_cons_succ, List.getElem_cons_zero]); go_simp; try (with_reducible rfl))
              simp only [Act.put, List.getElem_toArray, List.getElem_cons_succ, List.getElem_cons_zero, List.setIfInBounds_toArray, List.set_cons_zero, List.set_cons_succ]
              refine wpAnyG_take (v := ?_) 24 (by rfl) (by kernel_rfl) (by kernel_rfl) (by kernel_rfl) (by kernel_rfl) (fun _ _ _ h => h) (Or.inl ⟨by rfl, ?_⟩) (by assumption) ?_
              rotate_left
              · (intro w' hSw; (try dsimp only at hSw); (try simp only [List.getElem_toArray, List.getElem_cons_succ, List.getElem_cons_zero]); go_simp; try (with_reducible rfl))
              simp only [Act.put, List.getElem_toArray, List.getElem_cons_succ, List.getElem_cons_zero, List.setIfInBounds_toArray, List.set_cons_zero, List.set_cons_succ]
              refine wpAnyG_ready [25, 27] (by kernel_rfl) (by simp) ?_
              refine AllReadyG.cons 25 (by rfl) (fun K hK => ?_) ?_
              · simp only [List.getElem_toArray, List.getElem_cons_succ, List.getElem_cons_zero]
                go_simp
                refine hK.out _ _ (unhide HCy _ (hbq.alloc hbq.size _)) (fun _ => ?_)
                clear hK K
                try simp only [Act.put, List.setIfInBounds_toArray, List.set_cons_zero, List.set_cons_succ]
                have hbl : Below w4.heap.size w4 (wq.alloc (.cells #[.int .i64 0, .int .i64 (-1), .int .i64 1152921504606846976, .int .i64 v, .int .i64 V4, .int .i64 V5, .int .i64 dy] 3)) := hbq.alloc hbq.size _
                have hxl : OwnI (wq.alloc (.cells #[.int .i64 0, .int .i64 (-1), .int .i64 1152921504606846976, .int .i64 v, .int .i64 V4, .int .i64 V5, .int .i64 dy] 3)) w4.heap.size (.slice (some ⟨gx, 0, none⟩) N xc) R := World.ownsRow.alloc hx _
                obtain ⟨gl, hgl⟩ : ∃ g, g = wq.heap.size := ⟨_, rfl⟩
                have hL : (wq.alloc (.cells #[.int .i64 0, .int .i64 (-1), .int .i64 1152921504606846976, .int .i64 v, .int .i64 V4, .int .i64 V5, .int .i64 dy] 3)).heap[gl]? = some (.cells #[.int .i64 0, .int .i64 (-1), .int .i64 1152921504606846976, .int .i64 v, .int .i64 V4, .int .i64 V5, .int .i64 dy] 3) := by rw [hgl]; exact heap_alloc_new wq _
                have kl : (wq.alloc (.cells #[.int .i64 0, .int .i64 (-1), .int .i64 1152921504606846976, .int .i64 v, .int .i64 V4, .int .i64 V5, .int .i64 dy] 3)).cell? ⟨gl, z, none⟩ = some (.int .i64 zl) := by rw [cell_of_row _ _ _ _ _ _ hL]; exact hzl
                try rw [← hgl]
                clear hL hgl
                generalize (wq.alloc (.cells #[.int .i64 0, .int .i64 (-1), .int .i64 1152921504606846976, .int .i64 v, .int .i64 V4, .int .i64 V5, .int .i64 dy] 3)) = wl at *
                refine wpAnyG_ready [27] (by kernel_rfl) (by simp) ?_
                refine AllReadyG.cons 27 (by rfl) (fun K hK => ?_) ?_
                · simp only [List.getElem_toArray, List.getElem_cons_succ, List.getElem_cons_zero]
                  go_simp
                  go_at_call 10
                  refine (unhide HWtz _).mono ?_
                  rintro e wc5 ⟨rfl, hlc5⟩
                  have hlc5' := hlc5.symm
                  clear hlc5
                  subst hlc5'
                  refine hK.out _ _ (unhide HCy _ hbl) (fun _ => ?_)
                  clear hK K
                  try simp only [Act.put, List.setIfInBounds_toArray, List.set_cons_zero, List.set_cons_succ]
                  refine wpAnyG_take (v := ?_) 28 (by rfl) (by kernel_rfl) (by kernel_rfl) (by kernel_rfl) (by kernel_rfl) (fun _ _ _ h => h) (Or.inl ⟨by rfl, ?_⟩) (by assumption) ?_
                  rotate_left
                  · (intro w' hSw; (try dsimp only at hSw); (try simp only [List.getElem_toArray, List.getElem_cons_succ, List.getElem_cons_zero]); go_simp; try (with_reducible rfl))
                  simp only [Act.put, List.getElem_toArray, List.getElem_cons_succ, List.getElem_cons_zero, List.setIfInBounds_toArray, List.set_cons_zero, List.set_cons_succ]
                  refine wpAnyG_ready [29] (by kernel_rfl) (by simp) ?_
                  refine AllReadyG.cons 29 (by rfl) (fun K hK => ?_) ?_
                  · simp only [List.getElem_toArray, List.getElem_cons_succ, List.getElem_cons_zero]
                    go_simp
                    refine hK.out _ _ (unhide HCy _ hbl) (fun _ => ?_)
                    clear hK K
                    try simp only [Act.put, List.setIfInBounds_toArray, List.set_cons_zero, List.set_cons_succ]
                    have kc := own_cell hxl y (by rw [hRl]; exact hyN)
                    have fc := own_frozen hxl y
                    refine wpAnyG_take (v := ?_) 30 (by rfl) (by kernel_rfl) (by kernel_rfl) (by kernel_rfl) (by kernel_rfl) (fun _ _ _ h => h) (Or.inl ⟨by rfl, ?_⟩) (by assumption) ?_
                    rotate_left
                    · (intro w' hSw; (try dsimp only at hSw); (try simp only [List.getElem_toArray, List.getElem_cons_succ, List.getElem_cons_zero]); go_simp; try (with_reducible rfl))
                    simp only [Act.put, List.getElem_toArray, List.getElem_cons_succ, List.getElem_cons_zero, List.setIfInBounds_toArray, List.set_cons_zero, List.set_cons_succ]
                    refine wpAnyG_ready [31] (by kernel_rfl) (by simp) ?_
                    refine AllReadyG.cons 31 (by rfl) (fun K hK => ?_) ?_
                    · simp only [List.getElem_toArray, List.getElem_cons_succ, List.getElem_cons_zero]
                      go_simp
                      refine hK.out _ _ (unhide HCy _ (hbl.setCell (by exact hgx) _)) (fun _ => ?_)
                      clear hK K
                      try simp only [Act.put, List.setIfInBounds_toArray, List.set_cons_zero, List.set_cons_succ]
                      refine wpAnyG_done (by kernel_rfl) ?_ _
                      refine NoPanic.normal ?_
                      go_wp2
                      go_meet
                      exact ⟨zl, hide ⟨own_setCell hxl y zl, hbl.setCell (by exact hgx) _⟩⟩
                    exact AllReadyG.nil
                  exact AllReadyG.nil
                exact AllReadyG.nil
              refine AllReadyG.cons 27 (by rfl) (fun K hK => ?_) ?_
              · simp only [List.getElem_toArray, List.getElem_cons_succ, List.getElem_cons_zero]
                go_simp
                go_at_call 10
                refine (unhide HWtz _).mono ?_
                rintro e wc5 ⟨rfl, hlc5⟩
                have hlc5' := hlc5.symm
                clear hlc5
                subst hlc5'
                refine hK.out _ _ (unhide HCy _ hbq) (fun _ => ?_)
                clear hK K
                try simp only [Act.put, List.setIfInBounds_toArray, List.set_cons_zero, List.set_cons_succ]
                refine wpAnyG_ready [25] (by kernel_rfl) (by simp) ?_
                refine AllReadyG.cons 25 (by rfl) (fun K hK => ?_) ?_
                · simp only [List.getElem_toArray, List.getElem_cons_succ, List.getElem_cons_zero]
                  go_simp
                  refine hK.out _ _ (unhide HCy _ (hbq.alloc hbq.size _)) (fun _ => ?_)
                  clear hK K
                  try simp only [Act.put, List.setIfInBounds_toArray, List.set_cons_zero, List.set_cons_succ]
                  have hbl : Below w4.heap.size w4 (wq.alloc (.cells #[.int .i64 0, .int .i64 (-1), .int .i64 1152921504606846976, .int .i64 v, .int .i64 V4, .int .i64 V5, .int .i64 dy] 3)) := hbq.alloc hbq.size _
                  have hxl : OwnI (wq.alloc (.cells #[.int .i64 0, .int .i64 (-1), .int .i64 1152921504606846976, .int .i64 v, .int .i64 V4, .int .i64 V5, .int .i64 dy] 3)) w4.heap.size (.slice (some ⟨gx, 0, none⟩) N xc) R := World.ownsRow.alloc hx _
                  obtain ⟨gl, hgl⟩ : ∃ g, g = wq.heap.size := ⟨_, rfl⟩
                  have hL : (wq.alloc (.cells #[.int .i64 0, .int .i64 (-1), .int .i64 1152921504606846976, .int .i64 v, .int .i64 V4, .int .i64 V5, .int .i64 dy] 3)).heap[gl]? = some (.cells #[.int .i64 0, .int .i64 (-1), .int .i64 1152921504606846976, .int .i64 v, .int .i64 V4, .int .i64 V5, .int .i64 dy] 3) := by rw [hgl]; exact heap_alloc_new wq _
                  have kl : (wq.alloc (.cells #[.int .i64 0, .int .i64 (-1), .int .i64 1152921504606846976, .int .i64 v, .int .i64 V4, .int .i64 V5, .int .i64 dy] 3)).cell? ⟨gl, z, none⟩ = some (.int .i64 zl) := by rw [cell_of_row _ _ _ _ _ _ hL]; exact hzl
                  try rw [← hgl]
                  clear hL hgl
                  generalize (wq.alloc (.cells #[.int .i64 0, .int .i64 (-1), .int .i64 1152921504606846976, .int .i64 v, .int .i64 V4, .int .i64 V5, .int .i64 dy] 3)) = wl at *
                  refine wpAnyG_take (v := ?_) 28 (by rfl) (by kernel_rfl) (by kernel_rfl) (by kernel_rfl) (by kernel_rfl) (fun _ _ _ h => h) (Or.inl ⟨by rfl, ?_⟩) (by assumption) ?_
                  rotate_left
                  · (intro w' hSw; (try dsimp only at hSw); (try simp only [List.getElem_toArray, List.getElem_cons_succ, List.getElem_cons_zero]); go_simp; try (with_reducible rfl))
                  simp only [Act.put, List.getElem_toArray, List.getElem_cons_succ, List.getElem_cons_zero, List.setIfInBounds_toArray, List.set_cons_zero, List.set_cons_succ]
                  refine wpAnyG_ready [29] (by kernel_rfl) (by simp) ?_
                  refine AllReadyG.cons 29 (by rfl) (fun K hK => ?_) ?_
                  · simp only [List.getElem_toArray, List.getElem_cons_succ, List.getElem_cons_zero]
                    go_simp
                    refine hK.out _ _ (unhide HCy _ hbl) (fun _ => ?_)
                    clear hK K
                    try simp only [Act.put, List.setIfInBounds_toArray, List.set_cons_zero, List.set_cons_succ]
                    have kc := own_cell hxl y (by rw [hRl]; exact hyN)
                    have fc := own_frozen hxl y
                    refine wpAnyG_take (v := ?_) 30 (by rfl) (by kernel_rfl) (by kernel_rfl) (by kernel_rfl) (by kernel_rfl) (fun _ _ _ h => h) (Or.inl ⟨by rfl, ?_⟩) (by assumption) ?_
                    rotate_left
                    · (intro w' hSw; (try dsimp only at hSw); (try simp only [List.getElem_toArray, List.getElem_cons_succ, List.getElem_cons_zero]); go_simp; try (with_reducible rfl))
                    simp only [Act.put, List.getElem_toArray, List.getElem_cons_succ, List.getElem_cons_zero, List.setIfInBounds_toArray, List.set_cons_zero, List.set_cons_succ]
                    refine wpAnyG_ready [31] (by kernel_rfl) (by simp) ?_
                    refine AllReadyG.cons 31 (by rfl) (fun K hK => ?_) ?_
                    · simp only [List.getElem_toArray, List.getElem_cons_succ, List.getElem_cons_zero]
                      go_simp
                      refine hK.out _ _ (unhide HCy _ (hbl.setCell (by exact hgx) _)) (fun _ => ?_)
                      clear hK K
                      try simp only [Act.put, List.setIfInBounds_toArray, List.set_cons_zero, List.set_cons_succ]
                      refine wpAnyG_done (by kernel_rfl) ?_ _
                      refine NoPanic.normal ?_
                      go_wp2
                      go_meet
                      exact ⟨zl, hide ⟨own_setCell hxl y zl, hbl.setCell (by exact hgx) _⟩⟩
                    exact AllReadyG.nil
                  exact AllReadyG.nil
                exact AllReadyG.nil
              exact AllReadyG.nil
            exact AllReadyG.nil
          exact AllReadyG.nil
        exact AllReadyG.nil
      exact AllReadyG.nil
    case rest =>
      obtain ⟨zl2, HZ⟩ := hcut
      have HT : Hid (∀ w', Below w4.heap.size w4 w' → Below w3.heap.size w3 w') := hide fun w' hb => (unhide HB4).trans (hb.mono (unhide HB4).size)
      obtain ⟨E, hE⟩ : ∃ E, R.set y zl2 = E := ⟨_, rfl⟩
      rw [hE] at HZ
      have hEl : E.length = N := by rw [← hE]; simp [hRl]
      have HBc := hide (unhide HZ).2
      have HEs : Hid (∀ w', Below w4.heap.size w4 w' ∧ Below wc.heap.size wc w' → Ints w' (.slice (some ⟨gx, 0, none⟩) N xc) E) := hide fun w' hb => (OwnI.ints (unhide HZ).1).below hb.2
      obtain ⟨b, hb⟩ : ∃ b, decide (E = R) = b := ⟨_, rfl⟩
      have HBe : Hid (decide (R = E) = b) := hide (by rw [← hb]; exact decide_eq_decide.2 ⟨Eq.symm, Eq.symm⟩)
      have HbE : Hid (Sp.rightB L x N E = b) := hide (by rw [unhide HYes, hb])
      have HbR : Hid (Sp.rightB L x N R = true) := hide (by rw [unhide HYes, decide_eq_true rfl])
      have HbA : Hid (Sp.rightB L x N (R ++ [0]) = false) := hide (by
        rw [unhide HYes, decide_eq_false]
        intro e
        have := congrArg List.length e
        simp at this)
      obtain ⟨c, hc⟩ : ∃ c, Sp.rightB L x N raw = c := ⟨_, rfl⟩
      have Hc := hide hc
      have hbb : (b == b) = true := by simp
      have hcc : (c == c) = true := by simp
      clear hb hE HZ hc hx7 hb7 hzl hV4 hV5 HWty HWtz HYes HCy
      have HC11 : Hid (Calls Try.prog 15 #[.int .i64 (N : Int), .slice la L.length lc, .int .i64 (x : Int), .slice (some ⟨G, 0, none⟩) N N] wc fun e w'' => e = .returned (.bool true) ∧ Below wc.heap.size wc w'') := hide (by
        have h := unhide HRg wc _ _ (unhide HT _ (unhide HBc)) (unhide HD4 _ (unhide HBc)) (by omega)
        rw [unhide HbR] at h; exact h)
      go_wp2_with fail
      go_at_call 15
      refine (unhide HC11).mono ?_
      rintro e wd ⟨rfl, hb11⟩
      have HX0 := hide hb11
      have HB11 := hide ((unhide HBc).trans (hb11.mono (unhide HBc).size))
      clear hb11 HC11
      have HC12 : Hid (Calls Try.prog 15 #[.int .i64 (N : Int), .slice la L.length lc, .int .i64 (x : Int), .slice (some ⟨gx, 0, none⟩) N xc] wd fun e w'' => e = .returned (.bool b) ∧ Below wd.heap.size wd w'') := hide (by
        have h := unhide HRg wd _ _ (unhide HT _ (unhide HB11)) (unhide HEs _ ⟨unhide HB11, unhide HX0⟩) (by omega)
        rw [unhide HbE] at h; exact h)
      go_wp2_with fail
      go_at_call 15
      refine (unhide HC12).mono ?_
      rintro e we ⟨rfl, hb12⟩
      have HX1 := hide ((unhide HX0).trans (hb12.mono (unhide HX0).size))
      have HB12 := hide ((unhide HB11).trans (hb12.mono (unhide HB11).size))
      clear hb12 HC12
      have HC13 := hide (ints6_any R E _ _ we (unhide HD4 _ (unhide HB12)) (unhide HEs _ ⟨unhide HB12, unhide HX1⟩) (by omega))
      rw [unhide HBe] at HC13
      go_wp2_with fail
      go_at_call 13
      refine (unhide HC13).mono ?_
      rintro e wf ⟨rfl, hb13⟩
      have HB13 := hide ((unhide HB12).trans (hb13.mono (unhide HB12).size))
      clear hb13 HC13
      clear HX0 HX1 HEs HBe HbE HbR
      have HC14 : Hid (Calls Try.prog 15 #[.int .i64 (N : Int), .slice la L.length lc, .int .i64 (x : Int), .slice ra raw.length rc] wf fun e w'' => e = .returned (.bool c) ∧ Below wf.heap.size wf w'') := hide (by
        have h := unhide HRg wf _ _ (unhide HT _ (unhide HB13)) (unhide HRa _ (unhide HA3 _ (unhide HT _ (unhide HB13))).2) (by omega)
        rw [unhide Hc] at h; exact h)
      go_wp2_with fail
      go_at_call 15
      refine (unhide HC14).mono ?_
      rintro e wg ⟨rfl, hb14⟩
      have HB14 := hide ((unhide HB13).trans (hb14.mono (unhide HB13).size))
      clear hb14 HC14
      have HC15 : Hid (Calls Try.prog 19 #[.int .i64 (N : Int), .slice la L.length lc, .int .i64 (x : Int), .slice ra raw.length rc] wg fun e w'' => e = .returned (.bool c) ∧ Below wg.heap.size wg w'') := hide (by
        have h := unhide HRr wg _ _ (unhide HT _ (unhide HB14)) (unhide HRa _ (unhide HA3 _ (unhide HT _ (unhide HB14))).2)
        rw [unhide Hc] at h; exact h)
      go_wp2_with fail
      go_at_call 19
      refine (unhide HC15).mono ?_
      rintro e wh ⟨rfl, hb15⟩
      have HB15 := hide ((unhide HB14).trans (hb15.mono (unhide HB14).size))
      clear hb15 HC15
      have hOd : OwnI wh w3.heap.size (.slice (some ⟨G, 0, none⟩) N N) R := by
        rw [unhide HRD]; exact ((unhide HR4).below (unhide HB15)).own hG (by omega)
      have HOd := hide hOd
      clear hOd
      go_wp2_with (at_builtin; refine wpList_appG (w := wh.alloc (.cells #[.int .i64 0] 3)) (by rfl) _ _ rfl w3.heap.size _ _ R [0] rfl rfl (World.ownsRow.alloc (unhide HOd) _) (OwnI.ints (own_lit wh 0 _ 1 [0] rfl rfl (Nat.zero_le _) (by simp))) (N + 1) (by rw [hRl]; simp) (by omega) (by have := (unhide HT _ (unhide HB15)).size; simp; omega) ?_)
      rintro a5 c5 wi hoi hbi -
      have HBi : Hid (Below w3.heap.size w3 wi) := hide (((unhide HT _ (unhide HB15)).alloc (unhide HT _ (unhide HB15)).size _).trans hbi)
      have HC16 : Hid (Calls Try.prog 15 #[.int .i64 (N : Int), .slice la L.length lc, .int .i64 (x : Int), .slice a5 (N + 1) c5] wi fun e w'' => e = .returned (.bool false) ∧ Below wi.heap.size wi w'') := hide (by
        have h := unhide HRg wi _ _ (unhide HBi) (OwnI.ints hoi) (by simp; omega)
        rw [unhide HbA] at h; exact h)
      go_wp2_with fail
      go_at_call 15
      refine (unhide HC16).mono ?_
      rintro e wj ⟨rfl, hb16⟩
      have HB16 := hide ((unhide HBi).trans (hb16.mono (unhide HBi).size))
      clear hb16 HC16 hoi hbi HOd
      go_wp2
      rw [unhide HP]
      exact ⟨rfl, (unhide HA3 _ (unhide HB16)).2⟩
  · have hno2 : ¬ ∃ D, Sp.Short 1152921504606846976 L x N D := by
      rcases unhide HK2 with h | h
      · exact absurd h hno
      · exact h.2
    have HNo := hide fun l => Sp.rightB_no hno2 l
    have HB4 := hide hb4
    clear hb4 hno hno2 HAn HSn HK2 HWty
    go_wp2_with (at_make; refine wpList_mk rfl _ _ rfl w4.heap.size N rfl rfl (by omega) (Nat.le_refl _) ?_)
    intro w5 ho5 hb5 _
    have HB5 := hide ((unhide HB4).trans (hb5.mono (unhide HB4).size))
    have HC5 : Hid (Calls Try.prog 15 #[.int .i64 (N : Int), .slice la L.length lc, .int .i64 (x : Int), .slice (some ⟨w4.heap.size, 0, none⟩) N N] w5 fun e w'' => e = .returned (.bool false) ∧ Below w5.heap.size w5 w'') := hide (by
      have h := unhide HRg w5 _ _ (unhide HB5) (OwnI.ints ho5) (by simp; omega)
      rw [unhide HNo] at h; exact h)
    clear ho5 hb5 HB4
    go_wp2_with fail
    go_at_call 15
    refine (unhide HC5).mono ?_
    rintro e w6 ⟨rfl, hb6⟩
    have HB6 := hide ((unhide HB5).trans (hb6.mono (unhide HB5).size))
    have HC6 : Hid (Calls Try.prog 15 #[.int .i64 (N : Int), .slice la L.length lc, .int .i64 (x : Int), .slice ra raw.length rc] w6 fun e w'' => e = .returned (.bool false) ∧ Below w6.heap.size w6 w'') := hide (by
      have h := unhide HRg w6 _ _ (unhide HB6) (unhide HRa w6 (unhide HA3 w6 (unhide HB6)).2) (by omega)
      rw [unhide HNo] at h; exact h)
    clear hb6 HB5 HC5
    go_wp2_with fail
    go_at_call 15
    refine (unhide HC6).mono ?_
    rintro e w7 ⟨rfl, hb7⟩
    have HB7 := hide ((unhide HB6).trans (hb7.mono (unhide HB6).size))
    have HC7 : Hid (Calls Try.prog 19 #[.int .i64 (N : Int), .slice la L.length lc, .int .i64 (x : Int), .slice ra raw.length rc] w7 fun e w'' => e = .returned (.bool false) ∧ Below w7.heap.size w7 w'') := hide (by
      have h := unhide HRr w7 _ _ (unhide HB7) (unhide HRa w7 (unhide HA3 w7 (unhide HB7)).2)
      rw [unhide HNo] at h; exact h)
    clear hb7 HB6 HC6
    go_wp2_with fail
    go_at_call 19
    refine (unhide HC7).mono ?_
    rintro e w8 ⟨rfl, hb8⟩
    have HB8 := hide ((unhide HB7).trans (hb8.mono (unhide HB7).size))
    clear hb8 HB7 HC7
    go_wp2
    rw [unhide HP]
    exact ⟨rfl, (unhide HA3 _ (unhide HB8)).2⟩
end Go.Proofs.Ytggjpglakocilaa


