/- What the proof needs, part 3. -/
import Derived.Test.YtohfmohkaaidpaaL2
/- Package link: New; the law's within; two forests are the same. -/
namespace Go.Proofs.Ytohfmohkaaidpaa
open Go Go.RowKit

theorem tmod_casesK (a n : Int) (hn : 0 < n) : (a.tmod n < 0 ∧ a.tmod n + n = a % n) ∨ (0 ≤ a.tmod n ∧ a.tmod n = a % n) := by
  have h0 : 0 ≤ a % n := Int.emod_nonneg a (by omega)
  have h1 : a % n < n := Int.emod_lt_of_pos a hn
  have e := Int.tmod_eq_emod (a := a) (b := n)
  split at e
  · right; omega
  · left
    have : ((n.natAbs : Nat) : Int) = n := by omega
    omega
theorem ret_intK {k : IntKind} {a b : Int} (h : a = b) : Ending.returned (.int k a) = .returned (.int k b) := by rw [h]
theorem Sp.fo_new (n : Nat) : Sp.Fo n (fun _ => -1) := ⟨fun _ => 0, fun _ _ => .inl rfl⟩
set_option maxRecDepth 100000 in
set_option maxHeartbeats 2000000 in
theorem lknew_any (n : Nat) (w : World) (hn1 : 1 ≤ n) (hn : n ≤ 60) :
    Calls Try.prog 11 #[.int .i64 (n : Int)] w fun e w' => ∃ f g, e = .returned (.pointer (some ⟨f, 0, none⟩)) ∧ LkP w' f g n (fun _ => -1) (fun _ => 0) ∧ Below w.heap.size w w' ∧ w.heap.size ≤ f ∧ w.heap.size ≤ g := by
  obtain ⟨W1, hW1⟩ : ∃ W1, W1 = w.alloc (.cells #[.int .i64 (-1), .int .i64 0] 50) := ⟨_, rfl⟩
  have hb1 : Below w.heap.size w W1 := by rw [hW1]; exact (Below.refl _ w).alloc (Nat.le_refl _) _
  have hz1 : W1.heap.size = w.heap.size + 1 := by rw [hW1]; simp
  have hc1 : W1.heap[w.heap.size]? = some (.cells #[.int .i64 (-1), .int .i64 0] 50) := by rw [hW1]; exact heap_alloc_new w _
  obtain ⟨c0, c1, -⟩ := edge_cells hc1
  have HC := hide (repeatEd_any (-1) 0 w.heap.size n W1 hn1 hn c0 c1 (by omega))
  have HB := hide (And.intro hb1 hz1)
  have hm1 : max (n : Int) 0 = (n : Int) := by omega
  have hm2 : min (n : Int) 300 = (n : Int) := by omega
  have hnI : (0 : Int) ≤ (n : Int) := by omega
  have hn3 : (n : Int) ≤ 300 := by omega
  obtain ⟨P, hP⟩ : ∃ P : Ending → World → Prop, P = fun e w' => ∃ f g, e = .returned (.pointer (some ⟨f, 0, none⟩)) ∧ LkP w' f g n (fun _ => -1) (fun _ => 0) ∧ Below w.heap.size w w' ∧ w.heap.size ≤ f ∧ w.heap.size ≤ g := ⟨_, rfl⟩
  rw [← hP]
  have HP := hide hP
  clear hP hb1 hz1 hc1 c0 c1
  go_enter Try.func11, Try.ntmps11
  go_wp2_with fail
  all_goals try omega
  go_at_call 25
  rw [← hW1]
  refine (unhide HC).mono ?_
  rintro e w2 ⟨rfl, hr2, hb2⟩
  have hgl := hr2.lt
  have HQ : Hid (LkP (w2.alloc (.cells #[.slice (some ⟨W1.heap.size, 0, none⟩) n n] 52)) w2.heap.size W1.heap.size n (fun _ => -1) (fun _ => 0) ∧ Below w.heap.size w (w2.alloc (.cells #[.slice (some ⟨W1.heap.size, 0, none⟩) n n] 52)) ∧ w.heap.size ≤ w2.heap.size ∧ w.heap.size ≤ W1.heap.size) := hide (by
    have hbb := (unhide HB).1.trans (hb2.mono (unhide HB).1.size)
    refine ⟨⟨heap_alloc_new w2 _, (hr2.alloc _).congr fun j hj => ?_, by omega⟩, hbb.alloc hbb.size _, hbb.size, (unhide HB).1.size⟩
    unfold Sp.repEd Sp.ed
    rw [if_pos hj])
  clear hr2 hb2 hgl HB HC hW1
  go_wp2
  rw [unhide HP]
  exact ⟨_, _, rfl, unhide HQ⟩
set_option maxRecDepth 100000 in
set_option maxHeartbeats 1000000 in
theorem within7_any (a n : Int) (w : World) (hn : 0 < n) (hn1 : n ≤ 4611686018427387904) :
    Calls Try.prog 10 #[.int .i64 a, .int .i64 n] w fun e w' => e = .returned (.int .i64 (a % n)) ∧ w' = w := by
  have h0 : 0 ≤ a % n := Int.emod_nonneg a (by omega)
  have h1 : a % n < n := Int.emod_lt_of_pos a hn
  rcases tmod_casesK a n hn with ⟨ha, hb⟩ | ⟨ha, hb⟩
  · have hc : -n ≤ a.tmod n := by omega
    have Hb := hide hb; clear hb h0 h1
    go_enter Try.func10, Try.ntmps10
    go_wp2
    go_ret
    exact ⟨ret_intK (unhide Hb), rfl⟩
  · have Hb := hide hb; clear hb h0 h1
    go_enter Try.func10, Try.ntmps10
    go_wp2
    go_ret
    exact ⟨ret_intK (unhide Hb), rfl⟩
end Go.Proofs.Ytohfmohkaaidpaa


/- The law's step: one on both forests, answered the same. -/
namespace Go.Proofs.Ytohfmohkaaidpaa
open Go Go.RowKit

/-- Both forests, of the same state. -/
structure LkB (w : World) (f g x o c n co cw : Nat) (U W : Nat → Int) : Prop where
  p : LkP w f g n U W
  r : LkR w x o c n co cw U W
  gx : g ≠ x
  go_ : g ≠ o
  gc : g ≠ c
  fo_ : f ≠ o
  fc : f ≠ c
  fo : Sp.Fo n U
theorem LkB.bt {p : Nat → Prop} {w w' : World} {f g x o c n co cw : Nat} {U W : Nat → Int} (h : LkB w f g x o c n co cw U W) (hb : Bt p w w') (h1 : ¬ p f) (h2 : ¬ p g) (h3 : ¬ p x) (h4 : ¬ p o) (h5 : ¬ p c) : LkB w' f g x o c n co cw U W := ⟨h.p.bt hb h1 h2, h.r.bt hb h3 h4 h5, h.gx, h.go_, h.gc, h.fo_, h.fc, h.fo⟩
theorem LkB.below {w w' : World} {f g x o c n co cw : Nat} {U W : Nat → Int} (h : LkB w f g x o c n co cw U W) (hb : Below w.heap.size w w') : LkB w' f g x o c n co cw U W := ⟨h.p.below hb, h.r.below hb, h.gx, h.go_, h.gc, h.fo_, h.fc, h.fo⟩
end Go.Proofs.Ytohfmohkaaidpaa


/- The law's known: the chapter's example, and an edge. -/
namespace Go.Proofs.Ytohfmohkaaidpaa
open Go Go.RowKit

theorem Sp.lk_ok {n k j a : Nat} {U : Nat → Int} (hk : k < n) (hj : j < n) (hr : U k = -1) (ha : Sp.Rt U j a) (hne : a ≠ k) : Sp.lkE n U (k : Int) (j : Int) = 0 := by
  unfold Sp.lkE
  rw [if_pos ⟨Sp.hs_yes hk, Sp.hs_yes hj⟩, Sp.hg_root hr, if_neg (by decide), Sp.rt_is hj ha, if_neg (by omega)]
theorem Sp.lkU_ok {n k : Nat} {U : Nat → Int} {u : Int} (h : Sp.lkE n U (k : Int) u = 0) : Sp.lkU n U (k : Int) u = Sp.upd U k u := by
  unfold Sp.lkU; rw [if_pos h, Int.toNat_natCast]
theorem Sp.lkW_ok {n k : Nat} {U W : Nat → Int} {u x : Int} (h : Sp.lkE n U (k : Int) u = 0) : Sp.lkW n U W (k : Int) u x = Sp.upd W k x := by
  unfold Sp.lkW; rw [if_pos h, Int.toNat_natCast]
def Sp.kU1 : Nat → Int := Sp.upd (fun _ => -1) 0 1
def Sp.kU2 : Nat → Int := Sp.upd Sp.kU1 1 2
def Sp.kW1 : Nat → Int := Sp.upd (fun _ => 0) 0 5
def Sp.kW2 : Nat → Int := Sp.upd Sp.kW1 1 3
theorem Sp.kE1 : Sp.lkE 3 (fun _ => -1) 0 1 = 0 := Sp.lk_ok (k := 0) (j := 1) (a := 1) (by decide) (by decide) rfl ⟨0, rfl, rfl⟩ (by decide)
theorem Sp.kE2 : Sp.lkE 3 Sp.kU1 1 2 = 0 := Sp.lk_ok (k := 1) (j := 2) (a := 2) (by decide) (by decide) (by decide) ⟨0, rfl, by decide⟩ (by decide)
theorem Sp.kUU1 : Sp.lkU 3 (fun _ => -1) 0 1 = Sp.kU1 := Sp.lkU_ok (k := 0) Sp.kE1
theorem Sp.kWW1 : Sp.lkW 3 (fun _ => -1) (fun _ => 0) 0 1 5 = Sp.kW1 := Sp.lkW_ok (k := 0) Sp.kE1
theorem Sp.kUU2 : Sp.lkU 3 Sp.kU1 1 2 = Sp.kU2 := Sp.lkU_ok (k := 1) Sp.kE2
theorem Sp.kWW2 : Sp.lkW 3 Sp.kU1 Sp.kW1 1 2 3 = Sp.kW2 := Sp.lkW_ok (k := 1) Sp.kE2
theorem Sp.kfo1 : Sp.Fo 3 Sp.kU1 := by rw [← Sp.kUU1]; exact (Sp.fo_new 3).lk 0 1
theorem Sp.kfo2 : Sp.Fo 3 Sp.kU2 := by rw [← Sp.kUU2]; exact Sp.kfo1.lk 1 2
theorem Sp.kup : Sp.Upw Sp.kU2 2 0 2 := ⟨1, by decide, 2, by decide, rfl⟩
theorem Sp.kdp : Sp.dp Sp.kU2 0 = 2 := Sp.dp_is Sp.kup (by decide)
theorem Sp.kls : Sp.ls Sp.kU2 Sp.kW2 0 = 1 := by
  unfold Sp.ls
  rw [show ((0 : Int)).toNat = 0 from rfl, Sp.kdp]
  decide
theorem Sp.khg : Sp.hg 3 Sp.kU2 0 = true := by decide
theorem Sp.ktn : Sp.tn 3 Sp.kU2 Sp.kW2 0 = Sp.trn 3 Sp.kU2 Sp.kW2 0 (-1) 0 := by
  unfold Sp.tn
  rw [if_pos (by decide), show ((0 : Int)).toNat = 0 from rfl, Sp.kdp]
theorem Sp.krt : Sp.rt 3 (Sp.tn 3 Sp.kU2 Sp.kW2 0).1 2 = 0 := by
  have h := (Sp.trn_ok (W := Sp.kW2) (x := 0) (k := 2) (v := 0) (b := 2) (a := 0) (l := -1) ⟨Sp.kfo2, by decide, Sp.kup, by decide, .inl ⟨rfl, rfl⟩⟩).2
  rw [Sp.ktn]
  exact Sp.rt_is (v := 2) (a := 0) (by decide) h
theorem Sp.kup2 : (Sp.tn 3 Sp.kU2 Sp.kW2 0).1 2 = 1 := by rw [Sp.ktn]; decide
theorem Sp.khg2 : Sp.hg 3 (Sp.tn 3 Sp.kU2 Sp.kW2 0).1 2 = true := Sp.hg_yes (v := 2) (by decide) (by rw [Sp.kup2]; decide)
theorem Sp.krt2 : Sp.rt 2 (fun _ => -1) 1 = 1 := Sp.rt_is (v := 1) (a := 1) (by decide) ⟨0, rfl, rfl⟩
set_option maxRecDepth 100000 in
set_option maxHeartbeats 8000000 in
theorem known7_any (w : World) : Calls Try.prog 9 #[] w fun e w' => e = .returned (.bool true) ∧ Below w.heap.size w w' := by
  have HC1 := hide (lknew_any 3 w (by decide) (by decide))
  obtain ⟨P, hP⟩ : ∃ P : Ending → World → Prop, P = fun e w' => e = .returned (.bool true) ∧ Below w.heap.size w w' := ⟨_, rfl⟩
  rw [← hP]
  have HP := hide hP
  clear hP
  go_enter Try.func9, Try.ntmps9
  go_wp2_with fail
  go_at_call 11
  refine (unhide HC1).mono ?_
  rintro e w1 ⟨f, g, rfl, hp1, hb1, hf, hg⟩
  have HC2 := hide (lklink_any (Sp.fo_new 3) 0 1 5 w1 hp1)
  rw [Sp.kE1, Sp.kUU1, Sp.kWW1] at HC2
  have HB1 := hide hb1
  clear hp1 hb1 HC1
  go_wp2_with fail
  go_at_call 15
  refine (unhide HC2).mono ?_
  rintro e w2 ⟨rfl, hp2, hb2⟩
  have HB2 : Hid (Below w.heap.size w w2) := hide ((unhide HB1).trans (hb2.below (fun k e => by rw [e]; exact hg) (unhide HB1).size))
  have HC3 := hide (lklink_any Sp.kfo1 1 2 3 w2 hp2)
  rw [Sp.kE2, Sp.kUU2, Sp.kWW2] at HC3
  clear hp2 hb2 HC2 HB1
  go_wp2_with fail
  go_at_call 15
  refine (unhide HC3).mono ?_
  rintro e w3 ⟨rfl, hp3, hb3⟩
  have HB3 : Hid (Below w.heap.size w w3) := hide ((unhide HB2).trans (hb3.below (fun k e => by rw [e]; exact hg) (unhide HB2).size))
  have HC4 := hide (lkleast_any Sp.kfo2 0 w3 hp3)
  rw [Sp.khg, if_pos rfl, if_pos rfl, Sp.kls, show Sp.kW2 1 = 3 by decide] at HC4
  have HP3 := hide hp3
  clear hp3 hb3 HC3 HB2
  go_wp2_with fail
  go_at_call 23
  refine (unhide HC4).mono ?_
  rintro e w4 ⟨rfl, hb4⟩
  have HB4 := hide ((unhide HB3).trans (hb4.mono (unhide HB3).size))
  have HC5 := hide (lkturn_any Sp.kfo2 0 w4 ((unhide HP3).below hb4))
  rw [show Sp.hs 3 0 = true by decide] at HC5
  clear hb4 HC4 HB3 HP3
  go_wp2_with fail
  go_at_call 18
  refine (unhide HC5).mono ?_
  rintro e w5 ⟨rfl, hp5, hb5⟩
  have HB5 : Hid (Below w.heap.size w w5) := hide ((unhide HB4).trans (hb5.below (fun k e => by rw [e]; exact hg) (unhide HB4).size))
  have HC6 := hide (lkup_any 2 w5 hp5)
  rw [Sp.khg2, if_pos rfl, show ((2 : Int)).toNat = 2 from rfl, Sp.kup2] at HC6
  have HP5 := hide hp5
  clear hp5 hb5 HC5 HB4
  go_wp2_with fail
  go_at_call 21
  refine (unhide HC6).mono ?_
  rintro e w6 ⟨rfl, hw⟩
  have hw' := hw.symm
  subst hw'
  clear hw HC6
  have HC7 := hide (lknew_any 2 w5 (by decide) (by decide))
  go_wp2_with fail
  go_at_call 11
  refine (unhide HC7).mono ?_
  rintro e w7 ⟨f2, g2, rfl, hp7, hb7, hf7, hg7⟩
  have HC8 := hide (lkroot_any (Sp.fo_new 2) 1 w7 hp7)
  rw [Sp.krt2] at HC8
  have HC9 := hide (lkroot_any (Sp.kfo2.tn Sp.kW2 0) 2 w7 ((unhide HP5).below hb7))
  rw [Sp.krt] at HC9
  have HE := hide ((unhide HB5).trans (hb7.mono (unhide HB5).size))
  clear hp7 hb7 HC7 HB5
  go_wp2_with fail
  go_at_call 17
  refine (unhide HC8).mono ?_
  rintro e w8 ⟨rfl, hw⟩
  have hw' := hw.symm
  subst hw'
  clear hw HC8
  go_wp2_with fail
  go_at_call 17
  refine (unhide HC9).mono ?_
  rintro e w9 ⟨rfl, hw⟩
  have hw' := hw.symm
  subst hw'
  clear hw HC9
  go_wp2
  rw [unhide HP]
  exact ⟨rfl, unhide HE⟩
end Go.Proofs.Ytohfmohkaaidpaa


/- Package link: New of any number. -/
namespace Go.Proofs.Ytohfmohkaaidpaa
open Go Go.RowKit

theorem and_maskK : ∀ d : Fin 1001, bits .and .u64 ((d.val : Nat) : Int) 4294967295 = ((d.val : Nat) : Int) := by decide +kernel
set_option maxRecDepth 100000 in
set_option maxHeartbeats 1000000 in
theorem mulK64_any (N : Nat) (w : World) (hN : N ≤ 1000) :
    Calls Try.prog 37 #[.int .u64 1, .int .u64 (N : Int)] w fun e w' => e = .returned (.tuple #[.int .u64 0, .int .u64 (N : Int)]) ∧ w' = w := by
  have h1 := and_maskK ⟨N, by omega⟩
  simp only at h1
  have h2 : bits .and .u64 1 4294967295 = 1 := by decide +kernel
  have h3 : bits .and .u64 0 4294967295 = 0 := by decide +kernel
  have h4 : (N : Int) / 4294967296 = 0 := by omega
  have h5 : IntKind.u64.wrap (N : Int) = (N : Int) := by simp [IntKind.wrap, IntKind.bits]; omega
  have h6 : IntKind.u64.wrap 0 = 0 := by decide +kernel
  obtain ⟨P, hP⟩ : ∃ P : Ending → World → Prop, P = fun e w' => e = .returned (.tuple #[.int .u64 0, .int .u64 (N : Int)]) ∧ w' = w := ⟨_, rfl⟩
  rw [← hP]
  have HP := hide hP
  clear hP
  go_enter Try.func37, Try.ntmps37
  go_wp2
  rw [unhide HP]
  exact ⟨rfl, rfl⟩
set_option maxRecDepth 100000 in
set_option maxHeartbeats 1000000 in
theorem mulK_any (N : Nat) (w : World) (hN : N ≤ 1000) :
    Calls Try.prog 35 #[.int .u64 1, .int .u64 (N : Int)] w fun e w' => e = .returned (.tuple #[.int .u64 0, .int .u64 (N : Int)]) ∧ w' = w := by
  have HC := hide (mulK64_any N w hN)
  obtain ⟨P, hP⟩ : ∃ P : Ending → World → Prop, P = fun e w' => e = .returned (.tuple #[.int .u64 0, .int .u64 (N : Int)]) ∧ w' = w := ⟨_, rfl⟩
  rw [← hP]
  have HP := hide hP
  clear hP
  go_enter Try.func35, Try.ntmps35
  go_wp2_with fail
  go_at_call 37
  refine (unhide HC).mono ?_
  rintro e w' ⟨rfl, rfl⟩
  go_wp2
  rw [unhide HP]
  exact ⟨rfl, rfl⟩
set_option maxRecDepth 100000 in
set_option maxHeartbeats 2000000 in
theorem repeatEdK_any (x0 x1 : Int) (xb N : Nat) (w : World) (hN1 : 1 ≤ N) (hN : N ≤ 300) (hc0 : w.cell? ⟨xb, 0, none⟩ = some (.int .i64 x0)) (hc1 : w.cell? ⟨xb, 1, none⟩ = some (.int .i64 x1)) (hxb : xb < w.heap.size) :
    Calls Try.prog 25 #[.slice (some ⟨xb, 0, none⟩) 1 1, .int .i64 (N : Int)] w fun e w' => e = .returned (.slice (some ⟨w.heap.size, 0, none⟩) N N) ∧ EdAt w' w.heap.size (N * 2) (Sp.repEd x0 x1 N) ∧ Below w.heap.size w w' := by
  obtain ⟨iS, hiS, hS0, hS1, hS2⟩ := infoEd_parts
  have HC := hide (mulK_any N w (by omega))
  have Hc := hide (And.intro hc0 hc1)
  clear hc0 hc1
  have h5 : IntKind.u64.wrap (N : Int) = (N : Int) := by simp [IntKind.wrap, IntKind.bits]; omega
  go_enter Try.func25, Try.ntmps25
  go_wp2_with fail
  go_at_call 35
  refine (unhide HC).mono ?_
  clear HC
  rintro e w' ⟨rfl, rfl⟩
  go_wp2_with (at_make; refine wpList_make_full _ rfl _ _ 47 rfl w'.heap.size 50 iS (.agg #[.int .i64 0, .int .i64 0]) 2 Try.underlying47 hiS hS0 hS1 .i64 .i64 _ _ N rfl rfl rfl rfl (by rw [hS2]; omega) (by unfold maxLen; omega) (Nat.le_refl _) ?_)
  intro w3 hown3 hg3
  have hb3 : Below w'.heap.size w' w3 := (Below.refl _ w').grown hg3 (Nat.le_refl _) (by simp)
  have hz3 : EdAt w3 w'.heap.size (N * 2) (Sp.repEd x0 x1 0) := by
    rcases hown3.2 with ⟨-, h0⟩ | ⟨g, cap, cur, e, -, hc, h1, -, h3, h4⟩
    · omega
    · injection e with e1 _ e2
      injection e1 with e1
      injection e1 with e1
      subst e1 e2
      refine ⟨cur, hc, by omega, fun j hj => ?_⟩
      have hlen : cur.toList.length ≤ N * 2 := by simp [h3]
      rw [List.take_of_length_le hlen] at h4
      rw [← Array.getElem?_toList, h4, Array.getElem?_toList]
      show (madeCells #[.int .i64 0, .int .i64 0] (N * 2))[j]? = _
      rw [made_same #[.int .i64 0, .int .i64 0] (.int .i64 0) (by decide) (fun i hi => by rcases i with _ | _ | i <;> first | rfl | (simp at hi; omega)) _ _ hj]
      simp [Sp.repEd]
  have hcur := hz3
  obtain ⟨cur, hcu, hsu, -⟩ := hcur
  have h1 := run_copyEd w3 w'.heap.size 0 N N ⟨xb, 0, none⟩ 1 1 cur [.int .i64 x0, .int .i64 x1] hcu (by simp [show Nat.min 1 N = 1 from Nat.min_eq_left hN1]) (fun j v hj => by
    rcases j with _ | _ | j
    · simp at hj; subst hj; rw [Addr.add_lit]; exact (hb3.cell (by exact hxb)).trans (unhide Hc).1
    · simp at hj; subst hj; rw [Addr.add_lit]; exact (hb3.cell (by exact hxb)).trans (unhide Hc).2
    · simp at hj) (by simp; omega) (by simp [Value.oneCell'])
  have h2 := hz3.row (k := 2) (o := 0) (z := fun j => if j = 0 then x0 else x1) [.int .i64 x0, .int .i64 x1] rfl (fun j hj => by
    rcases j with _ | _ | j
    · rfl
    · rfl
    · omega) (by omega) cur hcu
  rw [show Nat.min 1 N = 1 from Nat.min_eq_left hN1] at h1
  have hB4 := below_setRow hb3 (Nat.le_refl _) (cur.toList.take 0 ++ [Value.int .i64 x0, .int .i64 x1] ++ cur.toList.drop (0 + [Value.int .i64 x0, .int .i64 x1].length)).toArray
  generalize w3.setRow w'.heap.size (cur.toList.take 0 ++ [Value.int .i64 x0, .int .i64 x1] ++ cur.toList.drop (0 + [Value.int .i64 x0, .int .i64 x1].length)).toArray = w4 at *
  have HQ4 : Hid (EdAt w4 w'.heap.size (N * 2) (Sp.repEd x0 x1 1) ∧ Below w'.heap.size w' w4) := hide ⟨h2.congr fun j hj => by
    unfold Sp.repEd
    rcases j with _ | _ | j
    · simp
    · simp
    · simp only [Nat.zero_le, true_and, Nat.zero_add]
      rw [if_neg (by omega), if_neg (by omega), if_neg (by omega)], hB4⟩
  clear h2 hB4 hz3 hb3 hown3 hg3 hcu hsu Hc
  go_wp2
  go_loopg [8] N (fun g i wr => ∃ m : Nat, 1 ≤ m ∧ m ≤ N ∧ N - m ≤ g ∧ i = .int .i64 (m : Int) ∧ Hid (EdAt wr w'.heap.size (N * 2) (Sp.repEd x0 x1 m) ∧ Below w'.heap.size w' wr))
  case atStart => exact ⟨1, by omega, by omega, by omega, rfl, HQ4⟩
  case round =>
    clear HQ4 h1
    obtain ⟨m, hm1, hmN, hmg, rfl, HI⟩ := hrel
    by_cases hlt : m < N
    · have hltI : (m : Int) < (N : Int) := by omega
      obtain ⟨c, hc⟩ : ∃ c, c = min m (N - m) := ⟨_, rfl⟩
      obtain ⟨w5, hrun, hown4, hb4⟩ := run_copy_repEd wr.drew w'.heap.size w'.heap.size m N x0 x1 hlt (Nat.le_refl _) (unhide HI).1.drew
      rw [← hc] at hrun hown4
      have HO4 : Hid (EdAt w5 w'.heap.size (N * 2) (Sp.repEd x0 x1 (m + c)) ∧ Below w'.heap.size w' w5) := hide ⟨hown4, (unhide HI).2.drew.trans hb4⟩
      have Hc := hide hc
      have hne1 : ¬ N = m := by omega
      have hcb : c ≤ N - m := by omega
      have hc1 : 1 ≤ c := by omega
      clear hown4 hb4 hc
      go_wp2
      go_region
      go_wp2
      go_roundg (N - (m + c))
      case rel => exact ⟨m + c, by omega, by omega, by omega, by go_num, HO4⟩
      case measure => omega
    · obtain rfl : m = N := by omega
      go_wp2
      go_ret
      exact ⟨rfl, (unhide HI).1, (unhide HI).2⟩
set_option maxRecDepth 100000 in
set_option maxHeartbeats 2000000 in
theorem repeatEd0_any (x0 x1 : Int) (xb : Nat) (w : World) (hc0 : w.cell? ⟨xb, 0, none⟩ = some (.int .i64 x0)) (hc1 : w.cell? ⟨xb, 1, none⟩ = some (.int .i64 x1)) (hxb : xb < w.heap.size) :
    Calls Try.prog 25 #[.slice (some ⟨xb, 0, none⟩) 1 1, .int .i64 0] w fun e w' => e = .returned (.slice (some ⟨w.heap.size, 0, none⟩) 0 0) ∧ EdAt w' w.heap.size 0 (Sp.repEd x0 x1 0) ∧ Below w.heap.size w w' := by
  obtain ⟨iS, hiS, hS0, hS1, hS2⟩ := infoEd_parts
  have HC := hide (mulK_any 0 w (by omega))
  go_enter Try.func25, Try.ntmps25
  go_wp2_with fail
  go_at_call 35
  refine (unhide HC).mono ?_
  clear HC
  rintro e w' ⟨rfl, rfl⟩
  go_wp2_with (at_make; refine wpList_make_full _ rfl _ _ 47 rfl w'.heap.size 50 iS (.agg #[.int .i64 0, .int .i64 0]) 2 Try.underlying47 hiS hS0 hS1 .i64 .i64 _ _ 0 rfl rfl rfl rfl (by rw [hS2]; omega) (by unfold maxLen; omega) (Nat.le_refl _) ?_)
  intro w3 hown3 hg3
  have hb3 : Below w'.heap.size w' w3 := (Below.refl _ w').grown hg3 (Nat.le_refl _) (by simp)
  obtain ⟨cur, hcu, hsu⟩ : ∃ cur, w3.heap[w'.heap.size]? = some (.cells cur 50) ∧ cur.size = 0 := by
    rcases hown3.2 with ⟨e, -⟩ | ⟨g, cap, cur, e, -, hc, h1, -, h3, h4⟩
    · cases e
    · injection e with e1 _ e2
      injection e1 with e1
      injection e1 with e1
      subst e1 e2
      exact ⟨cur, hc, by omega⟩
  have h1 := run_copyEd w3 w'.heap.size 0 0 0 ⟨xb, 0, none⟩ 1 1 cur [] hcu (by simp) (fun j v hj => by simp at hj) (by simp) (by simp)
  have hB4 := below_setRow hb3 (Nat.le_refl _) (cur.toList.take 0 ++ ([] : List Value) ++ cur.toList.drop (0 + ([] : List Value).length)).toArray
  have hz4 : EdAt (w3.setRow w'.heap.size (cur.toList.take 0 ++ ([] : List Value) ++ cur.toList.drop (0 + ([] : List Value).length)).toArray) w'.heap.size 0 (Sp.repEd x0 x1 0) := ⟨_, setRow_heap w3 _ _ _ _ _ hcu, by simp [hsu], fun j hj => by omega⟩
  rw [show Nat.min 1 0 = 0 from rfl] at h1
  generalize w3.setRow w'.heap.size (cur.toList.take 0 ++ ([] : List Value) ++ cur.toList.drop (0 + ([] : List Value).length)).toArray = w4 at *
  have HQ4 := hide (And.intro hz4 hB4)
  clear hB4 hz4 hb3 hown3 hg3 hcu hsu hc0 hc1
  go_wp2
  go_loopg [8] 0 (fun _g i wr => i = .int .i64 0 ∧ wr = w4)
  case atStart => exact ⟨rfl, rfl⟩
  case round =>
    obtain ⟨rfl, hwr⟩ := hrel
    subst hwr
    go_wp2
    go_ret
    exact ⟨rfl, (unhide HQ4).1, (unhide HQ4).2⟩
set_option maxRecDepth 100000 in
set_option maxHeartbeats 4000000 in
theorem lknewZ_any (z : Int) (m : Nat) (w : World) (h : (z < 0 ∧ m = 0) ∨ (0 ≤ z ∧ z ≤ 300 ∧ z = (m : Int)) ∨ (300 < z ∧ m = 300)) :
    Calls Try.prog 11 #[.int .i64 z] w fun e w' => ∃ f g, e = .returned (.pointer (some ⟨f, 0, none⟩)) ∧ LkP w' f g m (fun _ => -1) (fun _ => 0) ∧ Below w.heap.size w w' ∧ w.heap.size ≤ f ∧ w.heap.size ≤ g := by
  obtain ⟨W1, hW1⟩ : ∃ W1, W1 = w.alloc (.cells #[.int .i64 (-1), .int .i64 0] 50) := ⟨_, rfl⟩
  have hb1 : Below w.heap.size w W1 := by rw [hW1]; exact (Below.refl _ w).alloc (Nat.le_refl _) _
  have hz1 : W1.heap.size = w.heap.size + 1 := by rw [hW1]; simp
  have hc1 : W1.heap[w.heap.size]? = some (.cells #[.int .i64 (-1), .int .i64 0] 50) := by rw [hW1]; exact heap_alloc_new w _
  obtain ⟨c0, c1, -⟩ := edge_cells hc1
  have HC : Hid (Calls Try.prog 25 #[.slice (some ⟨w.heap.size, 0, none⟩) 1 1, .int .i64 (m : Int)] W1 fun e w' => e = .returned (.slice (some ⟨W1.heap.size, 0, none⟩) m m) ∧ EdAt w' W1.heap.size (m * 2) (Sp.repEd (-1) 0 m) ∧ Below W1.heap.size W1 w') := hide (by
    by_cases h0 : m = 0
    · subst h0
      have h2 := repeatEd0_any (-1) 0 w.heap.size W1 c0 c1 (by omega)
      exact h2
    · exact repeatEdK_any (-1) 0 w.heap.size m W1 (by omega) (by omega) c0 c1 (by omega))
  have HB := hide (And.intro hb1 hz1)
  obtain ⟨P, hP⟩ : ∃ P : Ending → World → Prop, P = fun e w' => ∃ f g, e = .returned (.pointer (some ⟨f, 0, none⟩)) ∧ LkP w' f g m (fun _ => -1) (fun _ => 0) ∧ Below w.heap.size w w' ∧ w.heap.size ≤ f ∧ w.heap.size ≤ g := ⟨_, rfl⟩
  rw [← hP]
  have HP := hide hP
  clear hP hb1 hz1 hc1 c0 c1
  rcases h with ⟨h1, rfl⟩ | ⟨h1, h2, rfl⟩ | ⟨h1, rfl⟩
  · go_enter Try.func11, Try.ntmps11
    go_wp2_with fail
    all_goals try omega
    go_at_call 25
    rw [← hW1]
    refine (unhide HC).mono ?_
    rintro e w2 ⟨rfl, hr2, hb2⟩
    have hgl := hr2.lt
    have HQ : Hid (LkP (w2.alloc (.cells #[.slice (some ⟨W1.heap.size, 0, none⟩) 0 0] 52)) w2.heap.size W1.heap.size 0 (fun _ => -1) (fun _ => 0) ∧ Below w.heap.size w (w2.alloc (.cells #[.slice (some ⟨W1.heap.size, 0, none⟩) 0 0] 52)) ∧ w.heap.size ≤ w2.heap.size ∧ w.heap.size ≤ W1.heap.size) := hide (by
      have hbb := (unhide HB).1.trans (hb2.mono (unhide HB).1.size)
      refine ⟨⟨heap_alloc_new w2 _, (hr2.alloc _).congr fun j hj => ?_, by omega⟩, hbb.alloc hbb.size _, hbb.size, (unhide HB).1.size⟩
      unfold Sp.repEd Sp.ed
      rw [if_pos hj])
    clear hr2 hb2 hgl HB HC hW1
    go_wp2
    rw [unhide HP]
    exact ⟨_, _, rfl, unhide HQ⟩
  · go_enter Try.func11, Try.ntmps11
    go_wp2_with fail
    all_goals try omega
    go_at_call 25
    rw [← hW1]
    refine (unhide HC).mono ?_
    rintro e w2 ⟨rfl, hr2, hb2⟩
    have hgl := hr2.lt
    have HQ : Hid (LkP (w2.alloc (.cells #[.slice (some ⟨W1.heap.size, 0, none⟩) m m] 52)) w2.heap.size W1.heap.size m (fun _ => -1) (fun _ => 0) ∧ Below w.heap.size w (w2.alloc (.cells #[.slice (some ⟨W1.heap.size, 0, none⟩) m m] 52)) ∧ w.heap.size ≤ w2.heap.size ∧ w.heap.size ≤ W1.heap.size) := hide (by
      have hbb := (unhide HB).1.trans (hb2.mono (unhide HB).1.size)
      refine ⟨⟨heap_alloc_new w2 _, (hr2.alloc _).congr fun j hj => ?_, by omega⟩, hbb.alloc hbb.size _, hbb.size, (unhide HB).1.size⟩
      unfold Sp.repEd Sp.ed
      rw [if_pos hj])
    clear hr2 hb2 hgl HB HC hW1
    go_wp2
    rw [unhide HP]
    exact ⟨_, _, rfl, unhide HQ⟩
  · go_enter Try.func11, Try.ntmps11
    go_wp2_with fail
    all_goals try omega
    go_at_call 25
    rw [← hW1]
    refine (unhide HC).mono ?_
    rintro e w2 ⟨rfl, hr2, hb2⟩
    have hgl := hr2.lt
    have HQ : Hid (LkP (w2.alloc (.cells #[.slice (some ⟨W1.heap.size, 0, none⟩) 300 300] 52)) w2.heap.size W1.heap.size 300 (fun _ => -1) (fun _ => 0) ∧ Below w.heap.size w (w2.alloc (.cells #[.slice (some ⟨W1.heap.size, 0, none⟩) 300 300] 52)) ∧ w.heap.size ≤ w2.heap.size ∧ w.heap.size ≤ W1.heap.size) := hide (by
      have hbb := (unhide HB).1.trans (hb2.mono (unhide HB).1.size)
      refine ⟨⟨heap_alloc_new w2 _, (hr2.alloc _).congr fun j hj => ?_, by omega⟩, hbb.alloc hbb.size _, hbb.size, (unhide HB).1.size⟩
      unfold Sp.repEd Sp.ed
      rw [if_pos hj])
    clear hr2 hb2 hgl HB HC hW1
    go_wp2
    rw [unhide HP]
    exact ⟨_, _, rfl, unhide HQ⟩
end Go.Proofs.Ytohfmohkaaidpaa


/- The law LinkSizes, walked. -/
namespace Go.Proofs.Ytohfmohkaaidpaa
open Go Go.RowKit

theorem Sp.rt_new {n v : Nat} (h : v < n) : Sp.rt n (fun _ => -1) (v : Int) = (v : Int) := Sp.rt_is h ⟨0, rfl, rfl⟩
theorem Sp.rt_newno {n : Nat} {v : Int} (h : ¬ (0 ≤ v ∧ v < (n : Int))) : Sp.rt n (fun _ => -1) v = -1 := Sp.rt_no h
set_option maxRecDepth 100000 in
set_option maxHeartbeats 16000000 in
theorem linkSizes_any (z v : Int) (w : World)  :
    Calls Try.prog 8 #[.int .i64 z, .int .i64 v] w fun e w' => e = .returned (.bool true) ∧ Below w.heap.size w w' := by
  obtain ⟨P, hP⟩ : ∃ P : Ending → World → Prop, P = fun e w' => e = .returned (.bool true) ∧ Below w.heap.size w w' := ⟨_, rfl⟩
  rw [← hP]
  have HP := hide hP
  clear hP
  have HZ0 := hide (fun w' => within7_any z 400 w' (by omega) (by omega))
  have hq0 : 0 ≤ z % 400 := Int.emod_nonneg _ (by omega)
  have hq1 : z % 400 < 400 := Int.emod_lt_of_pos _ (by omega)
  obtain ⟨q, hq⟩ : ∃ q : Nat, z % 400 = (q : Int) := ⟨(z % 400).toNat, by omega⟩
  rw [hq] at HZ0
  have hql : q < 400 := by omega
  obtain ⟨m, hm⟩ : ∃ m : Nat, (z < 0 ∧ m = 0) ∨ (0 ≤ z ∧ z ≤ 300 ∧ z = (m : Int)) ∨ (300 < z ∧ m = 300) := by
    by_cases h1 : z < 0
    · exact ⟨0, .inl ⟨h1, rfl⟩⟩
    · by_cases h2 : z ≤ 300
      · exact ⟨z.toNat, .inr (.inl ⟨by omega, h2, by omega⟩)⟩
      · exact ⟨300, .inr (.inr ⟨by omega, rfl⟩)⟩
  obtain ⟨j, hj⟩ : ∃ j : Nat, (q ≤ 300 ∧ j = q) ∨ (300 < q ∧ j = 300) := by
    by_cases h2 : q ≤ 300
    · exact ⟨q, .inl ⟨h2, rfl⟩⟩
    · exact ⟨300, .inr ⟨by omega, rfl⟩⟩
  clear hq0 hq1 hq
  go_enter Try.func8, Try.ntmps8
  go_wp2_with fail
  go_at_call 9
  refine (known7_any w).mono ?_
  rintro e w1 ⟨rfl, hb1⟩
  have HB1 := hide hb1
  clear hb1
  have HC1 := hide (lknewZ_any z m w1 hm)
  go_wp2_with fail
  go_at_call 11
  refine (unhide HC1).mono ?_
  rintro e w2 ⟨f, g, rfl, hp2, hb2, -, -⟩
  have HP2 := hide hp2
  have HB2 := hide ((unhide HB1).trans (hb2.mono (unhide HB1).size))
  clear hp2 hb2 HC1 HB1
  go_wp2_with fail
  go_at_call 10
  refine (unhide HZ0 _).mono ?_
  rintro e wz ⟨rfl, hwz⟩
  have hwz' := hwz.symm
  subst hwz'
  clear hwz
  have HC2 := hide (lknewZ_any (q : Int) j w2 (by omega))
  go_wp2_with fail
  go_at_call 11
  refine (unhide HC2).mono ?_
  rintro e w3 ⟨f2, g2, rfl, hp3, hb3, -, -⟩
  have HP3 := hide (And.intro ((unhide HP2).below hb3) hp3)
  have HB3 := hide ((unhide HB2).trans (hb3.mono (unhide HB2).size))
  replace HZ0 := hide (unhide HZ0 w3)
  have hfk := lkroot_any (Sp.fo_new m) (m : Int) w3 (unhide HP3).1
  rw [Sp.rt_newno (by omega)] at hfk
  have hfm := lkroot_any (Sp.fo_new m) (-1) w3 (unhide HP3).1
  rw [Sp.rt_newno (by omega)] at hfm
  have HFm := hide hfm
  have hgj := lkroot_any (Sp.fo_new j) (j : Int) w3 (unhide HP3).2
  rw [Sp.rt_newno (by omega)] at hgj
  have HGj0 := hide hgj
  have HFk := hide hfk
  clear hp3 hb3 HC2 HB2 HP2 hfk hfm hgj
  rcases hm with ⟨h1, rfl⟩ | ⟨h1, h2, rfl⟩ | ⟨h1, rfl⟩
  · have HFk' : Hid (Calls Try.prog 17 #[.pointer (some ⟨f, 0, none⟩), .int .i64 0] w3 fun e w' => e = .returned (.int .i64 (-1)) ∧ w' = w3) := HFk
    go_wp2_with fail
    all_goals try omega
    go_at_call 10
    refine (unhide HZ0).mono ?_
    rintro e wz ⟨rfl, hw⟩
    have hw' := hw.symm
    subst hw'
    clear hw
    rcases hj with ⟨hq3, rfl⟩ | ⟨hq3, rfl⟩
    · have HGj : Hid (Calls Try.prog 17 #[.pointer (some ⟨f2, 0, none⟩), .int .i64 (j : Int)] w3 fun e w' => e = .returned (.int .i64 (-1)) ∧ w' = w3) := HGj0
      go_wp2_with fail
      all_goals try omega
      go_at_call 17
      refine (unhide HFk').mono ?_
      rintro e wz ⟨rfl, hw⟩
      have hw' := hw.symm
      subst hw'
      clear hw
      go_wp2_with fail
      all_goals try omega
      go_at_call 17
      refine (unhide HFm).mono ?_
      rintro e wz ⟨rfl, hw⟩
      have hw' := hw.symm
      subst hw'
      clear hw
      by_cases hj0 : j = 0
      · subst hj0
        go_wp2_with fail
        all_goals try omega
        go_at_call 17
        refine (unhide HGj).mono ?_
        rintro e wz ⟨rfl, hw⟩
        have hw' := hw.symm
        subst hw'
        clear hw
        go_wp2
        all_goals try omega
        rw [unhide HP]
        exact ⟨rfl, unhide HB3⟩
      · have hjb : ((j : Int) == 0) = false := beq_eq_false_iff_ne.2 (by omega)
        obtain ⟨j1, hj1⟩ : ∃ j1 : Nat, (j : Int) - 1 = (j1 : Int) := ⟨j - 1, by omega⟩
        have hl := lkroot_any (Sp.fo_new j) (j1 : Int) w3 (unhide HP3).2
        rw [Sp.rt_new (by omega)] at hl
        have HGl := hide hl
        have hbb : ((j1 : Int) == (j1 : Int)) = true := by simp
        clear hl
        go_wp2_with fail
        all_goals try omega
        go_at_call 17
        refine (unhide HGj).mono ?_
        rintro e wz ⟨rfl, hw⟩
        have hw' := hw.symm
        subst hw'
        clear hw
        go_wp2_with fail
        all_goals try omega
        go_at_call 17
        refine (unhide HGl).mono ?_
        rintro e wz ⟨rfl, hw⟩
        have hw' := hw.symm
        subst hw'
        clear hw
        go_wp2
        all_goals try omega
        rw [unhide HP]
        exact ⟨rfl, unhide HB3⟩
    · have hl := lkroot_any (Sp.fo_new 300) 299 w3 (unhide HP3).2
      rw [show (299 : Int) = ((299 : Nat) : Int) from rfl, Sp.rt_new (by omega)] at hl
      have HGl := hide hl
      have HGj : Hid (Calls Try.prog 17 #[.pointer (some ⟨f2, 0, none⟩), .int .i64 300] w3 fun e w' => e = .returned (.int .i64 (-1)) ∧ w' = w3) := HGj0
      clear hl
      go_wp2_with fail
      all_goals try omega
      go_at_call 17
      refine (unhide HFk').mono ?_
      rintro e wz ⟨rfl, hw⟩
      have hw' := hw.symm
      subst hw'
      clear hw
      go_wp2_with fail
      all_goals try omega
      go_at_call 17
      refine (unhide HFm).mono ?_
      rintro e wz ⟨rfl, hw⟩
      have hw' := hw.symm
      subst hw'
      clear hw
      go_wp2_with fail
      all_goals try omega
      go_at_call 17
      refine (unhide HGj).mono ?_
      rintro e wz ⟨rfl, hw⟩
      have hw' := hw.symm
      subst hw'
      clear hw
      go_wp2_with fail
      all_goals try omega
      go_at_call 17
      refine (unhide HGl).mono ?_
      rintro e wz ⟨rfl, hw⟩
      have hw' := hw.symm
      subst hw'
      clear hw
      go_wp2
      all_goals try omega
      rw [unhide HP]
      exact ⟨rfl, unhide HB3⟩
  · by_cases hm0 : m = 0
    · subst hm0
      have HFk' : Hid (Calls Try.prog 17 #[.pointer (some ⟨f, 0, none⟩), .int .i64 0] w3 fun e w' => e = .returned (.int .i64 (-1)) ∧ w' = w3) := HFk
      go_wp2_with fail
      all_goals try omega
      go_at_call 10
      refine (unhide HZ0).mono ?_
      rintro e wz ⟨rfl, hw⟩
      have hw' := hw.symm
      subst hw'
      clear hw
      rcases hj with ⟨hq3, rfl⟩ | ⟨hq3, rfl⟩
      · have HGj : Hid (Calls Try.prog 17 #[.pointer (some ⟨f2, 0, none⟩), .int .i64 (j : Int)] w3 fun e w' => e = .returned (.int .i64 (-1)) ∧ w' = w3) := HGj0
        go_wp2_with fail
        all_goals try omega
        go_at_call 17
        refine (unhide HFk').mono ?_
        rintro e wz ⟨rfl, hw⟩
        have hw' := hw.symm
        subst hw'
        clear hw
        go_wp2_with fail
        all_goals try omega
        go_at_call 17
        refine (unhide HFm).mono ?_
        rintro e wz ⟨rfl, hw⟩
        have hw' := hw.symm
        subst hw'
        clear hw
        by_cases hj0 : j = 0
        · subst hj0
          go_wp2_with fail
          all_goals try omega
          go_at_call 17
          refine (unhide HGj).mono ?_
          rintro e wz ⟨rfl, hw⟩
          have hw' := hw.symm
          subst hw'
          clear hw
          go_wp2
          all_goals try omega
          rw [unhide HP]
          exact ⟨rfl, unhide HB3⟩
        · have hjb : ((j : Int) == 0) = false := beq_eq_false_iff_ne.2 (by omega)
          obtain ⟨j1, hj1⟩ : ∃ j1 : Nat, (j : Int) - 1 = (j1 : Int) := ⟨j - 1, by omega⟩
          have hl := lkroot_any (Sp.fo_new j) (j1 : Int) w3 (unhide HP3).2
          rw [Sp.rt_new (by omega)] at hl
          have HGl := hide hl
          have hbb : ((j1 : Int) == (j1 : Int)) = true := by simp
          clear hl
          go_wp2_with fail
          all_goals try omega
          go_at_call 17
          refine (unhide HGj).mono ?_
          rintro e wz ⟨rfl, hw⟩
          have hw' := hw.symm
          subst hw'
          clear hw
          go_wp2_with fail
          all_goals try omega
          go_at_call 17
          refine (unhide HGl).mono ?_
          rintro e wz ⟨rfl, hw⟩
          have hw' := hw.symm
          subst hw'
          clear hw
          go_wp2
          all_goals try omega
          rw [unhide HP]
          exact ⟨rfl, unhide HB3⟩
      · have hl := lkroot_any (Sp.fo_new 300) 299 w3 (unhide HP3).2
        rw [show (299 : Int) = ((299 : Nat) : Int) from rfl, Sp.rt_new (by omega)] at hl
        have HGl := hide hl
        have HGj : Hid (Calls Try.prog 17 #[.pointer (some ⟨f2, 0, none⟩), .int .i64 300] w3 fun e w' => e = .returned (.int .i64 (-1)) ∧ w' = w3) := HGj0
        clear hl
        go_wp2_with fail
        all_goals try omega
        go_at_call 17
        refine (unhide HFk').mono ?_
        rintro e wz ⟨rfl, hw⟩
        have hw' := hw.symm
        subst hw'
        clear hw
        go_wp2_with fail
        all_goals try omega
        go_at_call 17
        refine (unhide HFm).mono ?_
        rintro e wz ⟨rfl, hw⟩
        have hw' := hw.symm
        subst hw'
        clear hw
        go_wp2_with fail
        all_goals try omega
        go_at_call 17
        refine (unhide HGj).mono ?_
        rintro e wz ⟨rfl, hw⟩
        have hw' := hw.symm
        subst hw'
        clear hw
        go_wp2_with fail
        all_goals try omega
        go_at_call 17
        refine (unhide HGl).mono ?_
        rintro e wz ⟨rfl, hw⟩
        have hw' := hw.symm
        subst hw'
        clear hw
        go_wp2
        all_goals try omega
        rw [unhide HP]
        exact ⟨rfl, unhide HB3⟩
    · have hmI : (m : Int) > 0 := by omega
      have hmb : ((m : Int) == 0) = false := beq_eq_false_iff_ne.2 (by omega)
      have hx0 : 0 ≤ v % (m : Int) := Int.emod_nonneg _ (by omega)
      have hx1 : v % (m : Int) < (m : Int) := Int.emod_lt_of_pos _ (by omega)
      obtain ⟨x, hx⟩ : ∃ x : Nat, v % (m : Int) = (x : Int) := ⟨(v % (m : Int)).toNat, by omega⟩
      have hX := within7_any v (m : Int) w3 (by omega) (by omega)
      rw [hx] at hX
      have HX := hide hX
      have hfx := lkroot_any (Sp.fo_new m) (x : Int) w3 (unhide HP3).1
      rw [Sp.rt_new (by omega)] at hfx
      have HFx := hide hfx
      obtain ⟨m1, hm1⟩ : ∃ m1 : Nat, (m : Int) - 1 = (m1 : Int) := ⟨m - 1, by omega⟩
      have hfl := lkroot_any (Sp.fo_new m) (m1 : Int) w3 (unhide HP3).1
      rw [Sp.rt_new (by omega)] at hfl
      have HFl := hide hfl
      have hxx : ((x : Int) == (x : Int)) = true := by simp
      have hmm : ((m1 : Int) == (m1 : Int)) = true := by simp
      clear hX hfx hfl hx0 hx1 hx
      go_wp2_with fail
      all_goals try omega
      go_at_call 10
      refine (unhide HX).mono ?_
      rintro e wz ⟨rfl, hw⟩
      have hw' := hw.symm
      subst hw'
      clear hw
      go_wp2_with fail
      all_goals try omega
      go_at_call 10
      refine (unhide HZ0).mono ?_
      rintro e wz ⟨rfl, hw⟩
      have hw' := hw.symm
      subst hw'
      clear hw
      rcases hj with ⟨hq3, rfl⟩ | ⟨hq3, rfl⟩
      · have HGj : Hid (Calls Try.prog 17 #[.pointer (some ⟨f2, 0, none⟩), .int .i64 (j : Int)] w3 fun e w' => e = .returned (.int .i64 (-1)) ∧ w' = w3) := HGj0
        go_wp2_with fail
        all_goals try omega
        go_at_call 17
        refine (unhide HFk).mono ?_
        rintro e wz ⟨rfl, hw⟩
        have hw' := hw.symm
        subst hw'
        clear hw
        go_wp2_with fail
        all_goals try omega
        go_at_call 17
        refine (unhide HFm).mono ?_
        rintro e wz ⟨rfl, hw⟩
        have hw' := hw.symm
        subst hw'
        clear hw
        go_wp2_with fail
        all_goals try omega
        go_at_call 17
        refine (unhide HFx).mono ?_
        rintro e wz ⟨rfl, hw⟩
        have hw' := hw.symm
        subst hw'
        clear hw
        go_wp2_with fail
        all_goals try omega
        go_at_call 17
        refine (unhide HFl).mono ?_
        rintro e wz ⟨rfl, hw⟩
        have hw' := hw.symm
        subst hw'
        clear hw
        by_cases hj0 : j = 0
        · subst hj0
          go_wp2_with fail
          all_goals try omega
          go_at_call 17
          refine (unhide HGj).mono ?_
          rintro e wz ⟨rfl, hw⟩
          have hw' := hw.symm
          subst hw'
          clear hw
          go_wp2
          all_goals try omega
          rw [unhide HP]
          exact ⟨rfl, unhide HB3⟩
        · have hjb : ((j : Int) == 0) = false := beq_eq_false_iff_ne.2 (by omega)
          obtain ⟨j1, hj1⟩ : ∃ j1 : Nat, (j : Int) - 1 = (j1 : Int) := ⟨j - 1, by omega⟩
          have hl := lkroot_any (Sp.fo_new j) (j1 : Int) w3 (unhide HP3).2
          rw [Sp.rt_new (by omega)] at hl
          have HGl := hide hl
          have hbb : ((j1 : Int) == (j1 : Int)) = true := by simp
          clear hl
          go_wp2_with fail
          all_goals try omega
          go_at_call 17
          refine (unhide HGj).mono ?_
          rintro e wz ⟨rfl, hw⟩
          have hw' := hw.symm
          subst hw'
          clear hw
          go_wp2_with fail
          all_goals try omega
          go_at_call 17
          refine (unhide HGl).mono ?_
          rintro e wz ⟨rfl, hw⟩
          have hw' := hw.symm
          subst hw'
          clear hw
          go_wp2
          all_goals try omega
          rw [unhide HP]
          exact ⟨rfl, unhide HB3⟩
      · have hl := lkroot_any (Sp.fo_new 300) 299 w3 (unhide HP3).2
        rw [show (299 : Int) = ((299 : Nat) : Int) from rfl, Sp.rt_new (by omega)] at hl
        have HGl := hide hl
        have HGj : Hid (Calls Try.prog 17 #[.pointer (some ⟨f2, 0, none⟩), .int .i64 300] w3 fun e w' => e = .returned (.int .i64 (-1)) ∧ w' = w3) := HGj0
        clear hl
        go_wp2_with fail
        all_goals try omega
        go_at_call 17
        refine (unhide HFk).mono ?_
        rintro e wz ⟨rfl, hw⟩
        have hw' := hw.symm
        subst hw'
        clear hw
        go_wp2_with fail
        all_goals try omega
        go_at_call 17
        refine (unhide HFm).mono ?_
        rintro e wz ⟨rfl, hw⟩
        have hw' := hw.symm
        subst hw'
        clear hw
        go_wp2_with fail
        all_goals try omega
        go_at_call 17
        refine (unhide HFx).mono ?_
        rintro e wz ⟨rfl, hw⟩
        have hw' := hw.symm
        subst hw'
        clear hw
        go_wp2_with fail
        all_goals try omega
        go_at_call 17
        refine (unhide HFl).mono ?_
        rintro e wz ⟨rfl, hw⟩
        have hw' := hw.symm
        subst hw'
        clear hw
        go_wp2_with fail
        all_goals try omega
        go_at_call 17
        refine (unhide HGj).mono ?_
        rintro e wz ⟨rfl, hw⟩
        have hw' := hw.symm
        subst hw'
        clear hw
        go_wp2_with fail
        all_goals try omega
        go_at_call 17
        refine (unhide HGl).mono ?_
        rintro e wz ⟨rfl, hw⟩
        have hw' := hw.symm
        subst hw'
        clear hw
        go_wp2
        all_goals try omega
        rw [unhide HP]
        exact ⟨rfl, unhide HB3⟩
  · have hx0 : 0 ≤ v % 300 := Int.emod_nonneg _ (by omega)
    have hx1 : v % 300 < 300 := Int.emod_lt_of_pos _ (by omega)
    obtain ⟨x, hx⟩ : ∃ x : Nat, v % 300 = (x : Int) := ⟨(v % 300).toNat, by omega⟩
    have hX := within7_any v 300 w3 (by omega) (by omega)
    rw [hx] at hX
    have HX := hide hX
    have hfx := lkroot_any (Sp.fo_new 300) (x : Int) w3 (unhide HP3).1
    rw [Sp.rt_new (by omega)] at hfx
    have HFx := hide hfx
    have hfl := lkroot_any (Sp.fo_new 300) 299 w3 (unhide HP3).1
    rw [show (299 : Int) = ((299 : Nat) : Int) from rfl, Sp.rt_new (by omega)] at hfl
    have HFl := hide hfl
    have hxx : ((x : Int) == (x : Int)) = true := by simp
    clear hX hfx hfl hx0 hx1 hx
    go_wp2_with fail
    all_goals try omega
    go_at_call 10
    refine (unhide HX).mono ?_
    rintro e wz ⟨rfl, hw⟩
    have hw' := hw.symm
    subst hw'
    clear hw
    go_wp2_with fail
    all_goals try omega
    go_at_call 10
    refine (unhide HZ0).mono ?_
    rintro e wz ⟨rfl, hw⟩
    have hw' := hw.symm
    subst hw'
    clear hw
    rcases hj with ⟨hq3, rfl⟩ | ⟨hq3, rfl⟩
    · have HGj : Hid (Calls Try.prog 17 #[.pointer (some ⟨f2, 0, none⟩), .int .i64 (j : Int)] w3 fun e w' => e = .returned (.int .i64 (-1)) ∧ w' = w3) := HGj0
      go_wp2_with fail
      all_goals try omega
      go_at_call 17
      refine (unhide HFk).mono ?_
      rintro e wz ⟨rfl, hw⟩
      have hw' := hw.symm
      subst hw'
      clear hw
      go_wp2_with fail
      all_goals try omega
      go_at_call 17
      refine (unhide HFm).mono ?_
      rintro e wz ⟨rfl, hw⟩
      have hw' := hw.symm
      subst hw'
      clear hw
      go_wp2_with fail
      all_goals try omega
      go_at_call 17
      refine (unhide HFx).mono ?_
      rintro e wz ⟨rfl, hw⟩
      have hw' := hw.symm
      subst hw'
      clear hw
      go_wp2_with fail
      all_goals try omega
      go_at_call 17
      refine (unhide HFl).mono ?_
      rintro e wz ⟨rfl, hw⟩
      have hw' := hw.symm
      subst hw'
      clear hw
      by_cases hj0 : j = 0
      · subst hj0
        go_wp2_with fail
        all_goals try omega
        go_at_call 17
        refine (unhide HGj).mono ?_
        rintro e wz ⟨rfl, hw⟩
        have hw' := hw.symm
        subst hw'
        clear hw
        go_wp2
        all_goals try omega
        rw [unhide HP]
        exact ⟨rfl, unhide HB3⟩
      · have hjb : ((j : Int) == 0) = false := beq_eq_false_iff_ne.2 (by omega)
        obtain ⟨j1, hj1⟩ : ∃ j1 : Nat, (j : Int) - 1 = (j1 : Int) := ⟨j - 1, by omega⟩
        have hl := lkroot_any (Sp.fo_new j) (j1 : Int) w3 (unhide HP3).2
        rw [Sp.rt_new (by omega)] at hl
        have HGl := hide hl
        have hbb : ((j1 : Int) == (j1 : Int)) = true := by simp
        clear hl
        go_wp2_with fail
        all_goals try omega
        go_at_call 17
        refine (unhide HGj).mono ?_
        rintro e wz ⟨rfl, hw⟩
        have hw' := hw.symm
        subst hw'
        clear hw
        go_wp2_with fail
        all_goals try omega
        go_at_call 17
        refine (unhide HGl).mono ?_
        rintro e wz ⟨rfl, hw⟩
        have hw' := hw.symm
        subst hw'
        clear hw
        go_wp2
        all_goals try omega
        rw [unhide HP]
        exact ⟨rfl, unhide HB3⟩
    · have hl := lkroot_any (Sp.fo_new 300) 299 w3 (unhide HP3).2
      rw [show (299 : Int) = ((299 : Nat) : Int) from rfl, Sp.rt_new (by omega)] at hl
      have HGl := hide hl
      have HGj : Hid (Calls Try.prog 17 #[.pointer (some ⟨f2, 0, none⟩), .int .i64 300] w3 fun e w' => e = .returned (.int .i64 (-1)) ∧ w' = w3) := HGj0
      clear hl
      go_wp2_with fail
      all_goals try omega
      go_at_call 17
      refine (unhide HFk).mono ?_
      rintro e wz ⟨rfl, hw⟩
      have hw' := hw.symm
      subst hw'
      clear hw
      go_wp2_with fail
      all_goals try omega
      go_at_call 17
      refine (unhide HFm).mono ?_
      rintro e wz ⟨rfl, hw⟩
      have hw' := hw.symm
      subst hw'
      clear hw
      go_wp2_with fail
      all_goals try omega
      go_at_call 17
      refine (unhide HFx).mono ?_
      rintro e wz ⟨rfl, hw⟩
      have hw' := hw.symm
      subst hw'
      clear hw
      go_wp2_with fail
      all_goals try omega
      go_at_call 17
      refine (unhide HFl).mono ?_
      rintro e wz ⟨rfl, hw⟩
      have hw' := hw.symm
      subst hw'
      clear hw
      go_wp2_with fail
      all_goals try omega
      go_at_call 17
      refine (unhide HGj).mono ?_
      rintro e wz ⟨rfl, hw⟩
      have hw' := hw.symm
      subst hw'
      clear hw
      go_wp2_with fail
      all_goals try omega
      go_at_call 17
      refine (unhide HGl).mono ?_
      rintro e wz ⟨rfl, hw⟩
      have hw' := hw.symm
      subst hw'
      clear hw
      go_wp2
      all_goals try omega
      rw [unhide HP]
      exact ⟨rfl, unhide HB3⟩
end Go.Proofs.Ytohfmohkaaidpaa


