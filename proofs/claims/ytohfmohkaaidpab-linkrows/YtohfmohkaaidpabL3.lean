/- What the proof needs, part 3. -/
import Derived.Test.YtohfmohkaaidpabL2
/- Package link: Add, Least. -/
namespace Go.Proofs.Ytohfmohkaaidpab
open Go Go.RowKit

/-- The least edge that Least tells. -/
noncomputable def Sp.ls (U W : Nat → Int) (v : Int) : Nat := Sp.leastA U W (Sp.dp U v.toNat + 1) v.toNat v.toNat
theorem Sp.leastA_one {U W : Nat → Int} {v a : Nat} (h : U v = -1) (k : Nat) : Sp.leastA U W (k + 1) v a = a := by
  rw [Sp.leastA, if_pos h]
theorem Sp.leastA_step {U W : Nat → Int} {v a u : Nat} (h : U v = (u : Int)) (k : Nat) : Sp.leastA U W (k + 1) v a = Sp.leastA U W k u (if W v ≤ W a then v else a) := by
  rw [Sp.leastA, if_neg (by omega), h, Int.toNat_natCast]
set_option maxRecDepth 100000 in
set_option maxHeartbeats 8000000 in
theorem lkleast_any {f g n : Nat} {U W : Nat → Int} (hF : Sp.Fo n U) (v : Int) (w : World) (h : LkP w f g n U W) :
    Calls Try.prog 10 #[.pointer (some ⟨f, 0, none⟩), .int .i64 v] w fun e w' => e = .returned (.tuple #[.int .i64 (if Sp.hg n U v = true then ((Sp.ls U W v : Nat) : Int) else 0), .int .i64 (if Sp.hg n U v = true then W (Sp.ls U W v) else 0), .bool (Sp.hg n U v)]) ∧ Below w.heap.size w w' := by
  have HC := hide (lkhas_any v w h)
  rcases Sp.int_case n v with h1 | ⟨k, rfl, hk⟩
  · rw [Sp.hs_no h1] at HC
    rw [Sp.hg_no h1, if_neg (by decide), if_neg (by decide)]
    obtain ⟨P, hP⟩ : ∃ P : Ending → World → Prop, P = fun e w' => e = .returned (.tuple #[.int .i64 0, .int .i64 0, .bool false]) ∧ Below w.heap.size w w' := ⟨_, rfl⟩
    rw [← hP]
    have HP := hide hP
    clear h h1 hF hP
    go_enter Try.func10, Try.ntmps10
    go_wp2
    go_step3
    go_wp2_with fail
    go_at_call 22
    refine (unhide HC).mono ?_
    rintro e w' ⟨rfl, hw⟩
    have hw' := hw.symm
    subst hw'
    go_wp2
    rw [unhide HP]
    refine ⟨rfl, _, results_tmp3 rfl _ _ _, ?_⟩
    exact ⟨rfl, Below.refl _ _⟩
  · rw [Sp.hs_yes hk] at HC
    obtain ⟨m, a, hu, ha, -⟩ := hF.ex hk
    obtain ⟨A, hA⟩ : ∃ A, Sp.ls U W (k : Int) = A := ⟨_, rfl⟩
    have hA2 := hA
    unfold Sp.ls at hA2
    rw [Int.toNat_natCast, Sp.dp_is hu ha] at hA2
    rw [hA]
    obtain ⟨R, hR⟩ : ∃ R, Sp.hg n U (k : Int) = R := ⟨_, rfl⟩
    rw [hR]
    have HR1 : Hid (U k = -1 → R = false) := hide fun e => by rw [← hR]; exact Sp.hg_root e
    have HR2 : Hid (U k ≠ -1 → R = true) := hide fun e => by rw [← hR]; exact Sp.hg_yes hk e
    have HU : Hid (Sp.Upw U m k a ∧ Sp.leastA U W (m + 1) k k = A) := hide ⟨hu, hA2⟩
    have HF := hide hF
    have Ha := hide ha
    have H := hide h
    obtain ⟨P, hP⟩ : ∃ P : Ending → World → Prop, P = fun e w' => e = .returned (.tuple #[.int .i64 (if R = true then (A : Int) else 0), .int .i64 (if R = true then W A else 0), .bool R]) ∧ Below w.heap.size w w' := ⟨_, rfl⟩
    rw [← hP]
    have HP := hide hP
    clear hP hu hF ha h hA hA2 hR
    go_enter Try.func10, Try.ntmps10
    go_wp2
    go_step3
    go_wp2_with fail
    go_at_call 22
    refine (unhide HC).mono ?_
    rintro e w' ⟨rfl, hw⟩
    have hw' := hw.symm
    subst hw'
    clear hw HC
    go_wp2
    go_step3
    go_wp2
    go_loopg [1, 4, 5, 6] m (fun g' s1 s4 s5 s6 wr => ∃ (v1 a1 : Nat) (is : Bool), s1 = .int .i64 (v1 : Int) ∧ s6 = .bool is ∧ v1 < n ∧ a1 < n ∧ Hid (Sp.Upw U g' v1 a ∧ Sp.leastA U W (g' + 1) v1 a1 = A) ∧ ((is = false ∧ v1 = k ∧ a1 = k ∧ s4 = .int .i64 0 ∧ s5 = .int .i64 0) ∨ (is = true ∧ U k ≠ -1 ∧ s4 = .int .i64 (a1 : Int) ∧ s5 = .int .i64 (W a1))) ∧ Hid (Below w.heap.size w wr))
    case atStart => exact ⟨k, k, false, rfl, rfl, hk, hk, HU, .inl ⟨rfl, rfl, rfl, rfl, rfl⟩, hide (Below.refl _ _)⟩
    case round =>
      clear HU
      obtain ⟨v1, a1, is, rfl, rfl, hv, hv2, HV, hcase, HI⟩ := hrel
      have hq := (unhide H).below (unhide HI)
      have hs0 := hq.slot
      have c0 := hq.up hv
      have c1 := hq.wt hv
      have hvI : (v1 : Int) < (n : Int) := by omega
      clear hq
      cases gk with
      | zero =>
        have e : a = v1 := (unhide HV).1
        subst e
        have e2 := (unhide HV).2
        rw [Sp.leastA_one (unhide Ha)] at e2
        subst e2
        have hua := unhide Ha
        rw [hua] at c0
        have HI2 : Hid (∀ o, Below w.heap.size w (wr.alloc o)) := hide fun o => (unhide HI).alloc (unhide HI).size o
        rcases hcase with ⟨rfl, e1, e2, rfl, rfl⟩ | ⟨rfl, hk2, rfl, rfl⟩
        · obtain rfl : k = a := e1.symm
          have hRf := unhide HR1 (unhide Ha)
          subst hRf
          clear HR1 HR2 HV hua
          go_wp2
          rw [unhide HP]
          go_ret3
          exact ⟨rfl, unhide HI2 _⟩
        · have hRt := unhide HR2 hk2
          subst hRt
          have HP2 : Hid (P = fun e w' => e = .returned (.tuple #[.int .i64 (a1 : Int), .int .i64 (W a1), .bool true]) ∧ Below w.heap.size w w') := hide (by rw [unhide HP]; rfl)
          clear HR1 HR2 HV HP hua hk2
          go_wp2
          rw [unhide HP2]
          refine ⟨rfl, _, results_tmp3 rfl _ _ _, ?_⟩
          exact ⟨rfl, unhide HI2 _⟩
      | succ g' =>
        obtain ⟨⟨u, e, hu⟩, h2⟩ := unhide HV
        rw [Sp.leastA_step e] at h2
        have hun : u < n := (unhide HF).up_lt hv (k := 1) ⟨u, e, rfl⟩
        have hub : ((u : Int) == -1) = false := beq_eq_false_iff_ne.2 (by omega)
        rw [e] at c0
        have HI2 : Hid (∀ nq o, Below w.heap.size w ((wr.alloc o).drewN nq)) := hide fun nq o => below_dn ((unhide HI).alloc (unhide HI).size o) nq
        have HI3 : Hid (∀ o, Below w.heap.size w (wr.alloc o)) := hide fun o => (unhide HI).alloc (unhide HI).size o
        have Hu := hide hu
        rcases hcase with ⟨rfl, e1, e2, rfl, rfl⟩ | ⟨rfl, hk2, rfl, rfl⟩
        · obtain rfl : v1 = k := e1
          obtain rfl : v1 = a1 := e2.symm
          rw [if_pos (Int.le_refl _)] at h2
          have HV2 : Hid (Sp.Upw U g' u a ∧ Sp.leastA U W (g' + 1) u v1 = A) := hide ⟨hu, h2⟩
          have hk2 : U v1 ≠ -1 := by omega
          have Hk2 := hide hk2
          clear h2 HV hu e hk2
          go_wp2_with fail
          go_quiet (fail)
          go_wp2
          go_roundg g'
          case rel => exact ⟨u, v1, true, rfl, rfl, hun, hv, HV2, .inr ⟨rfl, unhide Hk2, rfl, rfl⟩, hide (unhide HI2 _ _)⟩
          case measure => omega
        · have Hk2 := hide hk2
          by_cases hle : W v1 ≤ W a1
          · rw [if_pos hle] at h2
            have HV2 : Hid (Sp.Upw U g' u a ∧ Sp.leastA U W (g' + 1) u v1 = A) := hide ⟨hu, h2⟩
            clear h2 HV hu e hk2
            go_wp2_with fail
            go_quiet (fail)
            go_wp2
            go_roundg g'
            case rel => exact ⟨u, v1, true, rfl, rfl, hun, hv, HV2, .inr ⟨rfl, unhide Hk2, rfl, rfl⟩, hide (unhide HI2 _ _)⟩
            case measure => omega
          · rw [if_neg hle] at h2
            have HV2 : Hid (Sp.Upw U g' u a ∧ Sp.leastA U W (g' + 1) u a1 = A) := hide ⟨hu, h2⟩
            clear h2 HV hu e hk2
            go_wp2
            go_roundg g'
            case rel => exact ⟨u, a1, true, rfl, rfl, hun, hv2, HV2, .inr ⟨rfl, unhide Hk2, rfl, rfl⟩, hide (unhide HI3 _)⟩
            case measure => omega
end Go.Proofs.Ytohfmohkaaidpab


/- The reference's forest: Root, Up, Weight, Cut, Link, Turn, Add, Least. -/
namespace Go.Proofs.Ytohfmohkaaidpab
open Go Go.RowKit

theorem LkR.cap {w : World} {x o c n co cw : Nat} {U W : Nat → Int} (h : LkR w x o c n co cw U W) : n ≤ co ∧ n ≤ cw := by
  obtain ⟨_, -, -, h1, -⟩ := h.on
  obtain ⟨_, -, -, h2, -⟩ := h.wt
  exact ⟨h1, h2⟩
end Go.Proofs.Ytohfmohkaaidpab


/- Package link: New; the law's within; two forests are the same. -/
namespace Go.Proofs.Ytohfmohkaaidpab
open Go Go.RowKit

theorem tmod_casesK (a n : Int) (hn : 0 < n) : (a.tmod n < 0 ∧ a.tmod n + n = a % n) ∨ (0 ≤ a.tmod n ∧ a.tmod n = a % n) := by
  have h0 : 0 ≤ a % n := Int.emod_nonneg a (by omega)
  have h1 : a % n < n := Int.emod_lt_of_pos a hn
  have e := Int.tmod_eq_emod (a := a) (b := n)
  split at e
  · right; omega
  · left
    have : ((n.natAbs : Nat) : Int) = n := by omega
    omega
theorem ret_intK {k : IntKind} {a b : Int} (h : a = b) : Ending.returned (.int k a) = .returned (.int k b) := by rw [h]
theorem Sp.fo_new (n : Nat) : Sp.Fo n (fun _ => -1) := ⟨fun _ => 0, fun _ _ => .inl rfl⟩
set_option maxRecDepth 100000 in
set_option maxHeartbeats 2000000 in
theorem lknew_any (n : Nat) (w : World) (hn1 : 1 ≤ n) (hn : n ≤ 60) :
    Calls Try.prog 7 #[.int .i64 (n : Int)] w fun e w' => ∃ f g, e = .returned (.pointer (some ⟨f, 0, none⟩)) ∧ LkP w' f g n (fun _ => -1) (fun _ => 0) ∧ Below w.heap.size w w' ∧ w.heap.size ≤ f ∧ w.heap.size ≤ g := by
  obtain ⟨W1, hW1⟩ : ∃ W1, W1 = w.alloc (.cells #[.int .i64 (-1), .int .i64 0] 48) := ⟨_, rfl⟩
  have hb1 : Below w.heap.size w W1 := by rw [hW1]; exact (Below.refl _ w).alloc (Nat.le_refl _) _
  have hz1 : W1.heap.size = w.heap.size + 1 := by rw [hW1]; simp
  have hc1 : W1.heap[w.heap.size]? = some (.cells #[.int .i64 (-1), .int .i64 0] 48) := by rw [hW1]; exact heap_alloc_new w _
  obtain ⟨c0, c1, -⟩ := edge_cells hc1
  have HC := hide (repeatEd_any (-1) 0 w.heap.size n W1 hn1 hn c0 c1 (by omega))
  have HB := hide (And.intro hb1 hz1)
  have hm1 : max (n : Int) 0 = (n : Int) := by omega
  have hm2 : min (n : Int) 300 = (n : Int) := by omega
  have hnI : (0 : Int) ≤ (n : Int) := by omega
  have hn3 : (n : Int) ≤ 300 := by omega
  obtain ⟨P, hP⟩ : ∃ P : Ending → World → Prop, P = fun e w' => ∃ f g, e = .returned (.pointer (some ⟨f, 0, none⟩)) ∧ LkP w' f g n (fun _ => -1) (fun _ => 0) ∧ Below w.heap.size w w' ∧ w.heap.size ≤ f ∧ w.heap.size ≤ g := ⟨_, rfl⟩
  rw [← hP]
  have HP := hide hP
  clear hP hb1 hz1 hc1 c0 c1
  go_enter Try.func7, Try.ntmps7
  go_wp2_with fail
  all_goals try omega
  go_at_call 21
  rw [← hW1]
  refine (unhide HC).mono ?_
  rintro e w2 ⟨rfl, hr2, hb2⟩
  have hgl := hr2.lt
  have HQ : Hid (LkP (w2.alloc (.cells #[.slice (some ⟨W1.heap.size, 0, none⟩) n n] 50)) w2.heap.size W1.heap.size n (fun _ => -1) (fun _ => 0) ∧ Below w.heap.size w (w2.alloc (.cells #[.slice (some ⟨W1.heap.size, 0, none⟩) n n] 50)) ∧ w.heap.size ≤ w2.heap.size ∧ w.heap.size ≤ W1.heap.size) := hide (by
    have hbb := (unhide HB).1.trans (hb2.mono (unhide HB).1.size)
    refine ⟨⟨heap_alloc_new w2 _, (hr2.alloc _).congr fun j hj => ?_, by omega⟩, hbb.alloc hbb.size _, hbb.size, (unhide HB).1.size⟩
    unfold Sp.repEd Sp.ed
    rw [if_pos hj])
  clear hr2 hb2 hgl HB HC hW1
  go_wp2
  rw [unhide HP]
  exact ⟨_, _, rfl, unhide HQ⟩
set_option maxRecDepth 100000 in
set_option maxHeartbeats 1000000 in
theorem within7_any (a n : Int) (w : World) (hn : 0 < n) (hn1 : n ≤ 4611686018427387904) :
    Calls Try.prog 9 #[.int .i64 a, .int .i64 n] w fun e w' => e = .returned (.int .i64 (a % n)) ∧ w' = w := by
  have h0 : 0 ≤ a % n := Int.emod_nonneg a (by omega)
  have h1 : a % n < n := Int.emod_lt_of_pos a hn
  rcases tmod_casesK a n hn with ⟨ha, hb⟩ | ⟨ha, hb⟩
  · have hc : -n ≤ a.tmod n := by omega
    have Hb := hide hb; clear hb h0 h1
    go_enter Try.func9, Try.ntmps9
    go_wp2
    go_ret
    exact ⟨ret_intK (unhide Hb), rfl⟩
  · have Hb := hide hb; clear hb h0 h1
    go_enter Try.func9, Try.ntmps9
    go_wp2
    go_ret
    exact ⟨ret_intK (unhide Hb), rfl⟩
end Go.Proofs.Ytohfmohkaaidpab


/- The law's step: one on both forests, answered the same. -/
namespace Go.Proofs.Ytohfmohkaaidpab
open Go Go.RowKit

/-- Both forests, of the same state. -/
structure LkB (w : World) (f g x o c n co cw : Nat) (U W : Nat → Int) : Prop where
  p : LkP w f g n U W
  r : LkR w x o c n co cw U W
  gx : g ≠ x
  go_ : g ≠ o
  gc : g ≠ c
  fo_ : f ≠ o
  fc : f ≠ c
  fo : Sp.Fo n U
theorem LkB.bt {p : Nat → Prop} {w w' : World} {f g x o c n co cw : Nat} {U W : Nat → Int} (h : LkB w f g x o c n co cw U W) (hb : Bt p w w') (h1 : ¬ p f) (h2 : ¬ p g) (h3 : ¬ p x) (h4 : ¬ p o) (h5 : ¬ p c) : LkB w' f g x o c n co cw U W := ⟨h.p.bt hb h1 h2, h.r.bt hb h3 h4 h5, h.gx, h.go_, h.gc, h.fo_, h.fc, h.fo⟩
theorem LkB.below {w w' : World} {f g x o c n co cw : Nat} {U W : Nat → Int} (h : LkB w f g x o c n co cw U W) (hb : Below w.heap.size w w') : LkB w' f g x o c n co cw U W := ⟨h.p.below hb, h.r.below hb, h.gx, h.go_, h.gc, h.fo_, h.fc, h.fo⟩
end Go.Proofs.Ytohfmohkaaidpab


/- The law's known: the chapter's example, and an edge. -/
namespace Go.Proofs.Ytohfmohkaaidpab
open Go Go.RowKit

theorem Sp.lk_ok {n k j a : Nat} {U : Nat → Int} (hk : k < n) (hj : j < n) (hr : U k = -1) (ha : Sp.Rt U j a) (hne : a ≠ k) : Sp.lkE n U (k : Int) (j : Int) = 0 := by
  unfold Sp.lkE
  rw [if_pos ⟨Sp.hs_yes hk, Sp.hs_yes hj⟩, Sp.hg_root hr, if_neg (by decide), Sp.rt_is hj ha, if_neg (by omega)]
theorem Sp.lkU_ok {n k : Nat} {U : Nat → Int} {u : Int} (h : Sp.lkE n U (k : Int) u = 0) : Sp.lkU n U (k : Int) u = Sp.upd U k u := by
  unfold Sp.lkU; rw [if_pos h, Int.toNat_natCast]
theorem Sp.lkW_ok {n k : Nat} {U W : Nat → Int} {u x : Int} (h : Sp.lkE n U (k : Int) u = 0) : Sp.lkW n U W (k : Int) u x = Sp.upd W k x := by
  unfold Sp.lkW; rw [if_pos h, Int.toNat_natCast]
def Sp.kU1 : Nat → Int := Sp.upd (fun _ => -1) 0 1
def Sp.kU2 : Nat → Int := Sp.upd Sp.kU1 1 2
def Sp.kW1 : Nat → Int := Sp.upd (fun _ => 0) 0 5
def Sp.kW2 : Nat → Int := Sp.upd Sp.kW1 1 3
theorem Sp.kE1 : Sp.lkE 3 (fun _ => -1) 0 1 = 0 := Sp.lk_ok (k := 0) (j := 1) (a := 1) (by decide) (by decide) rfl ⟨0, rfl, rfl⟩ (by decide)
theorem Sp.kE2 : Sp.lkE 3 Sp.kU1 1 2 = 0 := Sp.lk_ok (k := 1) (j := 2) (a := 2) (by decide) (by decide) (by decide) ⟨0, rfl, by decide⟩ (by decide)
theorem Sp.kUU1 : Sp.lkU 3 (fun _ => -1) 0 1 = Sp.kU1 := Sp.lkU_ok (k := 0) Sp.kE1
theorem Sp.kWW1 : Sp.lkW 3 (fun _ => -1) (fun _ => 0) 0 1 5 = Sp.kW1 := Sp.lkW_ok (k := 0) Sp.kE1
theorem Sp.kUU2 : Sp.lkU 3 Sp.kU1 1 2 = Sp.kU2 := Sp.lkU_ok (k := 1) Sp.kE2
theorem Sp.kWW2 : Sp.lkW 3 Sp.kU1 Sp.kW1 1 2 3 = Sp.kW2 := Sp.lkW_ok (k := 1) Sp.kE2
theorem Sp.kfo1 : Sp.Fo 3 Sp.kU1 := by rw [← Sp.kUU1]; exact (Sp.fo_new 3).lk 0 1
theorem Sp.kfo2 : Sp.Fo 3 Sp.kU2 := by rw [← Sp.kUU2]; exact Sp.kfo1.lk 1 2
theorem Sp.kup : Sp.Upw Sp.kU2 2 0 2 := ⟨1, by decide, 2, by decide, rfl⟩
theorem Sp.kdp : Sp.dp Sp.kU2 0 = 2 := Sp.dp_is Sp.kup (by decide)
theorem Sp.kls : Sp.ls Sp.kU2 Sp.kW2 0 = 1 := by
  unfold Sp.ls
  rw [show ((0 : Int)).toNat = 0 from rfl, Sp.kdp]
  decide
theorem Sp.khg : Sp.hg 3 Sp.kU2 0 = true := by decide
theorem Sp.ktn : Sp.tn 3 Sp.kU2 Sp.kW2 0 = Sp.trn 3 Sp.kU2 Sp.kW2 0 (-1) 0 := by
  unfold Sp.tn
  rw [if_pos (by decide), show ((0 : Int)).toNat = 0 from rfl, Sp.kdp]
theorem Sp.krt : Sp.rt 3 (Sp.tn 3 Sp.kU2 Sp.kW2 0).1 2 = 0 := by
  have h := (Sp.trn_ok (W := Sp.kW2) (x := 0) (k := 2) (v := 0) (b := 2) (a := 0) (l := -1) ⟨Sp.kfo2, by decide, Sp.kup, by decide, .inl ⟨rfl, rfl⟩⟩).2
  rw [Sp.ktn]
  exact Sp.rt_is (v := 2) (a := 0) (by decide) h
theorem Sp.kup2 : (Sp.tn 3 Sp.kU2 Sp.kW2 0).1 2 = 1 := by rw [Sp.ktn]; decide
theorem Sp.khg2 : Sp.hg 3 (Sp.tn 3 Sp.kU2 Sp.kW2 0).1 2 = true := Sp.hg_yes (v := 2) (by decide) (by rw [Sp.kup2]; decide)
theorem Sp.krt2 : Sp.rt 2 (fun _ => -1) 1 = 1 := Sp.rt_is (v := 1) (a := 1) (by decide) ⟨0, rfl, rfl⟩
set_option maxRecDepth 100000 in
set_option maxHeartbeats 8000000 in
theorem known7_any (w : World) : Calls Try.prog 6 #[] w fun e w' => e = .returned (.bool true) ∧ Below w.heap.size w w' := by
  have HC1 := hide (lknew_any 3 w (by decide) (by decide))
  obtain ⟨P, hP⟩ : ∃ P : Ending → World → Prop, P = fun e w' => e = .returned (.bool true) ∧ Below w.heap.size w w' := ⟨_, rfl⟩
  rw [← hP]
  have HP := hide hP
  clear hP
  go_enter Try.func6, Try.ntmps6
  go_wp2_with fail
  go_at_call 7
  refine (unhide HC1).mono ?_
  rintro e w1 ⟨f, g, rfl, hp1, hb1, hf, hg⟩
  have HC2 := hide (lklink_any (Sp.fo_new 3) 0 1 5 w1 hp1)
  rw [Sp.kE1, Sp.kUU1, Sp.kWW1] at HC2
  have HB1 := hide hb1
  clear hp1 hb1 HC1
  go_wp2_with fail
  go_at_call 8
  refine (unhide HC2).mono ?_
  rintro e w2 ⟨rfl, hp2, hb2⟩
  have HB2 : Hid (Below w.heap.size w w2) := hide ((unhide HB1).trans (hb2.below (fun k e => by rw [e]; exact hg) (unhide HB1).size))
  have HC3 := hide (lklink_any Sp.kfo1 1 2 3 w2 hp2)
  rw [Sp.kE2, Sp.kUU2, Sp.kWW2] at HC3
  clear hp2 hb2 HC2 HB1
  go_wp2_with fail
  go_at_call 8
  refine (unhide HC3).mono ?_
  rintro e w3 ⟨rfl, hp3, hb3⟩
  have HB3 : Hid (Below w.heap.size w w3) := hide ((unhide HB2).trans (hb3.below (fun k e => by rw [e]; exact hg) (unhide HB2).size))
  have HC4 := hide (lkleast_any Sp.kfo2 0 w3 hp3)
  rw [Sp.khg, if_pos rfl, if_pos rfl, Sp.kls, show Sp.kW2 1 = 3 by decide] at HC4
  have HP3 := hide hp3
  clear hp3 hb3 HC3 HB2
  go_wp2_with fail
  go_at_call 10
  refine (unhide HC4).mono ?_
  rintro e w4 ⟨rfl, hb4⟩
  have HB4 := hide ((unhide HB3).trans (hb4.mono (unhide HB3).size))
  have HC5 := hide (lkturn_any Sp.kfo2 0 w4 ((unhide HP3).below hb4))
  rw [show Sp.hs 3 0 = true by decide] at HC5
  clear hb4 HC4 HB3 HP3
  go_wp2_with fail
  go_at_call 11
  refine (unhide HC5).mono ?_
  rintro e w5 ⟨rfl, hp5, hb5⟩
  have HB5 : Hid (Below w.heap.size w w5) := hide ((unhide HB4).trans (hb5.below (fun k e => by rw [e]; exact hg) (unhide HB4).size))
  have HC6 := hide (lkup_any 2 w5 hp5)
  rw [Sp.khg2, if_pos rfl, show ((2 : Int)).toNat = 2 from rfl, Sp.kup2] at HC6
  have HP5 := hide hp5
  clear hp5 hb5 HC5 HB4
  go_wp2_with fail
  go_at_call 17
  refine (unhide HC6).mono ?_
  rintro e w6 ⟨rfl, hw⟩
  have hw' := hw.symm
  subst hw'
  clear hw HC6
  have HC7 := hide (lknew_any 2 w5 (by decide) (by decide))
  go_wp2_with fail
  go_at_call 7
  refine (unhide HC7).mono ?_
  rintro e w7 ⟨f2, g2, rfl, hp7, hb7, hf7, hg7⟩
  have HC8 := hide (lkroot_any (Sp.fo_new 2) 1 w7 hp7)
  rw [Sp.krt2] at HC8
  have HC9 := hide (lkroot_any (Sp.kfo2.tn Sp.kW2 0) 2 w7 ((unhide HP5).below hb7))
  rw [Sp.krt] at HC9
  have HE := hide ((unhide HB5).trans (hb7.mono (unhide HB5).size))
  clear hp7 hb7 HC7 HB5
  go_wp2_with fail
  go_at_call 13
  refine (unhide HC8).mono ?_
  rintro e w8 ⟨rfl, hw⟩
  have hw' := hw.symm
  subst hw'
  clear hw HC8
  go_wp2_with fail
  go_at_call 13
  refine (unhide HC9).mono ?_
  rintro e w9 ⟨rfl, hw⟩
  have hw' := hw.symm
  subst hw'
  clear hw HC9
  go_wp2
  rw [unhide HP]
  exact ⟨rfl, unhide HE⟩
end Go.Proofs.Ytohfmohkaaidpab


/- Ways up: how long they are; what Least tells; what Add leaves (P701). -/
namespace Go.Proofs.Ytohfmohkaaidpab
open Go Go.RowKit

def Sp.anc (U : Nat → Int) : Nat → Nat → Nat
  | 0, v => v
  | k + 1, v => Sp.anc U k (U v).toNat
theorem Sp.Upw.anc {U : Nat → Int} : ∀ {k v x : Nat}, Sp.Upw U k v x → x = Sp.anc U k v
  | 0, _, _, h => h
  | k + 1, v, x, ⟨u, e, h⟩ => by
    rw [Sp.anc, e, Int.toNat_natCast]
    exact Sp.Upw.anc h
theorem Sp.Upw.one {U : Nat → Int} {k v x y : Nat} (h : Sp.Upw U k v x) (h' : Sp.Upw U k v y) : x = y := by rw [h.anc, h'.anc]
theorem Sp.least_gen {U W : Nat → Int} : ∀ {k v b a0 : Nat}, Sp.Upw U k v b → U b = -1 →
    (Sp.leastA U W (k + 1) v a0 = a0 ∧ ∀ i x, i < k → Sp.Upw U i v x → W a0 < W x) ∨
    (∃ j, j < k ∧ Sp.Upw U j v (Sp.leastA U W (k + 1) v a0) ∧ W (Sp.leastA U W (k + 1) v a0) ≤ W a0 ∧ (∀ i x, i < j → Sp.Upw U i v x → W (Sp.leastA U W (k + 1) v a0) ≤ W x) ∧ (∀ i x, j < i → i < k → Sp.Upw U i v x → W (Sp.leastA U W (k + 1) v a0) < W x))
  | 0, v, b, a0, h, hb => by
    have e : b = v := h
    subst e
    exact .inl ⟨Sp.leastA_one hb 0, fun i x hi => by omega⟩
  | k + 1, v, b, a0, ⟨u, e, h⟩, hb => by
    rw [Sp.leastA_step e]
    have hsh : ∀ i x, Sp.Upw U (i + 1) v x → Sp.Upw U i u x := fun i x ⟨u', e', hx⟩ => by
      obtain rfl : u = u' := by omega
      exact hx
    have ih := Sp.least_gen (W := W) (a0 := if W v ≤ W a0 then v else a0) h hb
    generalize Sp.leastA U W (k + 1) u (if W v ≤ W a0 then v else a0) = A at *
    by_cases hle : W v ≤ W a0
    · rw [if_pos hle] at ih
      right
      rcases ih with ⟨rfl, h2⟩ | ⟨j, h1, h2, h3, h4, h5⟩
      · refine ⟨0, by omega, rfl, hle, fun i x hi => by omega, fun i x hi1 hi2 hx => ?_⟩
        obtain ⟨i, rfl⟩ : ∃ i', i = i' + 1 := ⟨i - 1, by omega⟩
        exact h2 i x (by omega) (hsh i x hx)
      · refine ⟨j + 1, by omega, ⟨u, e, h2⟩, by omega, fun i x hi hx => ?_, fun i x hi1 hi2 hx => ?_⟩
        · cases i with
          | zero =>
            have e2 : x = v := hx
            subst e2; exact h3
          | succ i => exact h4 i x (by omega) (hsh i x hx)
        · obtain ⟨i, rfl⟩ : ∃ i', i = i' + 1 := ⟨i - 1, by omega⟩
          exact h5 i x (by omega) (by omega) (hsh i x hx)
    · rw [if_neg hle] at ih
      rcases ih with ⟨rfl, h2⟩ | ⟨j, h1, h2, h3, h4, h5⟩
      · refine .inl ⟨rfl, fun i x hi hx => ?_⟩
        cases i with
        | zero =>
          have e2 : x = v := hx
          subst e2; omega
        | succ i => exact h2 i x (by omega) (hsh i x hx)
      · refine .inr ⟨j + 1, by omega, ⟨u, e, h2⟩, h3, fun i x hi hx => ?_, fun i x hi1 hi2 hx => ?_⟩
        · cases i with
          | zero =>
            have e2 : x = v := hx
            subst e2; omega
          | succ i => exact h4 i x (by omega) (hsh i x hx)
        · obtain ⟨i, rfl⟩ : ∃ i', i = i' + 1 := ⟨i - 1, by omega⟩
          exact h5 i x (by omega) (by omega) (hsh i x hx)
/-- What Least tells stands on the way; none of it is less, none nearer to the root as little. -/
theorem Sp.ls_on {U W : Nat → Int} {k v b : Nat} (h : Sp.Upw U (k + 1) v b) (hb : U b = -1) : ∃ j, j < k + 1 ∧ Sp.Upw U j v (Sp.ls U W (v : Int)) ∧ (∀ i x, i < k + 1 → Sp.Upw U i v x → W (Sp.ls U W (v : Int)) ≤ W x) ∧ (∀ i x, j < i → i < k + 1 → Sp.Upw U i v x → W (Sp.ls U W (v : Int)) < W x) := by
  have e : Sp.ls U W (v : Int) = Sp.leastA U W (k + 1 + 1) v v := by
    unfold Sp.ls
    rw [Int.toNat_natCast, Sp.dp_is h hb]
  rw [e]
  rcases Sp.least_gen (W := W) (a0 := v) h hb with ⟨h1, h2⟩ | ⟨j, h1, h2, h3, h4, h5⟩
  · exact absurd (h2 0 v (by omega) rfl) (by omega)
  · refine ⟨j, h1, h2, fun i x hi hx => ?_, h5⟩
    rcases Nat.lt_trichotomy i j with hij | hij | hij
    · exact h4 i x hij hx
    · subst hij
      rw [h2.one hx]; exact Int.le_refl _
    · exact Int.le_of_lt (h5 i x hij hi hx)
end Go.Proofs.Ytohfmohkaaidpab


/- The law LinkRows, walked. -/
namespace Go.Proofs.Ytohfmohkaaidpab
open Go Go.RowKit

/-- Vertices in a row: each of the first k hangs on the one ahead of it. -/
def Sp.rowU (k : Nat) : Nat → Int := fun v => if 1 ≤ v ∧ v < k then (v : Int) - 1 else -1
def Sp.rowW (ws : List Int) (k : Nat) : Nat → Int := fun v => if 1 ≤ v ∧ v < k then ws.getD (v - 1) 0 % 100 else 0
theorem Sp.rowU_one : Sp.rowU 1 = fun _ => -1 := funext fun v => if_neg (by omega)
theorem Sp.rowW_one (ws : List Int) : Sp.rowW ws 1 = fun _ => 0 := funext fun v => if_neg (by omega)
theorem Sp.rowU_succ {i : Nat} (hi : 1 ≤ i) : Sp.upd (Sp.rowU i) i ((i : Int) - 1) = Sp.rowU (i + 1) := funext fun v => by
  unfold Sp.upd Sp.rowU
  by_cases e : v = i
  · subst e; rw [if_pos rfl, if_pos ⟨hi, by omega⟩]
  · rw [if_neg e]
    by_cases h : 1 ≤ v ∧ v < i
    · rw [if_pos h, if_pos ⟨h.1, by omega⟩]
    · rw [if_neg h, if_neg (by omega)]
theorem Sp.rowW_succ {ws : List Int} {i : Nat} (hi : 1 ≤ i) : Sp.upd (Sp.rowW ws i) i (ws.getD (i - 1) 0 % 100) = Sp.rowW ws (i + 1) := funext fun v => by
  unfold Sp.upd Sp.rowW
  by_cases e : v = i
  · subst e; rw [if_pos rfl, if_pos ⟨hi, by omega⟩]
  · rw [if_neg e]
    by_cases h : 1 ≤ v ∧ v < i
    · rw [if_pos h, if_pos ⟨h.1, by omega⟩]
    · rw [if_neg h, if_neg (by omega)]
theorem Sp.rowU_up {k : Nat} : ∀ {j v : Nat}, j ≤ v → v < k → Sp.Upw (Sp.rowU k) j v (v - j)
  | 0, v, _, _ => rfl
  | j + 1, v, h, hv => by
    refine ⟨v - 1, ?_, ?_⟩
    · unfold Sp.rowU; rw [if_pos ⟨by omega, hv⟩]; omega
    · rw [show v - (j + 1) = v - 1 - j by omega]
      exact Sp.rowU_up (by omega) (by omega)
theorem Sp.rowU_rt {k v : Nat} (hv : v < k) : Sp.Rt (Sp.rowU k) v 0 := ⟨v, by have := Sp.rowU_up (k := k) (j := v) (Nat.le_refl v) hv; rwa [Nat.sub_self] at this, by unfold Sp.rowU; rw [if_neg (by omega)]⟩
theorem Sp.rowU_fo {n k : Nat} (_hk : k ≤ n) : Sp.Fo n (Sp.rowU k) := ⟨fun v => v, fun v hv => by
  unfold Sp.rowU
  by_cases h : 1 ≤ v ∧ v < k
  · rw [if_pos h]; exact .inr ⟨v - 1, by omega, by omega, by show v - 1 < v; omega⟩
  · rw [if_neg h]; exact .inl rfl⟩
theorem Sp.row_lk {n i : Nat} (hi : 1 ≤ i) (hin : i < n) : Sp.lkE n (Sp.rowU i) (i : Int) ((i : Int) - 1) = 0 := by
  have h := Sp.lk_ok (n := n) (k := i) (j := i - 1) (a := 0) (U := Sp.rowU i) hin (by omega) (by unfold Sp.rowU; rw [if_neg (by omega)]) (Sp.rowU_rt (by omega)) (by omega)
  rwa [show (((i - 1 : Nat)) : Int) = (i : Int) - 1 by omega] at h
/-- The row turned to t. -/
def Sp.cU (n t v : Nat) : Nat → Int := fun y => if v < y ∧ y ≤ t then (if y = t then -1 else (y : Int) + 1) else Sp.rowU n y
def Sp.fU (n t : Nat) : Nat → Int := fun y => if y ≤ t then (if y = t then -1 else (y : Int) + 1) else Sp.rowU n y
theorem Sp.row_trn {n t : Nat} (ht : t < n) : ∀ v, v ≤ t → ∀ (W : Nat → Int) (x : Int), (Sp.trn (v + 1) (Sp.cU n t v) W v (if v = t then -1 else (v : Int) + 1) x).1 = Sp.fU n t
  | 0, h, W, x => by
    have e : Sp.cU n t 0 0 = -1 := by
      unfold Sp.cU Sp.rowU; rw [if_neg (by omega), if_neg (by omega)]
    rw [Sp.trn, if_pos e]
    refine funext fun y => ?_
    show Sp.upd (Sp.cU n t 0) 0 _ y = _
    unfold Sp.upd Sp.cU Sp.fU
    by_cases e2 : y = 0
    · subst e2
      rw [if_pos rfl, if_pos (show 0 ≤ t by omega)]
    · rw [if_neg e2]
      by_cases h3 : y ≤ t
      · rw [if_pos ⟨by omega, h3⟩, if_pos h3]
      · rw [if_neg (by omega), if_neg h3]
  | v + 1, h, W, x => by
    have e : Sp.cU n t (v + 1) (v + 1) = (v : Int) := by
      unfold Sp.cU Sp.rowU; rw [if_neg (by omega), if_pos ⟨by omega, by omega⟩]; omega
    rw [Sp.trn, if_neg (by omega), e, Int.toNat_natCast]
    have e2 : Sp.upd (Sp.cU n t (v + 1)) (v + 1) (if v + 1 = t then -1 else ((v + 1 : Nat) : Int) + 1) = Sp.cU n t v := funext fun y => by
      unfold Sp.upd Sp.cU
      by_cases e3 : y = v + 1
      · subst e3
        rw [if_pos (rfl : v + 1 = v + 1), if_pos (show v < v + 1 ∧ v + 1 ≤ t from ⟨by omega, by omega⟩)]
      · rw [if_neg e3]
        by_cases h3 : v + 1 < y ∧ y ≤ t
        · rw [if_pos h3, if_pos (show v < y ∧ y ≤ t from ⟨by omega, h3.2⟩)]
        · rw [if_neg h3, if_neg (show ¬ (v < y ∧ y ≤ t) by omega)]
    rw [e2]
    have ih := Sp.row_trn (n := n) ht v (by omega) (Sp.upd W (v + 1) x) (W (v + 1))
    rw [if_neg (by omega)] at ih
    exact ih
theorem Sp.row_tn {n t : Nat} (ht : t < n) (W : Nat → Int) : (Sp.tn n (Sp.rowU n) W (t : Int)).1 = Sp.fU n t := by
  unfold Sp.tn
  have h1 : Sp.Upw (Sp.rowU n) t t 0 := by have := Sp.rowU_up (k := n) (j := t) (Nat.le_refl t) ht; rwa [Nat.sub_self] at this
  rw [if_pos (Sp.hs_yes ht), Int.toNat_natCast, Sp.dp_is h1 (by unfold Sp.rowU; rw [if_neg (by omega)])]
  have h2 := Sp.row_trn ht t (Nat.le_refl _) W 0
  rw [if_pos rfl] at h2
  have e : Sp.cU n t t = Sp.rowU n := funext fun y => by unfold Sp.cU; rw [if_neg (by omega)]
  rw [e] at h2
  exact h2
theorem Sp.chain_up {U : Nat → Int} {b : Nat} (hb : U b = -1) : ∀ d i, i + d = b → (∀ y, i ≤ y → y < b → U y = (y : Int) + 1) → Sp.Rt U i b
  | 0, i, h, _ => by
    obtain rfl : i = b := by omega
    exact ⟨0, rfl, hb⟩
  | d + 1, i, h, hU => by
    obtain ⟨k, h1, h2⟩ := Sp.chain_up hb d (i + 1) (by omega) (fun y hy1 hy2 => hU y (by omega) hy2)
    exact ⟨k + 1, ⟨i + 1, by rw [hU i (Nat.le_refl _) (by omega)]; omega, h1⟩, h2⟩
theorem Sp.chain_down {U : Nat → Int} {b : Nat} (hb : U b = -1) : ∀ d i, b + d = i → (∀ y, b < y → y ≤ i → U y = (y : Int) - 1) → Sp.Rt U i b
  | 0, i, h, _ => by
    obtain rfl : i = b := by omega
    exact ⟨0, rfl, hb⟩
  | d + 1, i, h, hU => by
    obtain ⟨k, h1, h2⟩ := Sp.chain_down hb d (i - 1) (by omega) (fun y hy1 hy2 => hU y hy1 (by omega))
    exact ⟨k + 1, ⟨i - 1, by rw [hU i (by omega) (Nat.le_refl _)]; omega, h1⟩, h2⟩
theorem Sp.fU_lt {n t y : Nat} (h : y < t) : Sp.fU n t y = (y : Int) + 1 := by unfold Sp.fU; rw [if_pos (by omega), if_neg (by omega)]
theorem Sp.fU_at {n t : Nat} : Sp.fU n t t = -1 := by unfold Sp.fU; rw [if_pos (Nat.le_refl _), if_pos rfl]
theorem Sp.fU_gt {n t y : Nat} (h : t < y) (hy : y < n) : Sp.fU n t y = (y : Int) - 1 := by unfold Sp.fU Sp.rowU; rw [if_neg (by omega), if_pos ⟨by omega, hy⟩]
/-- Where the turned row was cut it parts. -/
theorem Sp.row_parts {n t c i : Nat} (_ht : t < n) (_hc : c < n) (hct : c ≠ t) (hi : i < n) : Sp.Rt (Sp.upd (Sp.fU n t) c (-1)) i (if (c < t ∧ i ≤ c) ∨ (t < c ∧ c ≤ i) then c else t) := by
  have hcc : Sp.upd (Sp.fU n t) c (-1) c = -1 := Sp.upd_same _ _ _
  have htt : Sp.upd (Sp.fU n t) c (-1) t = -1 := by rw [Sp.upd_other _ _ (fun e => hct e.symm)]; exact Sp.fU_at
  by_cases hf : (c < t ∧ i ≤ c) ∨ (t < c ∧ c ≤ i)
  · rw [if_pos hf]
    rcases hf with ⟨h1, h2⟩ | ⟨h1, h2⟩
    · refine Sp.chain_up hcc (c - i) i (by omega) fun y hy1 hy2 => ?_
      rw [Sp.upd_other _ _ (by omega)]; exact Sp.fU_lt (by omega)
    · refine Sp.chain_down hcc (i - c) i (by omega) fun y hy1 hy2 => ?_
      rw [Sp.upd_other _ _ (by omega)]; exact Sp.fU_gt (by omega) (by omega)
  · rw [if_neg hf]
    by_cases h1 : i ≤ t
    · refine Sp.chain_up htt (t - i) i (by omega) fun y hy1 hy2 => ?_
      rw [Sp.upd_other _ _ (by omega)]; exact Sp.fU_lt (by omega)
    · refine Sp.chain_down htt (i - t) i (by omega) fun y hy1 hy2 => ?_
      rw [Sp.upd_other _ _ (by omega)]; exact Sp.fU_gt (by omega) (by omega)
set_option maxRecDepth 100000 in
theorem bit7_any (b : Bool) (w : World) : Calls Try.prog 14 #[.bool b] w fun e w' => e = .returned (.int .i64 (if b = true then 1 else 0)) ∧ w' = w := by
  cases b with
  | true =>
    go_enter Try.func14, Try.ntmps14
    go_wp2
    go_ret
    exact ⟨rfl, rfl⟩
  | false =>
    go_enter Try.func14, Try.ntmps14
    go_wp2
    go_ret
    exact ⟨rfl, rfl⟩
set_option maxRecDepth 100000 in
set_option maxHeartbeats 16000000 in
theorem linkRows_any (at0 turn : Int) (ws : List Int) (nv : Value) (w : World) (hv : Ints w nv ws) :
    Calls Try.prog 3 #[nv, .int .i64 at0, .int .i64 turn] w fun e w' => e = .returned (.bool true) ∧ Below w.heap.size w w' := by
  obtain ⟨P, hP⟩ : ∃ P : Ending → World → Prop, P = fun e w' => e = .returned (.bool true) ∧ Below w.heap.size w w' := ⟨_, rfl⟩
  rw [← hP]
  have HP := hide hP
  clear hP
  obtain ⟨na, nc, rfl, -, -, HNa⟩ := hv.allA
  clear hv
  obtain ⟨n, hn⟩ : ∃ n : Nat, (ws.length ≤ 40 ∧ n = ws.length + 1) ∨ (40 < ws.length ∧ n = 41) := by
    by_cases h : ws.length ≤ 40
    · exact ⟨_, .inl ⟨h, rfl⟩⟩
    · exact ⟨41, .inr ⟨by omega, rfl⟩⟩
  have hn1 : 1 ≤ n := by omega
  have hn41 : n ≤ 41 := by omega
  have hnl : n ≤ ws.length + 1 := by omega
  go_enter Try.func3, Try.ntmps3
  go_wp2_with fail
  go_at_call 6
  refine (known7_any w).mono ?_
  rintro e w1 ⟨rfl, hb1⟩
  have HB1 := hide hb1
  clear hb1
  go_upto_region 3 with fail
  obtain ⟨wk, hwk⟩ : ∃ wk, wk = w1 := ⟨_, rfl⟩
  go_cut [7] (fun s7 w9 => s7 = .int .i64 (n : Int) ∧ w9 = w1)
  case first =>
    rcases hn with ⟨h1, h2⟩ | ⟨h1, h2⟩
    · subst h2
      have hl40 : (ws.length : Int) ≤ 40 := by omega
      go_wp2
      go_meet
      exact ⟨by go_num, rfl⟩
    · subst h2
      have hl40 : ¬ (ws.length : Int) ≤ 40 := by omega
      go_wp2
      go_meet
      exact ⟨rfl, rfl⟩
  case rest =>
    obtain ⟨h7, hw9⟩ := hcut
    subst h7
    have hw9' := hw9.symm
    subst hw9'
    clear hn hwk hw9
    have HC1 := hide (lknew_any n w1 hn1 (by omega))
    go_wp2_with fail
    go_at_call 7
    refine (unhide HC1).mono ?_
    rintro e w2 ⟨f, g, rfl, hp2, hb2, hf2, hg2⟩
    have HB2 := hide ((unhide HB1).trans (hb2.mono (unhide HB1).size))
    have hgl2 := hp2.lt
    have HP2 := hide hp2
    have hfw : w.heap.size ≤ f := Nat.le_trans (unhide HB1).size hf2
    have hgw : w.heap.size ≤ g := Nat.le_trans (unhide HB1).size hg2
    clear hp2 hb2 HC1 HB1
    have HQ : Hid (Below w.heap.size w w2 ∧ LkP w2 f g n (Sp.rowU 1) (Sp.rowW ws 1)) := hide ⟨unhide HB2, by rw [Sp.rowU_one, Sp.rowW_one]; exact unhide HP2⟩
    clear HB2 HP2
    go_wp2
    go_loopg [9] (n - 1) (fun g' s9 wr => ∃ i : Nat, i + g' = n ∧ 1 ≤ i ∧ s9 = .int .i64 (i : Int) ∧ Hid (Below w.heap.size w wr ∧ LkP wr f g n (Sp.rowU i) (Sp.rowW ws i)))
    case atStart => exact ⟨1, by omega, by omega, rfl, HQ⟩
    case round =>
      clear HQ
      obtain ⟨i, hig, hi0, rfl, HQ⟩ := hrel
      cases gk with
      | succ g' =>
        have hin : i < n := by omega
        have hinI : (i : Int) < (n : Int) := by omega
        have hi1 : (i : Int) - 1 = ((i - 1 : Nat) : Int) := by omega
        obtain ⟨i1, he1⟩ : ∃ i1, i - 1 = i1 := ⟨_, rfl⟩
        rw [he1] at hi1
        have hi1l : i1 < ws.length := by omega
        have hi1I : (i1 : Int) < (ws.length : Int) := by omega
        obtain ⟨b, o', rfl, -, hcx⟩ := unhide HNa i1 hi1l
        have c1 := hcx wr (unhide HQ).1
        obtain ⟨z, hz⟩ : ∃ z, ws.getD i1 0 = z := ⟨_, rfl⟩
        rw [hz] at c1
        obtain ⟨y, hy⟩ : ∃ y, z % 100 = y := ⟨_, rfl⟩
        have hC := within7_any z 100 wr (by omega) (by omega)
        rw [hy] at hC
        have HC := hide hC
        have Hwy : Hid (ws.getD (i - 1) 0 % 100 = y) := hide (by rw [he1, hz, hy])
        clear hcx hz hy hC he1
        have hl := lklink_any (Sp.rowU_fo (n := n) (k := i) (by omega)) (i : Int) ((i : Int) - 1) y wr (unhide HQ).2
        rw [Sp.row_lk hi0 hin, Sp.lkU_ok (Sp.row_lk hi0 hin), Sp.lkW_ok (Sp.row_lk hi0 hin), Sp.rowU_succ hi0, ← unhide Hwy, Sp.rowW_succ hi0, hi1] at hl
        rw [unhide Hwy] at hl
        have HL := hide hl
        clear hl
        go_wp2_with fail
        go_at_call 9
        refine (unhide HC).mono ?_
        rintro e wz ⟨rfl, hwz⟩
        have hwz' := hwz.symm
        subst hwz'
        clear hwz
        clear HC
        go_wp2_with fail
        go_at_call 8
        refine (unhide HL).mono ?_
        rintro e w4 ⟨rfl, hp4, hb4⟩
        have HQ2 : Hid (Below w.heap.size w w4 ∧ LkP w4 f g n (Sp.rowU (i + 1)) (Sp.rowW ws (i + 1))) := hide ⟨(unhide HQ).1.trans (hb4.below (fun k e => by rw [e]; exact hgw) (unhide HQ).1.size), hp4⟩
        clear hp4 hb4 HL HQ c1
        go_wp2
        go_roundg g'
        case rel => exact ⟨i + 1, by omega, by omega, by go_num, HQ2⟩
        case measure => omega
      | zero =>
        obtain rfl : n = i := by omega
        have hnn : ¬ (n : Int) < (n : Int) := by omega
        have HF : Hid (Sp.Fo n (Sp.rowU n)) := hide (Sp.rowU_fo (Nat.le_refl n))
        have hl := lkleast_any (unhide HF) ((n : Int) - 1) wr (unhide HQ).2
        obtain ⟨n1, hn1e⟩ : ∃ n1 : Nat, (n : Int) - 1 = (n1 : Int) := ⟨n - 1, by omega⟩
        rw [hn1e] at hl
        have hn1n : n1 < n := by omega
        have hup : Sp.Upw (Sp.rowU n) n1 n1 0 := by have := Sp.rowU_up (k := n) (j := n1) (Nat.le_refl n1) hn1n; rwa [Nat.sub_self] at this
        clear hig hi0
        cases n1 with
        | zero =>
          have hnn1 : n = 1 := by omega
          rw [Sp.hg_root (show Sp.rowU n 0 = -1 by unfold Sp.rowU; rw [if_neg (by omega)]), if_neg (by decide), if_neg (by decide)] at hl
          have HL := hide hl
          have hgt : ¬ (n : Int) > 1 := by omega
          have hn11 : ¬ (1 : Int) < (n : Int) := by omega
          have hlt3 : (n : Int) < 3 := by omega
          have HQ1 := hide (unhide HQ).1
          have hn1e' : (n : Int) - 1 = 0 := by omega
          clear hl hup HQ hnn1 hn1e
          go_wp2_with fail
          go_at_call 10
          refine (unhide HL).mono ?_
          rintro e w4 ⟨rfl, hb4⟩
          have HE := hide ((unhide HQ1).trans (hb4.mono (unhide HQ1).size))
          clear hb4 HL HQ1
          go_wp2
          go_loopg [13] 0 (fun _g s13 wr => s13 = .int .i64 1 ∧ wr = w4)
          case atStart => exact ⟨rfl, rfl⟩
          case round =>
            obtain ⟨rfl, hwr⟩ := hrel
            subst hwr
            go_wp2
            rw [unhide HP]
            exact ⟨rfl, unhide HE⟩
        | succ n1 =>
          have hne : Sp.rowU n (n1 + 1) ≠ -1 := by unfold Sp.rowU; rw [if_pos ⟨by omega, hn1n⟩]; omega
          obtain ⟨j, hj1, hj2, hj3, hj4⟩ := Sp.ls_on (W := Sp.rowW ws n) hup (by unfold Sp.rowU; rw [if_neg (by omega)])
          rw [Sp.hg_yes hn1n hne, if_pos rfl, if_pos rfl] at hl
          obtain ⟨A, hA⟩ : ∃ A, Sp.ls (Sp.rowU n) (Sp.rowW ws n) ((n1 + 1 : Nat) : Int) = A := ⟨_, rfl⟩
          rw [hA] at hl hj2 hj3 hj4
          have hAj : A = n1 + 1 - j := hj2.one (Sp.rowU_up (by omega) hn1n)
          have HLs : Hid (∀ i, 1 ≤ i → i < n → Sp.rowW ws n A ≤ ws.getD (i - 1) 0 % 100 ∧ (i < A → Sp.rowW ws n A < ws.getD (i - 1) 0 % 100)) := hide fun i h1 h2 => by
            have hu := Sp.rowU_up (k := n) (j := n1 + 1 - i) (v := n1 + 1) (by omega) hn1n
            rw [show n1 + 1 - (n1 + 1 - i) = i by omega] at hu
            have e : Sp.rowW ws n i = ws.getD (i - 1) 0 % 100 := by unfold Sp.rowW; rw [if_pos ⟨h1, h2⟩]
            rw [← e]
            exact ⟨hj3 _ i (by omega) hu, fun h3 => hj4 _ i (by omega) (by omega) hu⟩
          obtain ⟨wl, hwl⟩ : ∃ wl, Sp.rowW ws n A = wl := ⟨_, rfl⟩
          rw [hwl] at hl HLs
          have HL := hide hl
          obtain ⟨q1, hq1⟩ : ∃ q1, n1 + 1 = q1 := ⟨_, rfl⟩
          rw [hq1] at hn1e HL
          have hgt : (n : Int) > 1 := by omega
          have hn2 : 2 ≤ n := by omega
          clear hl hup hne hj1 hj2 hj3 hj4 hA hAj hwl hn1n hq1
          go_wp2_with fail
          go_at_call 10
          refine (unhide HL).mono ?_
          rintro e w4 ⟨rfl, hb4⟩
          have HB4 := hide (And.intro ((unhide HQ).1.trans (hb4.mono (unhide HQ).1.size)) ((unhide HQ).2.below hb4))
          clear hb4 HL HQ
          go_wp2
          go_loopg [13] (n - 1) (fun g' s13 wr => ∃ i : Nat, i + g' = n ∧ 1 ≤ i ∧ s13 = .int .i64 (i : Int) ∧ wr = w4)
          case atStart => exact ⟨1, by omega, by omega, rfl, rfl⟩
          case round =>
            obtain ⟨i, hig, hi0, rfl, hwr⟩ := hrel
            subst hwr
            cases gk with
            | succ g' =>
              have hin : i < n := by omega
              have hinI : (i : Int) < (n : Int) := by omega
              have hi1 : (i : Int) - 1 = ((i - 1 : Nat) : Int) := by omega
              obtain ⟨i1, he1⟩ : ∃ i1, i - 1 = i1 := ⟨_, rfl⟩
              rw [he1] at hi1
              have hi1l : i1 < ws.length := by omega
              have hi1I : (i1 : Int) < (ws.length : Int) := by omega
              obtain ⟨b, o', rfl, -, hcx⟩ := unhide HNa i1 hi1l
              have c1 := hcx wr (unhide HB4).1
              obtain ⟨z, hz⟩ : ∃ z, ws.getD i1 0 = z := ⟨_, rfl⟩
              rw [hz] at c1
              obtain ⟨y, hy⟩ : ∃ y, z % 100 = y := ⟨_, rfl⟩
              have hC := within7_any z 100 wr (by omega) (by omega)
              rw [hy] at hC
              have HC := hide hC
              have Hwy : Hid (ws.getD (i - 1) 0 % 100 = y) := hide (by rw [he1, hz, hy])
              clear hcx hz hy hC he1
              have hle := (unhide HLs i hi0 hin).1
              have hlt := (unhide HLs i hi0 hin).2
              rw [unhide Hwy] at hle hlt
              have hno : ¬ y < wl := by omega
              by_cases hyw : y = wl
              · have hyb : (y == wl) = true := beq_iff_eq.2 hyw
                have hiA : ¬ (i : Int) < (A : Int) := fun e => by have := hlt (by omega); omega
                clear hle hlt hyw
                go_wp2_with fail
                go_at_call 9
                refine (unhide HC).mono ?_
                rintro e wz ⟨rfl, hwz⟩
                have hwz' := hwz.symm
                subst hwz'
                clear hwz
                clear HC
                go_wp2
                go_roundg g'
                case rel => exact ⟨i + 1, by omega, by omega, by go_num, rfl⟩
                case measure => omega
              · have hyb : (y == wl) = false := beq_eq_false_iff_ne.2 hyw
                clear hle hlt hyw
                go_wp2_with fail
                go_at_call 9
                refine (unhide HC).mono ?_
                rintro e wz ⟨rfl, hwz⟩
                have hwz' := hwz.symm
                subst hwz'
                clear hwz
                clear HC
                go_wp2
                go_roundg g'
                case rel => exact ⟨i + 1, by omega, by omega, by go_num, rfl⟩
                case measure => omega
            | zero =>
              obtain rfl : n = i := by omega
              clear hig hi0
              by_cases hn3 : n < 3
              · have hn3I : (n : Int) < 3 := by omega
                go_wp2
                rw [unhide HP]
                exact ⟨rfl, (unhide HB4).1⟩
              · have hn3I : ¬ (n : Int) < 3 := by omega
                have ha0t : 0 ≤ turn % (n : Int) := Int.emod_nonneg _ (by omega)
                have ha1t : turn % (n : Int) < (n : Int) := Int.emod_lt_of_pos _ (by omega)
                obtain ⟨t, hat⟩ : ∃ t : Nat, turn % (n : Int) = (t : Int) := ⟨(turn % (n : Int)).toNat, by omega⟩
                have htn : t < n := by omega
                have HWt : Hid (∀ w', Calls Try.prog 9 #[.int .i64 turn, .int .i64 (n : Int)] w' fun e w'' => e = .returned (.int .i64 (t : Int)) ∧ w'' = w') := hide (fun w' => by rw [← hat]; exact within7_any turn (n : Int) w' (by omega) (by omega))
                clear ha0t ha1t hat
                have ha0c : 0 ≤ at0 % (n : Int) := Int.emod_nonneg _ (by omega)
                have ha1c : at0 % (n : Int) < (n : Int) := Int.emod_lt_of_pos _ (by omega)
                obtain ⟨c, hac⟩ : ∃ c : Nat, at0 % (n : Int) = (c : Int) := ⟨(at0 % (n : Int)).toNat, by omega⟩
                have hcn : c < n := by omega
                have HWc : Hid (∀ w', Calls Try.prog 9 #[.int .i64 at0, .int .i64 (n : Int)] w' fun e w'' => e = .returned (.int .i64 (c : Int)) ∧ w'' = w') := hide (fun w' => by rw [← hac]; exact within7_any at0 (n : Int) w' (by omega) (by omega))
                clear ha0c ha1c hac
                go_wp2_with fail
                go_at_call 9
                refine (unhide HWt _).mono ?_
                rintro e wz ⟨rfl, hwz⟩
                have hwz' := hwz.symm
                subst hwz'
                clear hwz
                have hT := lkturn_any (unhide HF) (t : Int) wr (unhide HB4).2
                rw [Sp.hs_yes htn, Sp.row_tn htn] at hT
                obtain ⟨W5, hW5⟩ : ∃ W5, (Sp.tn n (Sp.rowU n) (Sp.rowW ws n) (t : Int)).2 = W5 := ⟨_, rfl⟩
                rw [hW5] at hT
                have HT := hide hT
                have HF2 : Hid (Sp.Fo n (Sp.fU n t)) := hide (by have h := (unhide HF).tn (Sp.rowW ws n) (t : Int); rwa [Sp.row_tn htn] at h)
                clear hT hW5
                go_wp2_with fail
                go_at_call 11
                refine (unhide HT).mono ?_
                rintro e w5 ⟨rfl, hp5, hb5⟩
                have HB5 := hide (And.intro ((unhide HB4).1.trans (hb5.below (fun k e => by rw [e]; exact hgw) (unhide HB4).1.size)) hp5)
                clear hp5 hb5 HT HB4
                go_wp2_with fail
                go_at_call 9
                refine (unhide HWc _).mono ?_
                rintro e wz ⟨rfl, hwz⟩
                have hwz' := hwz.symm
                subst hwz'
                clear hwz
                clear HWt HWc
                by_cases hct : c = t
                · subst hct
                  have hcb : ((c : Int) == (c : Int)) = true := by simp
                  have hg0 : Sp.hg n (Sp.fU n c) (c : Int) = false := Sp.hg_root Sp.fU_at
                  have hC := lkcut_any (c : Int) w5 (unhide HB5).2
                  have e7 : Sp.ctE n (Sp.fU n c) (c : Int) = 7 := by unfold Sp.ctE; rw [if_pos (Sp.hs_yes hcn), hg0, if_neg (by decide)]
                  unfold Sp.ctU Sp.ctW at hC
                  rw [e7, hg0, if_neg (by decide), if_neg (by decide)] at hC
                  have HCc := hide hC
                  have Hr0 : Hid (Sp.Rt (Sp.fU n c) 0 c) := hide (Sp.chain_up Sp.fU_at c 0 (by omega) fun y _ hy => Sp.fU_lt hy)
                  clear hC e7 hg0
                  go_wp2_with fail
                  go_at_call 12
                  refine (unhide HCc).mono ?_
                  rintro e w6 ⟨rfl, hp6, hb6⟩
                  have hR := lkroot_any (unhide HF2) 0 w6 hp6
                  have hn0 : 0 < n := Nat.lt_of_lt_of_le Nat.zero_lt_one hn1
                  rw [show Sp.rt n (Sp.fU n c) 0 = (c : Int) from Sp.rt_is hn0 (unhide Hr0)] at hR
                  have HR := hide hR
                  have HE := hide ((unhide HB5).1.trans (hb6.below (fun k e => by rw [e]; exact hgw) (unhide HB5).1.size))
                  clear hR hp6 hb6 HCc
                  go_wp2_with fail
                  go_at_call 13
                  refine (unhide HR).mono ?_
                  rintro e wz ⟨rfl, hw⟩
                  have hw' := hw.symm
                  subst hw'
                  clear hw
                  go_wp2
                  rw [unhide HP]
                  exact ⟨rfl, unhide HE⟩
                · have hcb : ((c : Int) == (t : Int)) = false := beq_eq_false_iff_ne.2 (by omega)
                  have hg1 : Sp.hg n (Sp.fU n t) (c : Int) = true := Sp.hg_yes hcn (by
                    rcases Nat.lt_or_ge c t with h | h
                    · rw [Sp.fU_lt h]; omega
                    · rw [Sp.fU_gt (by omega) hcn]; omega)
                  have hC := lkcut_any (c : Int) w5 (unhide HB5).2
                  have e0 : Sp.ctE n (Sp.fU n t) (c : Int) = 0 := by unfold Sp.ctE; rw [if_pos (Sp.hs_yes hcn), if_pos hg1]
                  unfold Sp.ctU at hC
                  rw [e0, if_pos hg1, Int.toNat_natCast] at hC
                  obtain ⟨W9, hW9⟩ : ∃ W9, Sp.ctW n (Sp.fU n t) W5 (c : Int) = W9 := ⟨_, rfl⟩
                  rw [hW9] at hC
                  have HCc := hide hC
                  have HF3 : Hid (Sp.Fo n (Sp.upd (Sp.fU n t) c (-1))) := hide ((unhide HF2).cut hcn)
                  clear hC e0 hg1 hW9
                  go_wp2_with fail
                  go_at_call 12
                  refine (unhide HCc).mono ?_
                  rintro e w6 ⟨rfl, hp6, hb6⟩
                  have HX := hide (And.intro ((unhide HB5).1.trans (hb6.below (fun k e => by rw [e]; exact hgw) (unhide HB5).1.size)) hp6)
                  clear hp6 hb6 HCc HB5
                  go_wp2
                  go_loopg [17] n (fun g' s17 wr => ∃ i : Nat, i + g' = n ∧ s17 = .int .i64 (i : Int) ∧ Hid (Below w.heap.size w wr ∧ LkP wr f g n (Sp.upd (Sp.fU n t) c (-1)) W9))
                  case atStart => exact ⟨0, by omega, rfl, HX⟩
                  case round =>
                    clear HX
                    obtain ⟨i, hig, rfl, HX⟩ := hrel
                    cases gk with
                    | succ g' =>
                      have hin : i < n := by omega
                      have hinI : (i : Int) < (n : Int) := by omega
                      obtain ⟨far, hfar⟩ : ∃ far, decide ((c < t ∧ i ≤ c) ∨ (t < c ∧ c ≤ i)) = far := ⟨_, rfl⟩
                      have hRr := lkroot_any (unhide HF3) (i : Int) wr (unhide HX).2
                      rw [Sp.rt_is hin (Sp.row_parts htn hcn hct hin)] at hRr
                      have HbA := hide (bit7_any far)
                      obtain ⟨lst, hlst⟩ : ∃ lst, lst = wr.alloc (.cells #[.int .i64 (t : Int), .int .i64 (c : Int)] 3) := ⟨_, rfl⟩
                      have hbl : Below wr.heap.size wr lst := by rw [hlst]; exact (Below.refl _ wr).alloc (Nat.le_refl _) _
                      have HX2 : Hid (Below w.heap.size w lst ∧ LkP lst f g n (Sp.upd (Sp.fU n t) c (-1)) W9) := hide ⟨(unhide HX).1.trans (hbl.mono (unhide HX).1.size), (unhide HX).2.below hbl⟩
                      have k0 : lst.cell? ⟨wr.heap.size, 0, none⟩ = some (.int .i64 (t : Int)) := by rw [hlst, cell_of_row _ _ _ _ _ _ (heap_alloc_new wr _)]; rfl
                      have k1 : lst.cell? ⟨wr.heap.size, 1, none⟩ = some (.int .i64 (c : Int)) := by rw [hlst, cell_of_row _ _ _ _ _ _ (heap_alloc_new wr _)]; rfl
                      have Hct : Hid ((c < t ↔ (c : Int) < (t : Int)) ∧ (t < c ↔ (t : Int) < (c : Int))) := hide ⟨by omega, by omega⟩
                      have hcc : ((c : Int) != (c : Int)) = false := by simp
                      have htt : ((t : Int) != (t : Int)) = false := by simp
                      clear hbl
                      rcases (show (c < t ∧ i ≤ c) ∨ (c < t ∧ ¬ i ≤ c) ∨ (t < c ∧ c ≤ i) ∨ (t < c ∧ ¬ c ≤ i) by omega) with ⟨q1, q2⟩ | ⟨q1, q2⟩ | ⟨q1, q2⟩ | ⟨q1, q2⟩
                      · rw [if_pos (.inl ⟨q1, q2⟩)] at hRr
                        obtain rfl : far = true := by rw [← hfar]; exact decide_eq_true (.inl ⟨q1, q2⟩)
                        rw [if_pos rfl] at HbA
                        have HRr := hide hRr
                        have i1 : (c : Int) < (t : Int) := by omega
                        have i2 : (i : Int) ≤ (c : Int) := by omega
                        clear hRr hfar
                        go_wp2_with fail
                        go_at_call 13
                        refine (unhide HRr).mono ?_
                        rintro e wz ⟨rfl, hw⟩
                        have hw' := hw.symm
                        subst hw'
                        clear hw
                        go_wp2_with fail
                        go_at_call 14
                        rw [← hlst]
                        clear hlst
                        refine (unhide HbA lst).mono ?_
                        rintro e wz ⟨rfl, hw⟩
                        have hw' := hw.symm
                        subst hw'
                        clear hw
                        go_wp2
                        go_roundg g'
                        case rel => exact ⟨i + 1, by omega, by go_num, HX2⟩
                        case measure => omega
                      · rw [if_neg (by omega)] at hRr
                        obtain rfl : far = false := by rw [← hfar]; exact decide_eq_false (by omega)
                        rw [if_neg (by decide)] at HbA
                        have HRr := hide hRr
                        have i1 : (c : Int) < (t : Int) := by omega
                        have i2 : ¬ (i : Int) ≤ (c : Int) := by omega
                        have i3 : ¬ (c : Int) > (t : Int) := by omega
                        clear hRr hfar
                        go_wp2_with fail
                        go_at_call 13
                        refine (unhide HRr).mono ?_
                        rintro e wz ⟨rfl, hw⟩
                        have hw' := hw.symm
                        subst hw'
                        clear hw
                        go_wp2_with fail
                        go_at_call 14
                        rw [← hlst]
                        clear hlst
                        refine (unhide HbA lst).mono ?_
                        rintro e wz ⟨rfl, hw⟩
                        have hw' := hw.symm
                        subst hw'
                        clear hw
                        go_wp2
                        go_roundg g'
                        case rel => exact ⟨i + 1, by omega, by go_num, HX2⟩
                        case measure => omega
                      · rw [if_pos (.inr ⟨q1, q2⟩)] at hRr
                        obtain rfl : far = true := by rw [← hfar]; exact decide_eq_true (.inr ⟨q1, q2⟩)
                        rw [if_pos rfl] at HbA
                        have HRr := hide hRr
                        have i1 : ¬ (c : Int) < (t : Int) := by omega
                        have i3 : (c : Int) > (t : Int) := by omega
                        have i2 : (i : Int) ≥ (c : Int) := by omega
                        have i2d : decide (c ≤ i) = true := decide_eq_true q2
                        clear hRr hfar
                        go_wp2_with fail
                        go_at_call 13
                        refine (unhide HRr).mono ?_
                        rintro e wz ⟨rfl, hw⟩
                        have hw' := hw.symm
                        subst hw'
                        clear hw
                        go_wp2_with fail
                        go_at_call 14
                        rw [← hlst]
                        clear hlst
                        refine (unhide HbA lst).mono ?_
                        rintro e wz ⟨rfl, hw⟩
                        have hw' := hw.symm
                        subst hw'
                        clear hw
                        go_wp2
                        go_roundg g'
                        case rel => exact ⟨i + 1, by omega, by go_num, HX2⟩
                        case measure => omega
                      · rw [if_neg (by omega)] at hRr
                        obtain rfl : far = false := by rw [← hfar]; exact decide_eq_false (by omega)
                        rw [if_neg (by decide)] at HbA
                        have HRr := hide hRr
                        have i1 : ¬ (c : Int) < (t : Int) := by omega
                        have i3 : (c : Int) > (t : Int) := by omega
                        have i2 : ¬ (i : Int) ≥ (c : Int) := by omega
                        have i2d : decide (c ≤ i) = false := decide_eq_false q2
                        clear hRr hfar
                        go_wp2_with fail
                        go_at_call 13
                        refine (unhide HRr).mono ?_
                        rintro e wz ⟨rfl, hw⟩
                        have hw' := hw.symm
                        subst hw'
                        clear hw
                        go_wp2_with fail
                        go_at_call 14
                        rw [← hlst]
                        clear hlst
                        refine (unhide HbA lst).mono ?_
                        rintro e wz ⟨rfl, hw⟩
                        have hw' := hw.symm
                        subst hw'
                        clear hw
                        go_wp2
                        go_roundg g'
                        case rel => exact ⟨i + 1, by omega, by go_num, HX2⟩
                        case measure => omega
                    | zero =>
                      obtain rfl : n = i := by omega
                      have hnn2 : ¬ (n : Int) < (n : Int) := by omega
                      go_wp2
                      rw [unhide HP]
                      exact ⟨rfl, (unhide HX).1⟩
end Go.Proofs.Ytohfmohkaaidpab


