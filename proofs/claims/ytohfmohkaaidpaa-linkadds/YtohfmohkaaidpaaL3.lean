/- What the proof needs, part 3. -/
import Derived.Test.YtohfmohkaaidpaaL2
/- Package link: Add, Least. -/
namespace Go.Proofs.Ytohfmohkaaidpaa
open Go Go.RowKit

/-- What Add leaves. -/
noncomputable def Sp.ad (n : Nat) (U W : Nat → Int) (v by_ : Int) : Nat → Int := if Sp.hs n v = true then Sp.addW U by_ (Sp.dp U v.toNat + 1) W v.toNat else W
theorem Sp.addW_one {U : Nat → Int} {by_ : Int} {W : Nat → Int} {v : Nat} (h : U v = -1) (k : Nat) : Sp.addW U by_ (k + 1) W v = W := by
  rw [Sp.addW, if_pos h]
theorem Sp.addW_step {U : Nat → Int} {by_ : Int} {W : Nat → Int} {v u : Nat} (h : U v = (u : Int)) (k : Nat) : Sp.addW U by_ (k + 1) W v = Sp.addW U by_ k (Sp.upd W v (IntKind.i64.wrap (W v + by_))) u := by
  rw [Sp.addW, if_neg (by omega), h, Int.toNat_natCast]
set_option maxRecDepth 100000 in
set_option maxHeartbeats 4000000 in
theorem lkadd_any {f g n : Nat} {U W : Nat → Int} (hF : Sp.Fo n U) (v by_ : Int) (w : World) (h : LkP w f g n U W) :
    Calls Try.prog 22 #[.pointer (some ⟨f, 0, none⟩), .int .i64 v, .int .i64 by_] w fun e w' => e = .returned (.bool (Sp.hs n v)) ∧ LkP w' f g n U (Sp.ad n U W v by_) ∧ Bt (fun b => b = g) w w' := by
  unfold Sp.ad
  rcases Sp.int_case n v with h1 | ⟨k, rfl, hk⟩
  · have HC := hide (lkhangs_any v w h)
    have HC2 := hide (lkhas_any v w h)
    rw [Sp.hg_no h1] at HC
    rw [Sp.hs_no h1] at HC2 ⊢
    rw [if_neg (by decide)]
    have H := hide h
    obtain ⟨P, hP⟩ : ∃ P : Ending → World → Prop, P = fun e w' => e = .returned (.bool false) ∧ LkP w' f g n U W ∧ Bt (fun b => b = g) w w' := ⟨_, rfl⟩
    rw [← hP]
    have HP := hide hP
    clear h h1 hF hP
    go_enter Try.func22, Try.ntmps22
    go_wp2
    go_loopg [7] 0 (fun _g s7 wr => s7 = .int .i64 v ∧ wr = w)
    case atStart => exact ⟨rfl, rfl⟩
    case round =>
      obtain ⟨rfl, hwr⟩ := hrel
      subst hwr
      go_wp2_with fail
      go_at_call 33
      refine (unhide HC).mono ?_
      rintro e w' ⟨rfl, hw⟩
      have hw' := hw.symm
      subst hw'
      clear hw
      go_wp2_with fail
      go_at_call 32
      refine (unhide HC2).mono ?_
      rintro e w' ⟨rfl, hw⟩
      have hw' := hw.symm
      subst hw'
      go_wp2
      rw [unhide HP]
      exact ⟨rfl, unhide H, Bt.refl _ _⟩
  · rw [Sp.hs_yes hk, if_pos rfl, Int.toNat_natCast]
    obtain ⟨m, a, hu, ha, -⟩ := hF.ex hk
    rw [Sp.dp_is hu ha]
    obtain ⟨F, hFF⟩ : ∃ F, Sp.addW U by_ (m + 1) W k = F := ⟨_, rfl⟩
    rw [hFF]
    have HU : Hid (Sp.Upw U m k a ∧ Sp.addW U by_ (m + 1) W k = F) := hide ⟨hu, hFF⟩
    have HF := hide hF
    have Ha := hide ha
    have H : Hid (LkP w f g n U W ∧ Bt (fun b => b = g) w w) := hide ⟨h, Bt.refl _ _⟩
    have HHs : Hid (∀ w' W', LkP w' f g n U W' → Calls Try.prog 32 #[.pointer (some ⟨f, 0, none⟩), .int .i64 (k : Int)] w' fun e w'' => e = .returned (.bool true) ∧ w'' = w') := hide fun w' W' h' => by
      have h2 := lkhas_any (k : Int) w' h'
      rw [Sp.hs_yes hk] at h2
      exact h2
    obtain ⟨P, hP⟩ : ∃ P : Ending → World → Prop, P = fun e w' => e = .returned (.bool true) ∧ LkP w' f g n U F ∧ Bt (fun b => b = g) w w' := ⟨_, rfl⟩
    rw [← hP]
    have HP := hide hP
    clear hP hu hF ha h hFF
    go_enter Try.func22, Try.ntmps22
    go_wp2
    go_loopg [7] m (fun g' s7 wr => ∃ (v1 : Nat) (W1 : Nat → Int), s7 = .int .i64 (v1 : Int) ∧ v1 < n ∧ Hid (Sp.Upw U g' v1 a ∧ Sp.addW U by_ (g' + 1) W1 v1 = F) ∧ Hid (LkP wr f g n U W1 ∧ Bt (fun b => b = g) w wr))
    case atStart => exact ⟨k, W, rfl, hk, HU, H⟩
    case round =>
      clear HU hk
      obtain ⟨v1, W1, rfl, hv, HV, HI⟩ := hrel
      have HC := hide (lkhangs_any (v1 : Int) wr (unhide HI).1)
      have hvI : (v1 : Int) < (n : Int) := by omega
      cases gk with
      | zero =>
        have e : a = v1 := (unhide HV).1
        subst e
        have e2 := (unhide HV).2
        rw [Sp.addW_one (unhide Ha)] at e2
        rw [Sp.hg_root (unhide Ha)] at HC
        have HHs2 := hide (unhide HHs wr W1 (unhide HI).1)
        have HI2 : Hid (LkP wr f g n U F ∧ Bt (fun b => b = g) w wr) := hide (by rw [← e2]; exact unhide HI)
        clear e2 HHs
        go_wp2_with fail
        go_at_call 33
        refine (unhide HC).mono ?_
        rintro e w' ⟨rfl, hw⟩
        have hw' := hw.symm
        subst hw'
        clear hw
        go_wp2_with fail
        go_at_call 32
        refine (unhide HHs2).mono ?_
        rintro e w' ⟨rfl, hw⟩
        have hw' := hw.symm
        subst hw'
        go_wp2
        rw [unhide HP]
        exact ⟨rfl, unhide HI2⟩
      | succ g' =>
        obtain ⟨⟨u, e, hu⟩, h2⟩ := unhide HV
        rw [Sp.addW_step e] at h2
        have hun : u < n := (unhide HF).up_lt hv (k := 1) ⟨u, e, rfl⟩
        rw [Sp.hg_yes hv (by omega)] at HC
        obtain ⟨y, hy⟩ : ∃ y, W1 v1 = y := ⟨_, rfl⟩
        rw [hy] at h2
        obtain ⟨z, hz⟩ : ∃ z, IntKind.i64.wrap (y + by_) = z := ⟨_, rfl⟩
        rw [hz] at h2
        have hs0 := (unhide HI).1.slot
        have c0 := (unhide HI).1.up hv
        have c1 := (unhide HI).1.wt hv
        have cf := fun i => (unhide HI).1.frozen i
        rw [e] at c0
        rw [hy] at c1
        have c0' := fun v : Value => show (wr.setCell ⟨g, v1 * 2 + 1, none⟩ v).cell? ⟨g, v1 * 2, none⟩ = some (.int .i64 (u : Int)) by rw [cell_set_ne (by omega)]; exact c0
        have hs0' := fun v : Value => show (wr.setCell ⟨g, v1 * 2 + 1, none⟩ v).cell? ⟨f, 0, none⟩ = some (.slice (some ⟨g, 0, none⟩) n n) from (World.cell?_of_block (w := wr) (Below.heap_setCell _ _ _ _ (unhide HI).1.ne)).trans hs0
        have HV2 : Hid (Sp.Upw U g' u a ∧ Sp.addW U by_ (g' + 1) (Sp.upd W1 v1 z) u = F) := hide ⟨hu, h2⟩
        have HI2 : Hid (LkP (wr.setCell ⟨g, v1 * 2 + 1, none⟩ (.int .i64 z)) f g n U (Sp.upd W1 v1 z) ∧ Bt (fun b => b = g) w (wr.setCell ⟨g, v1 * 2 + 1, none⟩ (.int .i64 z))) := hide ⟨(unhide HI).1.setW v1 z, (unhide HI).2.set (.inl rfl) _ _ _⟩
        clear hu e h2 HV HI hy HHs
        go_wp2_with fail
        go_at_call 33
        refine (unhide HC).mono ?_
        rintro e w' ⟨rfl, hw⟩
        have hw' := hw.symm
        subst hw'
        clear hw
        go_wp2
        go_roundg g'
        case rel => exact ⟨u, _, rfl, hun, HV2, HI2⟩
        case measure => omega
/-- The least edge that Least tells. -/
noncomputable def Sp.ls (U W : Nat → Int) (v : Int) : Nat := Sp.leastA U W (Sp.dp U v.toNat + 1) v.toNat v.toNat
theorem Sp.leastA_one {U W : Nat → Int} {v a : Nat} (h : U v = -1) (k : Nat) : Sp.leastA U W (k + 1) v a = a := by
  rw [Sp.leastA, if_pos h]
theorem Sp.leastA_step {U W : Nat → Int} {v a u : Nat} (h : U v = (u : Int)) (k : Nat) : Sp.leastA U W (k + 1) v a = Sp.leastA U W k u (if W v ≤ W a then v else a) := by
  rw [Sp.leastA, if_neg (by omega), h, Int.toNat_natCast]
set_option maxRecDepth 100000 in
set_option maxHeartbeats 8000000 in
theorem lkleast_any {f g n : Nat} {U W : Nat → Int} (hF : Sp.Fo n U) (v : Int) (w : World) (h : LkP w f g n U W) :
    Calls Try.prog 23 #[.pointer (some ⟨f, 0, none⟩), .int .i64 v] w fun e w' => e = .returned (.tuple #[.int .i64 (if Sp.hg n U v = true then ((Sp.ls U W v : Nat) : Int) else 0), .int .i64 (if Sp.hg n U v = true then W (Sp.ls U W v) else 0), .bool (Sp.hg n U v)]) ∧ Below w.heap.size w w' := by
  have HC := hide (lkhas_any v w h)
  rcases Sp.int_case n v with h1 | ⟨k, rfl, hk⟩
  · rw [Sp.hs_no h1] at HC
    rw [Sp.hg_no h1, if_neg (by decide), if_neg (by decide)]
    obtain ⟨P, hP⟩ : ∃ P : Ending → World → Prop, P = fun e w' => e = .returned (.tuple #[.int .i64 0, .int .i64 0, .bool false]) ∧ Below w.heap.size w w' := ⟨_, rfl⟩
    rw [← hP]
    have HP := hide hP
    clear h h1 hF hP
    go_enter Try.func23, Try.ntmps23
    go_wp2
    go_step3
    go_wp2_with fail
    go_at_call 32
    refine (unhide HC).mono ?_
    rintro e w' ⟨rfl, hw⟩
    have hw' := hw.symm
    subst hw'
    go_wp2
    rw [unhide HP]
    refine ⟨rfl, _, results_tmp3 rfl _ _ _, ?_⟩
    exact ⟨rfl, Below.refl _ _⟩
  · rw [Sp.hs_yes hk] at HC
    obtain ⟨m, a, hu, ha, -⟩ := hF.ex hk
    obtain ⟨A, hA⟩ : ∃ A, Sp.ls U W (k : Int) = A := ⟨_, rfl⟩
    have hA2 := hA
    unfold Sp.ls at hA2
    rw [Int.toNat_natCast, Sp.dp_is hu ha] at hA2
    rw [hA]
    obtain ⟨R, hR⟩ : ∃ R, Sp.hg n U (k : Int) = R := ⟨_, rfl⟩
    rw [hR]
    have HR1 : Hid (U k = -1 → R = false) := hide fun e => by rw [← hR]; exact Sp.hg_root e
    have HR2 : Hid (U k ≠ -1 → R = true) := hide fun e => by rw [← hR]; exact Sp.hg_yes hk e
    have HU : Hid (Sp.Upw U m k a ∧ Sp.leastA U W (m + 1) k k = A) := hide ⟨hu, hA2⟩
    have HF := hide hF
    have Ha := hide ha
    have H := hide h
    obtain ⟨P, hP⟩ : ∃ P : Ending → World → Prop, P = fun e w' => e = .returned (.tuple #[.int .i64 (if R = true then (A : Int) else 0), .int .i64 (if R = true then W A else 0), .bool R]) ∧ Below w.heap.size w w' := ⟨_, rfl⟩
    rw [← hP]
    have HP := hide hP
    clear hP hu hF ha h hA hA2 hR
    go_enter Try.func23, Try.ntmps23
    go_wp2
    go_step3
    go_wp2_with fail
    go_at_call 32
    refine (unhide HC).mono ?_
    rintro e w' ⟨rfl, hw⟩
    have hw' := hw.symm
    subst hw'
    clear hw HC
    go_wp2
    go_step3
    go_wp2
    go_loopg [1, 4, 5, 6] m (fun g' s1 s4 s5 s6 wr => ∃ (v1 a1 : Nat) (is : Bool), s1 = .int .i64 (v1 : Int) ∧ s6 = .bool is ∧ v1 < n ∧ a1 < n ∧ Hid (Sp.Upw U g' v1 a ∧ Sp.leastA U W (g' + 1) v1 a1 = A) ∧ ((is = false ∧ v1 = k ∧ a1 = k ∧ s4 = .int .i64 0 ∧ s5 = .int .i64 0) ∨ (is = true ∧ U k ≠ -1 ∧ s4 = .int .i64 (a1 : Int) ∧ s5 = .int .i64 (W a1))) ∧ Hid (Below w.heap.size w wr))
    case atStart => exact ⟨k, k, false, rfl, rfl, hk, hk, HU, .inl ⟨rfl, rfl, rfl, rfl, rfl⟩, hide (Below.refl _ _)⟩
    case round =>
      clear HU
      obtain ⟨v1, a1, is, rfl, rfl, hv, hv2, HV, hcase, HI⟩ := hrel
      have hq := (unhide H).below (unhide HI)
      have hs0 := hq.slot
      have c0 := hq.up hv
      have c1 := hq.wt hv
      have hvI : (v1 : Int) < (n : Int) := by omega
      clear hq
      cases gk with
      | zero =>
        have e : a = v1 := (unhide HV).1
        subst e
        have e2 := (unhide HV).2
        rw [Sp.leastA_one (unhide Ha)] at e2
        subst e2
        have hua := unhide Ha
        rw [hua] at c0
        have HI2 : Hid (∀ o, Below w.heap.size w (wr.alloc o)) := hide fun o => (unhide HI).alloc (unhide HI).size o
        rcases hcase with ⟨rfl, e1, e2, rfl, rfl⟩ | ⟨rfl, hk2, rfl, rfl⟩
        · obtain rfl : k = a := e1.symm
          have hRf := unhide HR1 (unhide Ha)
          subst hRf
          clear HR1 HR2 HV hua
          go_wp2
          rw [unhide HP]
          go_ret3
          exact ⟨rfl, unhide HI2 _⟩
        · have hRt := unhide HR2 hk2
          subst hRt
          have HP2 : Hid (P = fun e w' => e = .returned (.tuple #[.int .i64 (a1 : Int), .int .i64 (W a1), .bool true]) ∧ Below w.heap.size w w') := hide (by rw [unhide HP]; rfl)
          clear HR1 HR2 HV HP hua hk2
          go_wp2
          rw [unhide HP2]
          refine ⟨rfl, _, results_tmp3 rfl _ _ _, ?_⟩
          exact ⟨rfl, unhide HI2 _⟩
      | succ g' =>
        obtain ⟨⟨u, e, hu⟩, h2⟩ := unhide HV
        rw [Sp.leastA_step e] at h2
        have hun : u < n := (unhide HF).up_lt hv (k := 1) ⟨u, e, rfl⟩
        have hub : ((u : Int) == -1) = false := beq_eq_false_iff_ne.2 (by omega)
        rw [e] at c0
        have HI2 : Hid (∀ nq o, Below w.heap.size w ((wr.alloc o).drewN nq)) := hide fun nq o => below_dn ((unhide HI).alloc (unhide HI).size o) nq
        have HI3 : Hid (∀ o, Below w.heap.size w (wr.alloc o)) := hide fun o => (unhide HI).alloc (unhide HI).size o
        have Hu := hide hu
        rcases hcase with ⟨rfl, e1, e2, rfl, rfl⟩ | ⟨rfl, hk2, rfl, rfl⟩
        · obtain rfl : v1 = k := e1
          obtain rfl : v1 = a1 := e2.symm
          rw [if_pos (Int.le_refl _)] at h2
          have HV2 : Hid (Sp.Upw U g' u a ∧ Sp.leastA U W (g' + 1) u v1 = A) := hide ⟨hu, h2⟩
          have hk2 : U v1 ≠ -1 := by omega
          have Hk2 := hide hk2
          clear h2 HV hu e hk2
          go_wp2_with fail
          go_quiet (fail)
          go_wp2
          go_roundg g'
          case rel => exact ⟨u, v1, true, rfl, rfl, hun, hv, HV2, .inr ⟨rfl, unhide Hk2, rfl, rfl⟩, hide (unhide HI2 _ _)⟩
          case measure => omega
        · have Hk2 := hide hk2
          by_cases hle : W v1 ≤ W a1
          · rw [if_pos hle] at h2
            have HV2 : Hid (Sp.Upw U g' u a ∧ Sp.leastA U W (g' + 1) u v1 = A) := hide ⟨hu, h2⟩
            clear h2 HV hu e hk2
            go_wp2_with fail
            go_quiet (fail)
            go_wp2
            go_roundg g'
            case rel => exact ⟨u, v1, true, rfl, rfl, hun, hv, HV2, .inr ⟨rfl, unhide Hk2, rfl, rfl⟩, hide (unhide HI2 _ _)⟩
            case measure => omega
          · rw [if_neg hle] at h2
            have HV2 : Hid (Sp.Upw U g' u a ∧ Sp.leastA U W (g' + 1) u a1 = A) := hide ⟨hu, h2⟩
            clear h2 HV hu e hk2
            go_wp2
            go_roundg g'
            case rel => exact ⟨u, a1, true, rfl, rfl, hun, hv2, HV2, .inr ⟨rfl, unhide Hk2, rfl, rfl⟩, hide (unhide HI3 _)⟩
            case measure => omega
end Go.Proofs.Ytohfmohkaaidpaa


/- The reference's forest: Root, Up, Weight, Cut, Link, Turn, Add, Least. -/
namespace Go.Proofs.Ytohfmohkaaidpaa
open Go Go.RowKit

theorem LkR.cap {w : World} {x o c n co cw : Nat} {U W : Nat → Int} (h : LkR w x o c n co cw U W) : n ≤ co ∧ n ≤ cw := by
  obtain ⟨_, -, -, h1, -⟩ := h.on
  obtain ⟨_, -, -, h2, -⟩ := h.wt
  exact ⟨h1, h2⟩
end Go.Proofs.Ytohfmohkaaidpaa


/- Package link: New; the law's within; two forests are the same. -/
namespace Go.Proofs.Ytohfmohkaaidpaa
open Go Go.RowKit

theorem tmod_casesK (a n : Int) (hn : 0 < n) : (a.tmod n < 0 ∧ a.tmod n + n = a % n) ∨ (0 ≤ a.tmod n ∧ a.tmod n = a % n) := by
  have h0 : 0 ≤ a % n := Int.emod_nonneg a (by omega)
  have h1 : a % n < n := Int.emod_lt_of_pos a hn
  have e := Int.tmod_eq_emod (a := a) (b := n)
  split at e
  · right; omega
  · left
    have : ((n.natAbs : Nat) : Int) = n := by omega
    omega
theorem ret_intK {k : IntKind} {a b : Int} (h : a = b) : Ending.returned (.int k a) = .returned (.int k b) := by rw [h]
theorem Sp.fo_new (n : Nat) : Sp.Fo n (fun _ => -1) := ⟨fun _ => 0, fun _ _ => .inl rfl⟩
set_option maxRecDepth 100000 in
set_option maxHeartbeats 2000000 in
theorem lknew_any (n : Nat) (w : World) (hn1 : 1 ≤ n) (hn : n ≤ 60) :
    Calls Try.prog 11 #[.int .i64 (n : Int)] w fun e w' => ∃ f g, e = .returned (.pointer (some ⟨f, 0, none⟩)) ∧ LkP w' f g n (fun _ => -1) (fun _ => 0) ∧ Below w.heap.size w w' ∧ w.heap.size ≤ f ∧ w.heap.size ≤ g := by
  obtain ⟨W1, hW1⟩ : ∃ W1, W1 = w.alloc (.cells #[.int .i64 (-1), .int .i64 0] 50) := ⟨_, rfl⟩
  have hb1 : Below w.heap.size w W1 := by rw [hW1]; exact (Below.refl _ w).alloc (Nat.le_refl _) _
  have hz1 : W1.heap.size = w.heap.size + 1 := by rw [hW1]; simp
  have hc1 : W1.heap[w.heap.size]? = some (.cells #[.int .i64 (-1), .int .i64 0] 50) := by rw [hW1]; exact heap_alloc_new w _
  obtain ⟨c0, c1, -⟩ := edge_cells hc1
  have HC := hide (repeatEd_any (-1) 0 w.heap.size n W1 hn1 hn c0 c1 (by omega))
  have HB := hide (And.intro hb1 hz1)
  have hm1 : max (n : Int) 0 = (n : Int) := by omega
  have hm2 : min (n : Int) 300 = (n : Int) := by omega
  have hnI : (0 : Int) ≤ (n : Int) := by omega
  have hn3 : (n : Int) ≤ 300 := by omega
  obtain ⟨P, hP⟩ : ∃ P : Ending → World → Prop, P = fun e w' => ∃ f g, e = .returned (.pointer (some ⟨f, 0, none⟩)) ∧ LkP w' f g n (fun _ => -1) (fun _ => 0) ∧ Below w.heap.size w w' ∧ w.heap.size ≤ f ∧ w.heap.size ≤ g := ⟨_, rfl⟩
  rw [← hP]
  have HP := hide hP
  clear hP hb1 hz1 hc1 c0 c1
  go_enter Try.func11, Try.ntmps11
  go_wp2_with fail
  all_goals try omega
  go_at_call 25
  rw [← hW1]
  refine (unhide HC).mono ?_
  rintro e w2 ⟨rfl, hr2, hb2⟩
  have hgl := hr2.lt
  have HQ : Hid (LkP (w2.alloc (.cells #[.slice (some ⟨W1.heap.size, 0, none⟩) n n] 52)) w2.heap.size W1.heap.size n (fun _ => -1) (fun _ => 0) ∧ Below w.heap.size w (w2.alloc (.cells #[.slice (some ⟨W1.heap.size, 0, none⟩) n n] 52)) ∧ w.heap.size ≤ w2.heap.size ∧ w.heap.size ≤ W1.heap.size) := hide (by
    have hbb := (unhide HB).1.trans (hb2.mono (unhide HB).1.size)
    refine ⟨⟨heap_alloc_new w2 _, (hr2.alloc _).congr fun j hj => ?_, by omega⟩, hbb.alloc hbb.size _, hbb.size, (unhide HB).1.size⟩
    unfold Sp.repEd Sp.ed
    rw [if_pos hj])
  clear hr2 hb2 hgl HB HC hW1
  go_wp2
  rw [unhide HP]
  exact ⟨_, _, rfl, unhide HQ⟩
set_option maxRecDepth 100000 in
set_option maxHeartbeats 1000000 in
theorem within7_any (a n : Int) (w : World) (hn : 0 < n) (hn1 : n ≤ 4611686018427387904) :
    Calls Try.prog 10 #[.int .i64 a, .int .i64 n] w fun e w' => e = .returned (.int .i64 (a % n)) ∧ w' = w := by
  have h0 : 0 ≤ a % n := Int.emod_nonneg a (by omega)
  have h1 : a % n < n := Int.emod_lt_of_pos a hn
  rcases tmod_casesK a n hn with ⟨ha, hb⟩ | ⟨ha, hb⟩
  · have hc : -n ≤ a.tmod n := by omega
    have Hb := hide hb; clear hb h0 h1
    go_enter Try.func10, Try.ntmps10
    go_wp2
    go_ret
    exact ⟨ret_intK (unhide Hb), rfl⟩
  · have Hb := hide hb; clear hb h0 h1
    go_enter Try.func10, Try.ntmps10
    go_wp2
    go_ret
    exact ⟨ret_intK (unhide Hb), rfl⟩
end Go.Proofs.Ytohfmohkaaidpaa


/- The law's step: one on both forests, answered the same. -/
namespace Go.Proofs.Ytohfmohkaaidpaa
open Go Go.RowKit

/-- Both forests, of the same state. -/
structure LkB (w : World) (f g x o c n co cw : Nat) (U W : Nat → Int) : Prop where
  p : LkP w f g n U W
  r : LkR w x o c n co cw U W
  gx : g ≠ x
  go_ : g ≠ o
  gc : g ≠ c
  fo_ : f ≠ o
  fc : f ≠ c
  fo : Sp.Fo n U
theorem LkB.bt {p : Nat → Prop} {w w' : World} {f g x o c n co cw : Nat} {U W : Nat → Int} (h : LkB w f g x o c n co cw U W) (hb : Bt p w w') (h1 : ¬ p f) (h2 : ¬ p g) (h3 : ¬ p x) (h4 : ¬ p o) (h5 : ¬ p c) : LkB w' f g x o c n co cw U W := ⟨h.p.bt hb h1 h2, h.r.bt hb h3 h4 h5, h.gx, h.go_, h.gc, h.fo_, h.fc, h.fo⟩
theorem LkB.below {w w' : World} {f g x o c n co cw : Nat} {U W : Nat → Int} (h : LkB w f g x o c n co cw U W) (hb : Below w.heap.size w w') : LkB w' f g x o c n co cw U W := ⟨h.p.below hb, h.r.below hb, h.gx, h.go_, h.gc, h.fo_, h.fc, h.fo⟩
theorem Sp.quo_nat (m d : Nat) : Int.tdiv (m : Int) (d : Int) = ((m / d : Nat) : Int) := rfl
theorem Sp.rem_nat (m d : Nat) : Int.tmod (m : Int) (d : Int) = ((m % d : Nat) : Int) := rfl
end Go.Proofs.Ytohfmohkaaidpaa


/- The law's known: the chapter's example, and an edge. -/
namespace Go.Proofs.Ytohfmohkaaidpaa
open Go Go.RowKit

theorem Sp.lk_ok {n k j a : Nat} {U : Nat → Int} (hk : k < n) (hj : j < n) (hr : U k = -1) (ha : Sp.Rt U j a) (hne : a ≠ k) : Sp.lkE n U (k : Int) (j : Int) = 0 := by
  unfold Sp.lkE
  rw [if_pos ⟨Sp.hs_yes hk, Sp.hs_yes hj⟩, Sp.hg_root hr, if_neg (by decide), Sp.rt_is hj ha, if_neg (by omega)]
theorem Sp.lkU_ok {n k : Nat} {U : Nat → Int} {u : Int} (h : Sp.lkE n U (k : Int) u = 0) : Sp.lkU n U (k : Int) u = Sp.upd U k u := by
  unfold Sp.lkU; rw [if_pos h, Int.toNat_natCast]
theorem Sp.lkW_ok {n k : Nat} {U W : Nat → Int} {u x : Int} (h : Sp.lkE n U (k : Int) u = 0) : Sp.lkW n U W (k : Int) u x = Sp.upd W k x := by
  unfold Sp.lkW; rw [if_pos h, Int.toNat_natCast]
def Sp.kU1 : Nat → Int := Sp.upd (fun _ => -1) 0 1
def Sp.kU2 : Nat → Int := Sp.upd Sp.kU1 1 2
def Sp.kW1 : Nat → Int := Sp.upd (fun _ => 0) 0 5
def Sp.kW2 : Nat → Int := Sp.upd Sp.kW1 1 3
theorem Sp.kE1 : Sp.lkE 3 (fun _ => -1) 0 1 = 0 := Sp.lk_ok (k := 0) (j := 1) (a := 1) (by decide) (by decide) rfl ⟨0, rfl, rfl⟩ (by decide)
theorem Sp.kE2 : Sp.lkE 3 Sp.kU1 1 2 = 0 := Sp.lk_ok (k := 1) (j := 2) (a := 2) (by decide) (by decide) (by decide) ⟨0, rfl, by decide⟩ (by decide)
theorem Sp.kUU1 : Sp.lkU 3 (fun _ => -1) 0 1 = Sp.kU1 := Sp.lkU_ok (k := 0) Sp.kE1
theorem Sp.kWW1 : Sp.lkW 3 (fun _ => -1) (fun _ => 0) 0 1 5 = Sp.kW1 := Sp.lkW_ok (k := 0) Sp.kE1
theorem Sp.kUU2 : Sp.lkU 3 Sp.kU1 1 2 = Sp.kU2 := Sp.lkU_ok (k := 1) Sp.kE2
theorem Sp.kWW2 : Sp.lkW 3 Sp.kU1 Sp.kW1 1 2 3 = Sp.kW2 := Sp.lkW_ok (k := 1) Sp.kE2
theorem Sp.kfo1 : Sp.Fo 3 Sp.kU1 := by rw [← Sp.kUU1]; exact (Sp.fo_new 3).lk 0 1
theorem Sp.kfo2 : Sp.Fo 3 Sp.kU2 := by rw [← Sp.kUU2]; exact Sp.kfo1.lk 1 2
theorem Sp.kup : Sp.Upw Sp.kU2 2 0 2 := ⟨1, by decide, 2, by decide, rfl⟩
theorem Sp.kdp : Sp.dp Sp.kU2 0 = 2 := Sp.dp_is Sp.kup (by decide)
theorem Sp.kls : Sp.ls Sp.kU2 Sp.kW2 0 = 1 := by
  unfold Sp.ls
  rw [show ((0 : Int)).toNat = 0 from rfl, Sp.kdp]
  decide
theorem Sp.khg : Sp.hg 3 Sp.kU2 0 = true := by decide
theorem Sp.ktn : Sp.tn 3 Sp.kU2 Sp.kW2 0 = Sp.trn 3 Sp.kU2 Sp.kW2 0 (-1) 0 := by
  unfold Sp.tn
  rw [if_pos (by decide), show ((0 : Int)).toNat = 0 from rfl, Sp.kdp]
theorem Sp.krt : Sp.rt 3 (Sp.tn 3 Sp.kU2 Sp.kW2 0).1 2 = 0 := by
  have h := (Sp.trn_ok (W := Sp.kW2) (x := 0) (k := 2) (v := 0) (b := 2) (a := 0) (l := -1) ⟨Sp.kfo2, by decide, Sp.kup, by decide, .inl ⟨rfl, rfl⟩⟩).2
  rw [Sp.ktn]
  exact Sp.rt_is (v := 2) (a := 0) (by decide) h
theorem Sp.kup2 : (Sp.tn 3 Sp.kU2 Sp.kW2 0).1 2 = 1 := by rw [Sp.ktn]; decide
theorem Sp.khg2 : Sp.hg 3 (Sp.tn 3 Sp.kU2 Sp.kW2 0).1 2 = true := Sp.hg_yes (v := 2) (by decide) (by rw [Sp.kup2]; decide)
theorem Sp.krt2 : Sp.rt 2 (fun _ => -1) 1 = 1 := Sp.rt_is (v := 1) (a := 1) (by decide) ⟨0, rfl, rfl⟩
set_option maxRecDepth 100000 in
set_option maxHeartbeats 8000000 in
theorem known7_any (w : World) : Calls Try.prog 9 #[] w fun e w' => e = .returned (.bool true) ∧ Below w.heap.size w w' := by
  have HC1 := hide (lknew_any 3 w (by decide) (by decide))
  obtain ⟨P, hP⟩ : ∃ P : Ending → World → Prop, P = fun e w' => e = .returned (.bool true) ∧ Below w.heap.size w w' := ⟨_, rfl⟩
  rw [← hP]
  have HP := hide hP
  clear hP
  go_enter Try.func9, Try.ntmps9
  go_wp2_with fail
  go_at_call 11
  refine (unhide HC1).mono ?_
  rintro e w1 ⟨f, g, rfl, hp1, hb1, hf, hg⟩
  have HC2 := hide (lklink_any (Sp.fo_new 3) 0 1 5 w1 hp1)
  rw [Sp.kE1, Sp.kUU1, Sp.kWW1] at HC2
  have HB1 := hide hb1
  clear hp1 hb1 HC1
  go_wp2_with fail
  go_at_call 15
  refine (unhide HC2).mono ?_
  rintro e w2 ⟨rfl, hp2, hb2⟩
  have HB2 : Hid (Below w.heap.size w w2) := hide ((unhide HB1).trans (hb2.below (fun k e => by rw [e]; exact hg) (unhide HB1).size))
  have HC3 := hide (lklink_any Sp.kfo1 1 2 3 w2 hp2)
  rw [Sp.kE2, Sp.kUU2, Sp.kWW2] at HC3
  clear hp2 hb2 HC2 HB1
  go_wp2_with fail
  go_at_call 15
  refine (unhide HC3).mono ?_
  rintro e w3 ⟨rfl, hp3, hb3⟩
  have HB3 : Hid (Below w.heap.size w w3) := hide ((unhide HB2).trans (hb3.below (fun k e => by rw [e]; exact hg) (unhide HB2).size))
  have HC4 := hide (lkleast_any Sp.kfo2 0 w3 hp3)
  rw [Sp.khg, if_pos rfl, if_pos rfl, Sp.kls, show Sp.kW2 1 = 3 by decide] at HC4
  have HP3 := hide hp3
  clear hp3 hb3 HC3 HB2
  go_wp2_with fail
  go_at_call 23
  refine (unhide HC4).mono ?_
  rintro e w4 ⟨rfl, hb4⟩
  have HB4 := hide ((unhide HB3).trans (hb4.mono (unhide HB3).size))
  have HC5 := hide (lkturn_any Sp.kfo2 0 w4 ((unhide HP3).below hb4))
  rw [show Sp.hs 3 0 = true by decide] at HC5
  clear hb4 HC4 HB3 HP3
  go_wp2_with fail
  go_at_call 18
  refine (unhide HC5).mono ?_
  rintro e w5 ⟨rfl, hp5, hb5⟩
  have HB5 : Hid (Below w.heap.size w w5) := hide ((unhide HB4).trans (hb5.below (fun k e => by rw [e]; exact hg) (unhide HB4).size))
  have HC6 := hide (lkup_any 2 w5 hp5)
  rw [Sp.khg2, if_pos rfl, show ((2 : Int)).toNat = 2 from rfl, Sp.kup2] at HC6
  have HP5 := hide hp5
  clear hp5 hb5 HC5 HB4
  go_wp2_with fail
  go_at_call 21
  refine (unhide HC6).mono ?_
  rintro e w6 ⟨rfl, hw⟩
  have hw' := hw.symm
  subst hw'
  clear hw HC6
  have HC7 := hide (lknew_any 2 w5 (by decide) (by decide))
  go_wp2_with fail
  go_at_call 11
  refine (unhide HC7).mono ?_
  rintro e w7 ⟨f2, g2, rfl, hp7, hb7, hf7, hg7⟩
  have HC8 := hide (lkroot_any (Sp.fo_new 2) 1 w7 hp7)
  rw [Sp.krt2] at HC8
  have HC9 := hide (lkroot_any (Sp.kfo2.tn Sp.kW2 0) 2 w7 ((unhide HP5).below hb7))
  rw [Sp.krt] at HC9
  have HE := hide ((unhide HB5).trans (hb7.mono (unhide HB5).size))
  clear hp7 hb7 HC7 HB5
  go_wp2_with fail
  go_at_call 17
  refine (unhide HC8).mono ?_
  rintro e w8 ⟨rfl, hw⟩
  have hw' := hw.symm
  subst hw'
  clear hw HC8
  go_wp2_with fail
  go_at_call 17
  refine (unhide HC9).mono ?_
  rintro e w9 ⟨rfl, hw⟩
  have hw' := hw.symm
  subst hw'
  clear hw HC9
  go_wp2
  rw [unhide HP]
  exact ⟨rfl, unhide HE⟩
end Go.Proofs.Ytohfmohkaaidpaa


/- Ways up: how long they are; what Least tells; what Add leaves (P701). -/
namespace Go.Proofs.Ytohfmohkaaidpaa
open Go Go.RowKit

def Sp.anc (U : Nat → Int) : Nat → Nat → Nat
  | 0, v => v
  | k + 1, v => Sp.anc U k (U v).toNat
theorem Sp.Upw.anc {U : Nat → Int} : ∀ {k v x : Nat}, Sp.Upw U k v x → x = Sp.anc U k v
  | 0, _, _, h => h
  | k + 1, v, x, ⟨u, e, h⟩ => by
    rw [Sp.anc, e, Int.toNat_natCast]
    exact Sp.Upw.anc h
theorem Sp.Upw.part {U : Nat → Int} : ∀ {j k v x : Nat}, Sp.Upw U k v x → j ≤ k → ∃ y, Sp.Upw U j v y ∧ Sp.Upw U (k - j) y x
  | 0, k, v, x, h, _ => ⟨v, rfl, h⟩
  | j + 1, 0, v, x, h, hj => by omega
  | j + 1, k + 1, v, x, ⟨u, e, h⟩, hj => by
    obtain ⟨y, h1, h2⟩ := Sp.Upw.part (j := j) h (by omega)
    exact ⟨y, ⟨u, e, h1⟩, by rw [show k + 1 - (j + 1) = k - j by omega]; exact h2⟩
theorem Sp.Upw.one {U : Nat → Int} {k v x y : Nat} (h : Sp.Upw U k v x) (h' : Sp.Upw U k v y) : x = y := by rw [h.anc, h'.anc]
theorem Sp.pigeonK {n : Nat} (f : Nat → Nat) (hf : ∀ m, m ≤ n → f m < n) : ∃ i j, i < j ∧ j ≤ n ∧ f i = f j := by
  rcases Classical.em (∃ i j, i < j ∧ j ≤ n ∧ f i = f j) with h | h
  · exact h
  · exfalso
    have hnd : ((List.range (n + 1)).map fun m => ((f m : Nat) : Int)).Nodup := by
      unfold List.Nodup
      rw [List.pairwise_iff_getElem]
      intro i j hi hj hij e
      simp only [List.length_map, List.length_range] at hi hj
      simp only [List.getElem_map, List.getElem_range] at e
      exact h ⟨i, j, hij, by omega, by omega⟩
    have := nodup_le n _ hnd (fun x hx => by
      obtain ⟨m, hm, rfl⟩ := List.mem_map.1 hx
      have := hf m (by have := List.mem_range.1 hm; omega)
      omega)
    rw [List.length_map, List.length_range] at this
    omega
/-- No way up has as many edges as there are vertices. -/
theorem Sp.Fo.depth {n : Nat} {U : Nat → Int} (h : Sp.Fo n U) {k v a : Nat} (hv : v < n) (hu : Sp.Upw U k v a) : k < n := by
  rcases Nat.lt_or_ge k n with hk | hk
  · exact hk
  · exfalso
    have hp : ∀ m, m ≤ n → ∃ y, Sp.Upw U m v y := fun m hm => by
      obtain ⟨y, h1, -⟩ := hu.part (j := m) (by omega)
      exact ⟨y, h1⟩
    obtain ⟨i, j, hij, hj, e⟩ := Sp.pigeonK (n := n) (fun m => Sp.anc U m v) (fun m hm => by
      obtain ⟨y, hy⟩ := hp m hm
      show Sp.anc U m v < n
      rw [← hy.anc]
      exact h.up_lt hv hy)
    obtain ⟨y, hy⟩ := hp j hj
    obtain ⟨x, h1, h2⟩ := hy.part (j := i) (by omega)
    have e2 : Sp.anc U i v = Sp.anc U j v := e
    rw [← h1.anc, ← hy.anc] at e2
    subst e2
    obtain ⟨d, hd⟩ : ∃ d, j - i = d + 1 := ⟨j - i - 1, by omega⟩
    rw [hd] at h2
    exact h.no_round (h.up_lt hv h1) h2
theorem Sp.least_gen {U W : Nat → Int} : ∀ {k v b a0 : Nat}, Sp.Upw U k v b → U b = -1 →
    (Sp.leastA U W (k + 1) v a0 = a0 ∧ ∀ i x, i < k → Sp.Upw U i v x → W a0 < W x) ∨
    (∃ j, j < k ∧ Sp.Upw U j v (Sp.leastA U W (k + 1) v a0) ∧ W (Sp.leastA U W (k + 1) v a0) ≤ W a0 ∧ (∀ i x, i < j → Sp.Upw U i v x → W (Sp.leastA U W (k + 1) v a0) ≤ W x) ∧ (∀ i x, j < i → i < k → Sp.Upw U i v x → W (Sp.leastA U W (k + 1) v a0) < W x))
  | 0, v, b, a0, h, hb => by
    have e : b = v := h
    subst e
    exact .inl ⟨Sp.leastA_one hb 0, fun i x hi => by omega⟩
  | k + 1, v, b, a0, ⟨u, e, h⟩, hb => by
    rw [Sp.leastA_step e]
    have hsh : ∀ i x, Sp.Upw U (i + 1) v x → Sp.Upw U i u x := fun i x ⟨u', e', hx⟩ => by
      obtain rfl : u = u' := by omega
      exact hx
    have ih := Sp.least_gen (W := W) (a0 := if W v ≤ W a0 then v else a0) h hb
    generalize Sp.leastA U W (k + 1) u (if W v ≤ W a0 then v else a0) = A at *
    by_cases hle : W v ≤ W a0
    · rw [if_pos hle] at ih
      right
      rcases ih with ⟨rfl, h2⟩ | ⟨j, h1, h2, h3, h4, h5⟩
      · refine ⟨0, by omega, rfl, hle, fun i x hi => by omega, fun i x hi1 hi2 hx => ?_⟩
        obtain ⟨i, rfl⟩ : ∃ i', i = i' + 1 := ⟨i - 1, by omega⟩
        exact h2 i x (by omega) (hsh i x hx)
      · refine ⟨j + 1, by omega, ⟨u, e, h2⟩, by omega, fun i x hi hx => ?_, fun i x hi1 hi2 hx => ?_⟩
        · cases i with
          | zero =>
            have e2 : x = v := hx
            subst e2; exact h3
          | succ i => exact h4 i x (by omega) (hsh i x hx)
        · obtain ⟨i, rfl⟩ : ∃ i', i = i' + 1 := ⟨i - 1, by omega⟩
          exact h5 i x (by omega) (by omega) (hsh i x hx)
    · rw [if_neg hle] at ih
      rcases ih with ⟨rfl, h2⟩ | ⟨j, h1, h2, h3, h4, h5⟩
      · refine .inl ⟨rfl, fun i x hi hx => ?_⟩
        cases i with
        | zero =>
          have e2 : x = v := hx
          subst e2; omega
        | succ i => exact h2 i x (by omega) (hsh i x hx)
      · refine .inr ⟨j + 1, by omega, ⟨u, e, h2⟩, h3, fun i x hi hx => ?_, fun i x hi1 hi2 hx => ?_⟩
        · cases i with
          | zero =>
            have e2 : x = v := hx
            subst e2; omega
          | succ i => exact h4 i x (by omega) (hsh i x hx)
        · obtain ⟨i, rfl⟩ : ∃ i', i = i' + 1 := ⟨i - 1, by omega⟩
          exact h5 i x (by omega) (by omega) (hsh i x hx)
/-- What Least tells stands on the way; none of it is less, none nearer to the root as little. -/
theorem Sp.ls_on {U W : Nat → Int} {k v b : Nat} (h : Sp.Upw U (k + 1) v b) (hb : U b = -1) : ∃ j, j < k + 1 ∧ Sp.Upw U j v (Sp.ls U W (v : Int)) ∧ (∀ i x, i < k + 1 → Sp.Upw U i v x → W (Sp.ls U W (v : Int)) ≤ W x) ∧ (∀ i x, j < i → i < k + 1 → Sp.Upw U i v x → W (Sp.ls U W (v : Int)) < W x) := by
  have e : Sp.ls U W (v : Int) = Sp.leastA U W (k + 1 + 1) v v := by
    unfold Sp.ls
    rw [Int.toNat_natCast, Sp.dp_is h hb]
  rw [e]
  rcases Sp.least_gen (W := W) (a0 := v) h hb with ⟨h1, h2⟩ | ⟨j, h1, h2, h3, h4, h5⟩
  · exact absurd (h2 0 v (by omega) rfl) (by omega)
  · refine ⟨j, h1, h2, fun i x hi hx => ?_, h5⟩
    rcases Nat.lt_trichotomy i j with hij | hij | hij
    · exact h4 i x hij hx
    · subst hij
      rw [h2.one hx]; exact Int.le_refl _
    · exact Int.le_of_lt (h5 i x hij hi hx)
/-- What is added to a way is added to each of its edges, and to no other. -/
theorem Sp.addW_at {n : Nat} {U : Nat → Int} {by_ : Int} (hF : Sp.Fo n U) : ∀ {k v b : Nat} {W : Nat → Int}, v < n → Sp.Upw U k v b → U b = -1 → ∀ x, ((∃ i, i < k ∧ Sp.Upw U i v x) → Sp.addW U by_ (k + 1) W v x = IntKind.i64.wrap (W x + by_)) ∧ ((¬ ∃ i, i < k ∧ Sp.Upw U i v x) → Sp.addW U by_ (k + 1) W v x = W x)
  | 0, v, b, W, hv, h, hb, x => by
    have e : b = v := h
    subst e
    rw [Sp.addW_one hb]
    exact ⟨fun ⟨i, hi, _⟩ => by omega, fun _ => rfl⟩
  | k + 1, v, b, W, hv, ⟨u, e, h⟩, hb, x => by
    have hun : u < n := hF.up_lt hv (k := 1) ⟨u, e, rfl⟩
    rw [Sp.addW_step e]
    obtain ⟨h1, h2⟩ := Sp.addW_at hF (by_ := by_) (W := Sp.upd W v (IntKind.i64.wrap (W v + by_))) hun h hb x
    have hnv : ∀ i, ¬ Sp.Upw U i u v := fun i hi => hF.no_round hv (k := i) ⟨u, e, hi⟩
    constructor
    · rintro ⟨i, hi, hx⟩
      cases i with
      | zero =>
        have e2 : x = v := hx
        subst e2
        rw [h2 (fun ⟨i, _, hx⟩ => hnv i hx), Sp.upd_same]
      | succ i =>
        obtain ⟨u', e', hx⟩ := hx
        obtain rfl : u = u' := by omega
        rw [h1 ⟨i, by omega, hx⟩, Sp.upd_other _ _ (fun e2 => hnv i (by rw [← e2]; exact hx))]
    · intro hn
      rw [h2 (fun ⟨i, hi, hx⟩ => hn ⟨i + 1, by omega, u, e, hx⟩), Sp.upd_other _ _ (fun e2 => hn ⟨0, by omega, e2⟩)]
end Go.Proofs.Ytohfmohkaaidpaa


