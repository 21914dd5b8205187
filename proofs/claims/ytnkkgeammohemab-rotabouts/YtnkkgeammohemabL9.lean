/- What the proof needs, part 9. -/
import Derived.Test.YtnkkgeammohemabL8
/- Each net that Plane makes is plane. -/
namespace Go.Proofs.Ytnkkgeammohemab
open Go Go.RowKit

theorem cls_const (f : Nat → Nat) (h : f 0 = 1 ∧ f 1 = 0) (lab : Nat → Nat) (l0 : lab 0 = 0) (l1 : lab 1 = 0) : Cls 2 f lab 1 := by
  have hc : ∀ i, i < 2 → i = 0 ∨ i = 1 := fun i hi => by omega
  refine ⟨fun i hi => ?_, fun c hc' => ⟨0, by omega, by omega⟩, fun i hi => ?_, fun i j hi hj _ => ?_⟩
  · rcases hc i hi with rfl | rfl <;> omega
  · rcases hc i hi with rfl | rfl
    · rw [h.1, l0, l1]
    · rw [h.2, l0, l1]
  · rcases hc i hi with rfl | rfl <;> rcases hc j hj with rfl | rfl
    · exact OrbF.refl _ _
    · exact ⟨1, h.1⟩
    · exact ⟨1, h.2⟩
    · exact OrbF.refl _ _
theorem cls_each (f : Nat → Nat) (h : f 0 = 0 ∧ f 1 = 1) (lab : Nat → Nat) (l0 : lab 0 = 0) (l1 : lab 1 = 1) : Cls 2 f lab 2 := by
  have hc : ∀ i, i < 2 → i = 0 ∨ i = 1 := fun i hi => by omega
  refine ⟨fun i hi => ?_, fun c hc' => ?_, fun i hi => ?_, fun i j hi hj e => ?_⟩
  · rcases hc i hi with rfl | rfl <;> omega
  · rcases hc c hc' with rfl | rfl
    · exact ⟨0, by omega, l0⟩
    · exact ⟨1, by omega, l1⟩
  · rcases hc i hi with rfl | rfl
    · rw [h.1]
    · rw [h.2]
  · rcases hc i hi with rfl | rfl <;> rcases hc j hj with rfl | rfl
    · exact OrbF.refl _ _
    · omega
    · omega
    · exact OrbF.refl _ _
theorem Sp.Plain.loop (c d : Int) : Sp.Plain ⟨1, [0, 0], [1, 0], [c, d]⟩ := by
  refine ⟨cls_const _ ⟨rfl, rfl⟩ _ rfl rfl, ⟨fun i => i, 2, cls_each _ ⟨rfl, rfl⟩ _ rfl rfl, by show (1 : Int) - ((2 / 2 : Nat) : Int) + ((2 : Nat) : Int) = 2; decide⟩, fun v h0 h1 => ?_⟩
  have h1' : v < 1 := h1
  obtain rfl : v = 0 := by omega
  exact .refl _
theorem Sp.Plain.edge (c d : Int) : Sp.Plain ⟨2, [0, 1], [0, 1], [c, d]⟩ := by
  refine ⟨cls_each _ ⟨rfl, rfl⟩ _ rfl rfl, ⟨fun _ => 0, 1, cls_const _ ⟨rfl, rfl⟩ _ rfl rfl, by show (2 : Int) - ((2 / 2 : Nat) : Int) + ((1 : Nat) : Int) = 2; decide⟩, fun v h0 h1 => ?_⟩
  have h1' : v < 2 := h1
  rcases (show v = 0 ∨ v = 1 by omega) with rfl | rfl
  · exact .refl _
  · exact Sp.Reach.step (tl := [0, 1]) (d := 0) (.refl _) (by decide)
theorem Sp.planeG_same (q : Sp.Net) (k : Int) (h : 0 < q.tail.length) : (Sp.faces2 q).1.getD (q.next.getD (Sp.planeG q k) 0).toNat 0 = (Sp.faces2 q).1.getD (q.next.getD (Sp.planeE q k) 0).toNat 0 := by
  have hp := Sp.planeS_pos q k h
  have hm : Sp.planeG q k ∈ Sp.planeS q k := by
    unfold Sp.planeG
    have h1 : 0 ≤ k / 1200 % ((Sp.planeS q k).length : Int) := Int.emod_nonneg _ (by omega)
    have h2 : k / 1200 % ((Sp.planeS q k).length : Int) < (Sp.planeS q k).length := Int.emod_lt_of_pos _ (by omega)
    rw [List.getD_eq_getElem?_getD, List.getElem?_eq_getElem (by omega)]
    exact List.getElem_mem _
  unfold Sp.planeS Sp.sameL at hm
  have := (List.mem_filter.1 hm).2
  exact eq_of_beq this
theorem Sp.planeN_plain (ns : List Int) : ∀ i, Sp.planeN ns i = ⟨1, [], [], []⟩ ∨ (0 < (Sp.planeN ns i).tail.length ∧ Sp.Plain (Sp.planeN ns i))
  | 0 => .inl rfl
  | i + 1 => by
    right
    have hq := Sp.planeN_ok ns i
    have ih := Sp.planeN_plain ns i
    show 0 < (Sp.planeK (Sp.planeN ns i) (ns.getD i 0 % 1125899906842624)).tail.length ∧ Sp.Plain (Sp.planeK (Sp.planeN ns i) (ns.getD i 0 % 1125899906842624))
    generalize Sp.planeN ns i = q at *
    generalize ns.getD i 0 % 1125899906842624 = k
    unfold Sp.planeK
    by_cases h0 : q.tail.length = 0
    · rw [if_pos h0]
      split
      · exact ⟨by simp, Sp.Plain.loop _ _⟩
      · exact ⟨by simp, Sp.Plain.edge _ _⟩
    · rw [if_neg h0]
      have hl : 0 < q.tail.length := by omega
      have hp : Sp.Plain q := by
        rcases ih with e | e
        · rw [e] at h0; exact absurd rfl h0
        · exact e.2
      split
      · exact ⟨by simp [Sp.growN], hp.growN hq _ (Sp.planeE_lt q k hl) _ _⟩
      · exact ⟨by simp [Sp.growF], hp.growF hq _ _ (Sp.planeE_lt q k hl) (Sp.planeG_lt q k hl) _ _ (Sp.planeG_same q k hl)⟩
theorem Sp.plane_plain (ns : List Int) : Sp.plane ns = ⟨1, [], [], []⟩ ∨ (0 < (Sp.plane ns).tail.length ∧ Sp.Plain (Sp.plane ns)) := Sp.planeN_plain ns _
end Go.Proofs.Ytnkkgeammohemab


/- The law RotAbouts, walked. -/
namespace Go.Proofs.Ytnkkgeammohemab
open Go Go.RowKit

theorem Ints.cellD {w : World} {b o n c : Nat} {l : List Int} (h : Ints w (.slice (some ⟨b, o, none⟩) n c) l) (k : Nat) (hk : k < l.length) : w.cell? ⟨b, o + k, none⟩ = some (.int .i64 (l.getD k 0)) := by
  obtain ⟨a, c', e, -, -, h3⟩ := h.allD
  injection e with e1 e2 e3
  obtain ⟨b', o', e4, -, h5⟩ := unhide h3 k hk
  rw [← e1] at e4
  injection e4 with e4
  injection e4 with e5 e6
  subst e5 e6
  exact h5 w (Below.refl _ _)
theorem Ints.openP {w : World} {v : Value} {l : List Int} (h : Ints w v l) (hl : 0 < l.length) : ∃ b o c, v = .slice (some ⟨b, o, none⟩) l.length c ∧ l.length ≤ c ∧ c ≤ maxLen := by
  obtain ⟨a, c, e, h1, h2, h3⟩ := h.allD
  obtain ⟨b, o, e4, -, -⟩ := unhide h3 0 hl
  exact ⟨b, o, c, by rw [e, e4], h1, h2⟩
/-- A dart's round, the other way about: place by place. -/
theorem turn_rounds {nx : List Int} (hp : Sp.Perm nx) {x : Nat} (hx : x < nx.length) {i : Nat} (hi : i < Sp.per nx x) :
    (Sp.rounds (Sp.turnL nx) x (Sp.per nx x)).getD ((Sp.per nx x - i) % Sp.per nx x) 0 = (Sp.rounds nx x (Sp.per nx x)).getD i 0 := by
  have hp' := hp.turn
  have hx' : x < (Sp.turnL nx).length := by rw [Sp.turnL_len]; exact hx
  have hlt : (Sp.per nx x - i) % Sp.per nx x < Sp.per nx x := Nat.mod_lt _ (by omega)
  have g : ∀ (st : List Int) (j : Nat), j < Sp.per nx x → (Sp.rounds st x (Sp.per nx x)).getD j 0 = Sp.nth st x j := fun st j hj => by
    rw [Sp.getD_eq _ _ (by rw [Sp.rounds_len]; exact hj)]
    simp [Sp.rounds]
  rw [g _ _ hlt, g _ _ hi, hp'.nth_it hx', hp.nth_it hx, Sp.it_turn hp hx _ (by omega)]
  by_cases h0 : i = 0
  · rw [h0, Nat.sub_zero, Nat.mod_self, Nat.sub_zero]
    have e := hp.nth_it hx (Sp.per nx x)
    rw [(hp.per hx).2.2.1] at e
    show ((itf (Sp.fn nx) x (Sp.per nx x) : Nat) : Int) = (x : Int)
    exact e.symm
  · rw [Nat.mod_eq_of_lt (by omega), show Sp.per nx x - (Sp.per nx x - i) = i by omega]
theorem rounds_getD {nx : List Int} (hp : Sp.Perm nx) {x : Nat} (hx : x < nx.length) {i p : Nat} (hi : i < p) : (Sp.rounds nx x p).getD i 0 = ((itf (Sp.fn nx) x i : Nat) : Int) := by
  rw [Sp.getD_eq _ _ (by rw [Sp.rounds_len]; exact hi)]
  simp only [Sp.rounds, List.getElem_map, List.getElem_range]
  exact hp.nth_it hx i
theorem itf_apart {nx : List Int} (hp : Sp.Perm nx) {x : Nat} (hx : x < nx.length) {i k : Nat} (hk : k < i) (hi : i < Sp.per nx x) : itf (Sp.fn nx) x k ≠ itf (Sp.fn nx) x i := by
  intro e
  obtain ⟨p1, p2, p3, p4⟩ := hp.per hx
  have e2 : Sp.nth nx x (k + (i - k)) = Sp.nth nx x k := by rw [show k + (i - k) = i by omega, hp.nth_it hx, hp.nth_it hx, e]
  exact p4 (i - k) (by omega) (by omega) (hp.back hx k (i - k) e2)
set_option maxRecDepth 100000 in
set_option maxHeartbeats 4000000 in
theorem rotAbouts_any (ns : List Int) (x : Value) (d : Int) (w : World) (hx : Ints w x ns) :
    Calls Try.prog 5 #[x, .int .i64 d] w fun e w' => e = .returned (.bool true) ∧ Below w.heap.size w w' := by
  obtain ⟨a, c, rfl, hc, hm⟩ := hx.form
  have HPL := hide (fun w' (hb : Below w.heap.size w w') => plane_any ns (.slice a ns.length c) w' (hx.below hb))
  have HOK := hide (Sp.plane_ok ns)
  have HPP := hide (Sp.plane_plain ns)
  generalize Sp.plane ns = q at *
  generalize ns.length = n at *
  clear hx
  obtain ⟨P, hP⟩ : ∃ P : Ending → World → Prop, P = fun e w' => e = .returned (.bool true) ∧ Below w.heap.size w w' := ⟨_, rfl⟩
  rw [← hP]
  have HP := hide hP
  clear hP
  go_enter Try.func5, Try.ntmps5
  go_wp2_with fail
  go_at_call 9
  refine (known2_any w).mono ?_
  rintro e w2 ⟨rfl, hb2⟩
  have Hb2 := hide hb2
  clear hb2
  go_wp2_with fail
  go_at_call 12
  refine (unhide HPL _ (unhide Hb2)).mono ?_
  clear HPL
  rintro e w3 ⟨v, tv, nv, cv, rfl, hnv, hb3⟩
  have hval := hnv.val
  subst hval
  obtain ⟨ta, tc, rfl, htc, htm, HT⟩ := hnv.netI.tail.allD
  obtain ⟨na, nc, rfl, -, -⟩ := hnv.netI.next.form
  obtain ⟨ca, cc, rfl, -, -⟩ := hnv.netI.cap.form
  obtain ⟨W4, hW4⟩ : ∃ W4, W4 = w3.alloc (.cells #[.int .i64 q.n, .slice ta q.tail.length tc, .slice na q.next.length nc, .slice ca q.cap.length cc] 25) := ⟨_, rfl⟩
  obtain ⟨hBX, hs4, hTR⟩ := boxed ((unhide Hb2).trans (hb3.mono (unhide Hb2).size)) hnv.netI W4 hW4
  have HBX := hide hBX
  have HTR := hide hTR
  have Hs4 := hide hs4
  have HW4 := hide hW4
  clear hnv hb3 Hb2 hBX hTR hs4 hW4
  have hb4 : Below (w3.heap.size + 1) W4 W4 := Below.refl _ _
  have HWK := hide ((unhide HOK).walk (by omega))
  obtain ⟨qT, hqT⟩ : ∃ qT : Sp.Net, qT = ⟨q.n, q.tail, Sp.turnL q.next, q.cap⟩ := ⟨_, rfl⟩
  have HWT : Hid (Sp.walkB qT = true) := hide (by
    have h := walkQ (unhide HWK)
    rw [hqT]
    exact walkB_of ⟨h.n1, h.n0, h.big, h.ev, by show (Sp.turnL q.next).length = _; rw [Sp.turnL_len]; exact h.nx, h.cp, (unhide HOK).pm.turn.bd, h.tb⟩)
  have HA := hide (fun (y : Int) w' (hb : Below (w3.heap.size + 1) W4 w') => about_any q _ _ _ _ y w' (unhide HBX w' hb).2.1 (unhide HWK))
  have HTn : Hid (∀ w', Below (w3.heap.size + 1) W4 w' → Calls Try.prog 15 #[.agg #[.int .i64 q.n, .slice ta q.tail.length tc, .slice na q.next.length nc, .slice ca q.cap.length cc]] w' fun e w'' => ∃ tv nv cv, e = .returned (.agg #[.int .i64 q.n, tv, nv, cv]) ∧ NetI w'' (.agg #[.int .i64 q.n, tv, nv, cv]) qT tv nv cv ∧ Below w'.heap.size w' w'') := by
    refine hide fun w' hb => (rturn_any q _ _ _ _ w' (unhide HBX w' hb).2.1 (unhide HWK)).mono ?_
    rintro e w'' ⟨tv, nv, cv, e1, e2, e3, e4, e5⟩
    exact ⟨tv, nv, cv, e1, by rw [hqT]; exact ⟨rfl, e2.ints, e3.ints, e4.ints⟩, e5⟩
  have HB := hide (fun (y : Int) w' tv nv cv (h : NetI w' (.agg #[.int .i64 q.n, tv, nv, cv]) qT tv nv cv) => about_any qT _ _ _ _ y w' h (unhide HWT))
  have hqn : qT.next = Sp.turnL q.next := by rw [hqT]
  rw [hqn] at HB
  have HNI : Hid (∀ w' w'' tv nv cv, NetI w' (.agg #[.int .i64 q.n, tv, nv, cv]) qT tv nv cv → Below w'.heap.size w' w'' → NetI w'' (.agg #[.int .i64 q.n, tv, nv, cv]) qT tv nv cv) := hide fun w' w'' tv nv cv h hb => ⟨h.val, h.tail.below hb, h.next.below hb, h.cap.below hb⟩
  clear hqT hqn
  have hl48 : q.tail.length ≤ 48 := (unhide HOK).le
  generalize hln : q.tail.length = ln at *
  have Hln := hide hln
  clear hln
  by_cases hz : ln = 0
  · subst hz
    go_wp2
    rw [unhide HP, ← unhide HW4]
    exact ⟨by rfl, (unhide HBX _ hb4).2.2.1⟩
  · have hzI : ¬ (ln : Int) = 0 := by omega
    have hzB : ((ln : Int) == 0) = false := beq_eq_false_iff_ne.2 hzI
    have HPl : Hid (Sp.Plain q) := hide (by
      rcases unhide HPP with e | e
      · exact absurd (by rw [← unhide Hln, e]; rfl) hz
      · exact e.2)
    have hnx : q.next.length = ln := by rw [(unhide HOK).nx, unhide Hln]
    have Hnx := hide hnx
    clear hnx
    go_wp2_with fail
    go_at_call 10
    refine (within2_any d ln _ (by omega) (by omega)).mono ?_
    rintro e w5 ⟨rfl, rfl⟩
    rw [← unhide HW4]
    have hd0 : 0 ≤ d % (ln : Int) := Int.emod_nonneg _ hzI
    have hd1 : d % (ln : Int) < ln := Int.emod_lt_of_pos _ (by omega)
    obtain ⟨y, hy⟩ : ∃ y : Nat, d % (ln : Int) = (y : Int) := ⟨(d % (ln : Int)).toNat, by omega⟩
    have hyl : y < ln := by omega
    rw [hy]
    clear hd0 hd1 hy
    have hynx : y < q.next.length := by rw [unhide Hnx]; exact hyl
    have HYn := hide hynx
    obtain ⟨p, hp⟩ : ∃ p, Sp.per q.next y = p := ⟨_, rfl⟩
    have HPr := hide hp
    have hp1 : 1 ≤ p := by rw [← hp]; exact ((unhide HOK).pm.per hynx).1
    have hp48 : p ≤ 48 := by
      have := ((unhide HOK).pm.per hynx).2.1
      rw [hp, unhide Hnx] at this
      omega
    -- as many darts begin there
    have HCn : Hid (Sp.cnt (fun i => decide (q.tail.getD i 0 = q.tail.getD y 0)) ln = p) := by
      have hv := (unhide HPl).vert
      rw [unhide Hln, ← unhide Hnx] at hv
      have h := (unhide HOK).pm.count hv hynx
      rw [hp, unhide Hnx] at h
      rw [h]
      refine hide (Sp.cnt_congr ln fun i hi => ?_)
      have b1 := (unhide HOK).tb _ (Sp.getD_mem (l := q.tail) (k := i) (by rw [unhide Hln]; exact hi))
      have b2 := (unhide HOK).tb _ (Sp.getD_mem (l := q.tail) (k := y) (by rw [unhide Hln]; exact hyl))
      rw [decide_eq_decide]
      constructor
      · intro e; rw [e]
      · intro e; omega
    have HR1 : Hid (Sp.roundOf q.next y = Sp.rounds q.next y p) := hide (by rw [Sp.roundOf_eq (unhide HOK).pm hynx, hp])
    have HR2 : Hid (Sp.roundOf (Sp.turnL q.next) y = Sp.rounds (Sp.turnL q.next) y p) := hide (by rw [Sp.roundOf_eq (unhide HOK).pm.turn (by rw [Sp.turnL_len]; exact hynx), Sp.per_turn (unhide HOK).pm hynx, hp])
    have HA1 := hide (unhide HA (y : Int))
    have HB1 := hide (unhide HB (y : Int))
    rw [unhide HR1] at HA1
    rw [unhide HR2] at HB1
    -- place by place
    have HPt : Hid (∀ i, i < p → ∃ z : Nat, (Sp.rounds q.next y p).getD i 0 = (z : Int) ∧ z < ln ∧ q.tail.getD z 0 = q.tail.getD y 0 ∧ (Sp.rounds (Sp.turnL q.next) y p).getD ((p - i) % p) 0 = (z : Int)) := by
      refine hide fun i hi => ⟨itf (Sp.fn q.next) y i, rounds_getD (unhide HOK).pm hynx hi, ?_, ?_, ?_⟩
      · have := (unhide HOK).pm.fnP.it hynx i
        rw [unhide Hnx] at this
        exact this
      · have hv := (unhide HPl).vert
        rw [unhide Hln, ← unhide Hnx] at hv
        have h1 := (hv.along (unhide HOK).pm.fnP.mp hynx i)
        have h2 : (q.tail.getD (itf (Sp.fn q.next) y i) 0).toNat = (q.tail.getD y 0).toNat := h1.2
        have b1 := (unhide HOK).tb _ (Sp.getD_mem (l := q.tail) (k := itf (Sp.fn q.next) y i) (by rw [unhide Hln, ← unhide Hnx]; exact h1.1))
        have b2 := (unhide HOK).tb _ (Sp.getD_mem (l := q.tail) (k := y) (by rw [unhide Hln]; exact hyl))
        omega
      · have h := turn_rounds (unhide HOK).pm hynx (i := i) (by rw [hp]; exact hi)
        rw [hp] at h
        rw [h]
        exact rounds_getD (unhide HOK).pm hynx hi
    have HAp : Hid (∀ i k, k < i → i < p → (Sp.rounds q.next y p).getD k 0 ≠ (Sp.rounds q.next y p).getD i 0) := by
      refine hide fun i k hk hi => ?_
      rw [rounds_getD (unhide HOK).pm hynx hi, rounds_getD (unhide HOK).pm hynx (show k < p by omega)]
      intro e
      exact itf_apart (unhide HOK).pm hynx hk (by rw [hp]; exact hi) (by omega)
    have HLa : Hid ((Sp.rounds q.next y p).length = p) := hide (Sp.rounds_len _ _ _)
    have HLb : Hid ((Sp.rounds (Sp.turnL q.next) y p).length = p) := hide (Sp.rounds_len _ _ _)
    have HTl : Hid (∀ k w', k < ln → Below (w3.heap.size + 1) W4 w' → ∃ b o, ta = some ⟨b, o, none⟩ ∧ w'.cell? ⟨b, o + k, none⟩ = some (.int .i64 (q.tail.getD k 0))) := by
      refine hide fun k w' hk hb => ?_
      obtain ⟨b, o, e1, -, e2⟩ := unhide HT k hk
      exact ⟨b, o, e1, e2 w' (unhide HBX w' hb).2.2.2.2⟩
    generalize Sp.rounds q.next y p = A at *
    generalize Sp.rounds (Sp.turnL q.next) y p = B at *
    clear HA HB HT HR1 HR2 HPr hynx hp HPl HPP HYn
    have hb4d := hb4.drew
    go_upto_region 7 with fail
    go_cut [7, 8] (fun s7 s8 wx => ∃ ra rb, s7 = ra ∧ s8 = rb ∧ Hid (Ints wx ra A ∧ Ints wx rb B ∧ Below (w3.heap.size + 1) W4 wx))
    case first =>
      go_region_held3 (fun w' => w'.cell? ⟨w3.heap.size, 0, none⟩ = some (.int .i64 q.n) ∧ w'.cell? ⟨w3.heap.size, 1, none⟩ = some (.slice ta ln tc) ∧ w'.cell? ⟨w3.heap.size, 2, none⟩ = some (.slice na q.next.length nc) ∧ w'.cell? ⟨w3.heap.size, 3, none⟩ = some (.slice ca q.cap.length cc))
        (exact (unhide HBX _ (by assumption)).1)
        (first
          | (go_at_call 15
             refine (unhide HTn _ (by assumption)).mono ?_
             rintro e wT ⟨tvT, nvT, cvT, rfl, hNT, hlT⟩
             have hbT := unhide HTR _ _ (by assumption) hlT)
          | (go_at_call_of 14 tvT
             refine (unhide HB1 _ _ _ _ (by first | exact hNT | exact unhide HNI _ _ _ _ _ hNT hlA)).mono ?_
             rintro e wB ⟨rvB, rfl, hmB, hlB⟩
             have hbB := unhide HTR _ _ (by assumption) hlB)
          | (go_at_call_of 14 ta
             refine (unhide HA1 _ (by assumption)).mono ?_
             rintro e wA ⟨rvA, rfl, hmA, hlA⟩
             have hbA := unhide HTR _ _ (by assumption) hlA))
      all_goals
        go_wp2
        go_meet
        first
          | exact ⟨_, _, rfl, rfl, hide ⟨hmA.ints, hmB.ints.below hlA, hbA⟩⟩
          | exact ⟨_, _, rfl, rfl, hide ⟨hmA.ints.below hlB, hmB.ints, hbB⟩⟩
          | exact ⟨_, _, rfl, rfl, hide ⟨(hmA.ints.below hlT).below hlB, hmB.ints, hbB⟩⟩
    case rest =>
      obtain ⟨wP, rfl⟩ : ∃ wP, wP = wc := ⟨_, rfl⟩
      obtain ⟨ra, rb, rfl, rfl, HP7⟩ := hcut
      obtain ⟨ab, ao, ac, hva, hac, ham⟩ := (unhide HP7).1.openP (by rw [unhide HLa]; omega)
      obtain ⟨bb, bo, bc, hvb, hbc, hbm⟩ := (unhide HP7).2.1.openP (by rw [unhide HLb]; omega)
      rw [unhide HLa] at hva hac
      rw [unhide HLb] at hvb hbc
      subst hva hvb
      have HAb := HP7
      clear HP7 hb4d hb4
      have HAc : Hid (∀ wr, Hid (Ints wr (.slice (some ⟨ab, ao, none⟩) p ac) A ∧ Ints wr (.slice (some ⟨bb, bo, none⟩) p bc) B ∧ Below (w3.heap.size + 1) W4 wr) → ∀ k, k < p → wr.cell? ⟨ab, ao + k, none⟩ = some (.int .i64 (A.getD k 0)) ∧ wr.cell? ⟨bb, bo + k, none⟩ = some (.int .i64 (B.getD k 0))) := hide fun wr h k hk => ⟨(unhide h).1.cellD k (by rw [unhide HLa]; exact hk), (unhide h).2.1.cellD k (by rw [unhide HLb]; exact hk)⟩
      have HAd : Hid (∀ wr nq, Hid (Ints wr (.slice (some ⟨ab, ao, none⟩) p ac) A ∧ Ints wr (.slice (some ⟨bb, bo, none⟩) p bc) B ∧ Below (w3.heap.size + 1) W4 wr) → Hid (Ints (World.drewN wr nq) (.slice (some ⟨ab, ao, none⟩) p ac) A ∧ Ints (World.drewN wr nq) (.slice (some ⟨bb, bo, none⟩) p bc) B ∧ Below (w3.heap.size + 1) W4 (World.drewN wr nq))) := hide fun wr nq h => hide ⟨(unhide h).1.below (below_dn (Below.refl _ _) nq), (unhide h).2.1.below (below_dn (Below.refl _ _) nq), below_dn (unhide h).2.2 nq⟩
      have HCs := hide (fun i => Sp.cnt_succ (fun i => decide (q.tail.getD i 0 = q.tail.getD y 0)) i)
      have HCl := hide (fun i => Sp.cnt_le (fun i => decide (q.tail.getD i 0 = q.tail.getD y 0)) i)
      have HC0 : Hid (Sp.cnt (fun i => decide (q.tail.getD i 0 = q.tail.getD y 0)) 0 = 0) := hide rfl
      generalize Sp.cnt (fun i => decide (q.tail.getD i 0 = q.tail.getD y 0)) = C at *
      obtain ⟨tb, tt, rfl, -⟩ := unhide HTl y wP hyl (unhide HAb).2.2
      have HTc : Hid (∀ k w', k < ln → Below (w3.heap.size + 1) W4 w' → w'.cell? ⟨tb, tt + k, none⟩ = some (.int .i64 (q.tail.getD k 0))) := by
        refine hide fun k w' hk hb => ?_
        obtain ⟨b, o, e1, e2⟩ := unhide HTl k w' hk hb
        injection e1 with e1
        injection e1 with e3 e4
        subst e3 e4
        exact e2
      clear HTl HA1 HB1 HTn HNI
      have hyI : (y : Int) < (ln : Int) := by omega
      go_wp2_with fail
      go_loopg [9, 10] ln (fun g s9 s10 wr => ∃ i : Nat, i + g = ln ∧ s10 = .int .i64 (i : Int) ∧ s9 = .int .i64 ((C i : Nat) : Int) ∧ Hid (Ints wr (.slice (some ⟨ab, ao, none⟩) p ac) A ∧ Ints wr (.slice (some ⟨bb, bo, none⟩) p bc) B ∧ Below (w3.heap.size + 1) W4 wr))
      case atStart => exact ⟨0, by omega, rfl, by rw [unhide HC0]; rfl, HAb⟩
      case round =>
        obtain ⟨i, hig, rfl, rfl, HAr⟩ := hrel
        cases gk with
        | succ g' =>
          have hil : i < ln := by omega
          have hiI : (i : Int) < (ln : Int) := by omega
          have c1 := unhide HTc i wr hil (unhide HAr).2.2
          have c2 := unhide HTc y wr hyl (unhide HAr).2.2
          obtain ⟨x0, x1, x2, x3⟩ := (unhide HBX wr (unhide HAr).2.2).1
          have hs := unhide HCs i
          have hl := unhide HCl i
          have HAr2 := hide (fun nq => unhide HAd wr nq HAr)
          clear HAb HAr x0 x2 x3
          generalize q.tail.getD i 0 = f1 at *
          generalize q.tail.getD y 0 = f2 at *
          generalize hci : C i = ci at *
          by_cases hf : f1 = f2
          · subst hf
            have hfb : (f1 == f1) = true := beq_self_eq_true _
            have HS : Hid (C (i + 1) = ci + 1) := hide (by rw [hs, if_pos (decide_eq_true rfl)])
            clear hs hci
            go_wp2
            go_quiet (fail)
            have HAq := unhide HAr2 nq
            clear c1 c2 x1
            generalize wr.drewN nq = wq at *
            go_wp2
            go_roundg g'
            case rel => exact ⟨i + 1, by omega, by go_num, by rw [unhide HS]; go_num, HAq⟩
            case measure => omega
          · have hfb : (f1 == f2) = false := beq_eq_false_iff_ne.2 hf
            have HS : Hid (C (i + 1) = ci) := hide (by rw [hs, if_neg (by rw [decide_eq_true_eq]; exact hf)]; rfl)
            clear hs hci
            go_wp2
            go_quiet (fail)
            have HAq := unhide HAr2 nq
            clear c1 c2 x1
            generalize wr.drewN nq = wq at *
            go_wp2
            go_roundg g'
            case rel => exact ⟨i + 1, by omega, by go_num, by rw [unhide HS], HAq⟩
            case measure => omega
        | zero =>
          have hie : i = ln := by omega
          rw [hie, unhide HCn]
          clear hie hig HAb HCs HCl HC0 HCn
          obtain ⟨x0, x1, x2, x3⟩ := (unhide HBX wr (unhide HAr).2.2).1
          have hpp : ((p : Int) != (p : Int)) = false := by simp
          go_wp2_with fail
          clear x0 x1 x2 x3
          have HAb := HAr
          clear HAr
          go_loopg [11] p (fun g s11 wr => ∃ i : Nat, i + g = p ∧ s11 = .int .i64 (i : Int) ∧ Hid (Ints wr (.slice (some ⟨ab, ao, none⟩) p ac) A ∧ Ints wr (.slice (some ⟨bb, bo, none⟩) p bc) B ∧ Below (w3.heap.size + 1) W4 wr))
          case atStart => exact ⟨0, by omega, rfl, HAb⟩
          case round =>
            obtain ⟨i, hig, rfl, HAr⟩ := hrel
            cases gk with
            | zero =>
              have hie : i = p := by omega
              rw [hie]
              clear hie hig HAb
              have Hfin := hide (unhide HBX wr (unhide HAr).2.2).2.2.1
              go_wp2
              rw [unhide HP]
              exact ⟨by rfl, unhide Hfin⟩
            | succ g' =>
              have hip : i < p := by omega
              have hipI : (i : Int) < (p : Int) := by omega
              obtain ⟨z, hz1, hz2, hz3, hz4⟩ := unhide HPt i hip
              obtain ⟨j, hj⟩ : ∃ j, (p - i) % p = j := ⟨_, rfl⟩
              have hjp : j < p := by rw [← hj]; exact Nat.mod_lt _ (by omega)
              have hjI : (j : Int) < (p : Int) := by omega
              have hwr : IntKind.i64.wrap ((p : Int) - (i : Int)) = (p : Int) - (i : Int) := by rw [IntKind.wrap_i64]; omega
              have htm : ((p : Int) - (i : Int)).tmod (p : Int) = (j : Int) := by
                rw [show (p : Int) - (i : Int) = ((p - i : Nat) : Int) by omega, ← Int.ofNat_tmod, hj]
              have hpz : ¬ (p : Int) = 0 := by omega
              have c1 := (unhide HAc wr HAr i hip).1
              have c2 := (unhide HAc wr HAr j hjp).2
              rw [hz1] at c1
              rw [hj] at hz4
              rw [hz4] at c2
              have c3 := unhide HTc z wr hz2 (unhide HAr).2.2
              have c4 := unhide HTc y wr hyl (unhide HAr).2.2
              rw [hz3] at c3
              have HZ : Hid (∀ k, k < i → ∃ zk : Nat, A.getD k 0 = (zk : Int) ∧ zk ≠ z) := by
                refine hide fun k hk => ?_
                obtain ⟨zk, e1, -⟩ := unhide HPt k (by omega)
                refine ⟨zk, e1, fun e => unhide HAp i k hk hip ?_⟩
                rw [e1, hz1, e]
              have HZ1 := hide hz1
              generalize q.tail.getD y 0 = f2 at *
              have hzI2 : (z : Int) < (ln : Int) := by omega
              have hb0 : decide ((z : Int) < 0) = false := decide_eq_false (by omega)
              have hb1 : decide ((ln : Int) ≤ (z : Int)) = false := decide_eq_false (by omega)
              have hb1' : decide (ln ≤ z) = false := decide_eq_false (by omega)
              have hb1n : ¬ (ln : Int) ≤ (z : Int) := by omega
              have hb1m : ¬ ln ≤ z := by omega
              have hb0n : ¬ (z : Int) < 0 := by omega
              have hb2 : (f2 != f2) = false := by simp
              have hb3 : ((z : Int) != (z : Int)) = false := by simp
              obtain ⟨x0, x1, x2, x3⟩ := (unhide HBX wr (unhide HAr).2.2).1
              have HAr2 := hide (fun nq => unhide HAd wr nq HAr)
              clear hz1 hz2 hz3 hz4 hj x0 x2 x3 HAb HAr
              go_wp2
              go_quiet (fail)
              have HAq := unhide HAr2 nq
              clear c1 c2 c3 c4 x1 HAr2 hwr htm
              generalize wr.drewN nq = wq at *
              go_wp2_with fail
              go_loopg [12] i (fun g s12 wr => ∃ k : Nat, k + g = i ∧ s12 = .int .i64 (k : Int) ∧ Hid (Ints wr (.slice (some ⟨ab, ao, none⟩) p ac) A ∧ Ints wr (.slice (some ⟨bb, bo, none⟩) p bc) B ∧ Below (w3.heap.size + 1) W4 wr))
              case atStart => exact ⟨0, by omega, rfl, HAq⟩
              case round =>
                obtain ⟨k, hkg, rfl, HAk⟩ := hrel
                cases gk with
                | zero =>
                  have hke : k = i := by omega
                  rw [hke]
                  clear hke hkg HAq
                  go_wp2
                  go_roundg g'
                  case rel => exact ⟨i + 1, by omega, by go_num, HAk⟩
                  case measure => omega
                | succ g2 =>
                  have hki : k < i := by omega
                  have hkI : (k : Int) < (i : Int) := by omega
                  have hkp : (k : Int) < (p : Int) := by omega
                  obtain ⟨zk, e1, e2⟩ := unhide HZ k hki
                  have c1 := (unhide HAc wr HAk k (by omega)).1
                  have c2 := (unhide HAc wr HAk i hip).1
                  rw [e1] at c1
                  rw [unhide HZ1] at c2
                  have hne : ((zk : Int) == (z : Int)) = false := beq_eq_false_iff_ne.2 (by omega)
                  have hne2 : ¬ (zk : Int) = (z : Int) := by omega
                  have HAr2 := hide (fun nq => unhide HAd wr nq HAk)
                  clear e1 e2 HAk HAq
                  go_wp2
                  go_quiet (fail)
                  have HAk := unhide HAr2 nq
                  clear c1 c2 HAr2
                  generalize wr.drewN nq = wq2 at *
                  go_wp2
                  go_roundg g2
                  case rel => exact ⟨k + 1, by omega, by go_num, HAk⟩
                  case measure => omega
end Go.Proofs.Ytnkkgeammohemab


