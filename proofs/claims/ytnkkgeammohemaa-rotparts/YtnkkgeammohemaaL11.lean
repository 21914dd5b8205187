/- What the proof needs, part 11. -/
import Derived.Test.YtnkkgeammohemaaL10
/- The law RotParts, walked. -/
namespace Go.Proofs.Ytnkkgeammohemaa
open Go Go.RowKit

/-- A row of bools that may be written. -/
structure GB (w : World) (G N : Nat) (S : Nat → Bool) : Prop where
  cell : ∀ j, j < N → w.cell? ⟨G, j, none⟩ = some (.bool (S j))
  fr : ∀ j, j < N → w.frozen? ⟨G, j, none⟩ = false
theorem GB.set {w : World} {G N : Nat} {S : Nat → Bool} (h : GB w G N S) {b : Nat} (hb : b < N) : GB (w.setCell ⟨G, b, none⟩ (.bool true)) G N (fun j => if j = b then true else S j) := by
  refine ⟨fun j hj => ?_, fun j hj => by rw [World.frozen?_setCell]; exact h.fr j hj⟩
  show _ = some (Value.bool (if j = b then true else S j))
  by_cases e : j = b
  · rw [if_pos e, e]
    exact World.cell?_setCell_same _ _ _ (h.cell b hb)
  · rw [if_neg e]
    exact (World.cell?_setCell_other _ _ _ _ (fun e2 => e (by injection e2 with _ e3; exact e3.symm))).trans (h.cell j hj)
theorem GB.dn {w : World} {G N : Nat} {S : Nat → Bool} (h : GB w G N S) (k : Nat) : GB (w.drewN k) G N S := ⟨fun j hj => h.cell j hj, fun j hj => h.fr j hj⟩
/-- What was got so far: the first, and what it leads to. -/
structure Got (tl : List Int) (N x : Nat) (S : Nat → Bool) : Prop where
  one : S x = true
  rch : ∀ j, j < N → S j = true → Sp.Reach tl x j
theorem Got.set {tl : List Int} {N x : Nat} {S : Nat → Bool} (h : Got tl N x S) {d a b : Nat} (hd : d < tl.length) (ha : tl.getD d 0 = (a : Int)) (hb : tl.getD (Sp.oth d) 0 = (b : Int)) (haN : a < N) (hS : S a = true) : Got tl N x (fun j => if j = b then true else S j) := by
  refine ⟨?_, fun j hj e => ?_⟩
  · show (if x = b then true else S x) = true
    split
    · rfl
    · exact h.one
  · have e' : (if j = b then true else S j) = true := e
    by_cases e1 : j = b
    · rw [e1, ← hb]
      refine Sp.Reach.step ?_ hd
      rw [ha]
      exact h.rch a haN hS
    · rw [if_neg e1] at e'
      exact h.rch j hj e'
theorem cnt_set (S : Nat → Bool) (b : Nat) (hS : S b = false) : ∀ n, Sp.cnt (fun j => if j = b then true else S j) n = Sp.cnt S n + if b < n then 1 else 0
  | 0 => by rw [if_neg (by omega)]; rfl
  | n + 1 => by
    rw [Sp.cnt_succ, Sp.cnt_succ, cnt_set S b hS n]
    by_cases e : n = b
    · rw [if_neg (show ¬ b < n by omega), if_pos (show b < n + 1 by omega), e, hS]
      simp
    · rw [if_neg e]
      by_cases h1 : b < n
      · rw [if_pos h1, if_pos (show b < n + 1 by omega)]; omega
      · rw [if_neg h1, if_neg (show ¬ b < n + 1 by omega)]; omega
/-- Where nothing more comes, what was got is all that is led to. -/
theorem Got.all {tl : List Int} {N x : Nat} {S : Nat → Bool} (h : Got tl N x S) (hs : ∀ d, d < tl.length → S (tl.getD d 0).toNat = true → S (tl.getD (Sp.oth d) 0).toNat = true) {y : Nat} (hy : y < N) : S y = true ↔ Sp.Reach tl x y := by
  refine ⟨h.rch y hy, fun hr => ?_⟩
  have h1 := hr.ind (p := fun v => S v.toNat = true) (by rw [Int.toNat_natCast]; exact h.one) (fun d hd _ ih => hs d hd ih)
  rw [Int.toNat_natCast] at h1
  exact h1
theorem made_open {w : World} {B G N : Nat} (h : OwnB w B (.slice (some ⟨G, 0, none⟩) N N) (Sp.metL N [])) : GB w G N (fun _ => false) := by
  have hl : (Sp.metL N []).length = N := Sp.metL_len _ _
  refine ⟨fun j hj => ?_, fun j _ => ?_⟩
  · rw [owns_bool h hl j hj, Sp.metL_get]
    simp
  · unfold OwnB at h
    rw [hl] at h
    exact World.ownsRow.frozenAt h j
structure PInv (X : Nat) (W wr : World) (pb G N : Nat) (PL tl : List Int) (x : Nat) (S : Nat → Bool) : Prop where
  bel : Below X W wr
  pc : ∀ k, k < N → wr.cell? ⟨pb, k, none⟩ = some (.int .i64 (PL.getD k 0))
  gb : GB wr G N S
  got : Got tl N x S
theorem PInv.put {X : Nat} {W wr : World} {pb G N : Nat} {PL tl : List Int} {x : Nat} {S : Nat → Bool} (h : PInv X W wr pb G N PL tl x S) (hG : X ≤ G) (hne : pb ≠ G) {b : Nat} (hb : b < N) (hg : Got tl N x (fun j => if j = b then true else S j)) : PInv X W (wr.setCell ⟨G, b, none⟩ (.bool true)) pb G N PL tl x (fun j => if j = b then true else S j) :=
  ⟨h.bel.setCell (by exact hG) _, fun k hk => (World.cell?_setCell_other _ _ _ _ (fun e => hne (by injection e with e1; exact e1.symm))).trans (h.pc k hk), h.gb.set hb, hg⟩
theorem PInv.dn {X : Nat} {W wr : World} {pb G N : Nat} {PL tl : List Int} {x : Nat} {S : Nat → Bool} (h : PInv X W wr pb G N PL tl x S) (k : Nat) : PInv X W (wr.drewN k) pb G N PL tl x S := ⟨below_dn h.bel k, fun j hj => h.pc j hj, h.gb.dn k, h.got⟩
set_option maxRecDepth 100000 in
set_option maxHeartbeats 4000000 in
theorem rotParts_any (ms : List Int) (yv : Value) (size a b : Int) (w : World) (hy : Ints w yv ms) (hi64 : ∀ y ∈ ms, -9223372036854775808 ≤ y ∧ y ≤ 9223372036854775807) :
    Calls Try.prog 8 #[.int .i64 size, yv, .int .i64 a, .int .i64 b] w fun e w' => e = .returned (.bool true) ∧ Below w.heap.size w w' := by
  obtain ⟨a2', c2', rfl, hc2, hm2⟩ := hy.form
  have h80 : 0 ≤ size % 8 := Int.emod_nonneg _ (by omega)
  have h81 : size % 8 < 8 := Int.emod_lt_of_pos _ (by omega)
  have HWi8 := hide (fun w' => within2_any size 8 w' (by omega) (by omega))
  have HMK := hide (fun w' (hb : Below w.heap.size w w') => make_any (1 + size % 8) ms (.slice a2' ms.length c2') w' (hy.below hb) hy.len hi64)
  have HMW := hide (Sp.make_whole (1 + size % 8) ms)
  generalize Sp.make (1 + size % 8) ms = q at *
  generalize ms.length = n2 at *
  generalize size % 8 = s8 at *
  clear hy hi64
  have HTb : Hid (∀ z ∈ q.tail, 0 ≤ z ∧ z < q.n) := hide (unhide HMW).1.lists.tb
  have HEv : Hid (q.tail.length % 2 = 0) := hide (unhide HMW).1.lists.ev
  have HLs := hide (unhide HMW).1.lists
  obtain ⟨N, hN⟩ : ∃ N : Nat, q.n = (N : Int) := ⟨q.n.toNat, by have := (unhide HLs).n0; omega⟩
  have hN8 : N ≤ 8 := by have := (unhide HMW).2.1; omega
  have hln40 : q.tail.length ≤ 40 := (unhide HMW).2.2
  rw [hN] at HTb
  have HWK : Hid (Sp.walkB q = true) := hide (walkB_of ⟨(unhide HLs).n1, (unhide HLs).n0, (unhide HLs).tl, (unhide HLs).ev, (unhide HLs).nl, (unhide HLs).cl, fun x hx => by rw [(unhide HLs).nl]; exact (unhide HMW).1.next x hx, (unhide HLs).tb⟩)
  have HPS := hide (Sp.pieces_st (unhide HLs).n0 (unhide HLs).tb (unhide HLs).ev)
  rw [hN, Int.toNat_natCast] at HPS
  have HqN := hide hN
  obtain ⟨P, hP⟩ : ∃ P : Ending → World → Prop, P = fun e w' => e = .returned (.bool true) ∧ Below w.heap.size w w' := ⟨_, rfl⟩
  rw [← hP]
  have HP := hide hP
  clear hP hN
  have hs1 : IntKind.i64.wrap (1 + s8) = 1 + s8 := by rw [IntKind.wrap_i64]; omega
  go_enter Try.func8, Try.ntmps8
  go_wp2_with fail
  go_at_call 9
  refine (known2_any w).mono ?_
  rintro e w2 ⟨rfl, hb2⟩
  have Hb2 := hide hb2
  clear hb2
  go_wp2_with fail
  go_at_call 14
  refine (unhide HWi8 _).mono ?_
  rintro e w2' ⟨rfl, rfl⟩
  go_wp2_with fail
  go_at_call 11
  refine (unhide HMK _ (unhide Hb2)).mono ?_
  clear HMK HWi8 hs1 h80 h81
  rintro e w3 ⟨v, tv, nv, cv, rfl, hnv, hb3⟩
  have hval := hnv.val
  subst hval
  obtain ⟨ta, tc, rfl, htc, htm⟩ := hnv.netI.tail.form
  obtain ⟨na, nc, rfl, -, -⟩ := hnv.netI.next.form
  obtain ⟨ca, cc, rfl, -, -⟩ := hnv.netI.cap.form
  obtain ⟨W4, hW4⟩ : ∃ W4, W4 = w3.alloc (.cells #[.int .i64 q.n, .slice ta q.tail.length tc, .slice na q.next.length nc, .slice ca q.cap.length cc] 25) := ⟨_, rfl⟩
  obtain ⟨hBX, hs4, hTR⟩ := boxed ((unhide Hb2).trans (hb3.mono (unhide Hb2).size)) hnv.netI W4 hW4
  have HPa := hide (fun w' (hb : Below (w3.heap.size + 1) W4 w') => parts_any q _ _ _ _ w' (hBX w' hb).2.1 (unhide HWK))
  have HTi := hide (fun w' (hb : Below (w3.heap.size + 1) W4 w') => (hBX w' hb).2.1.tail)
  have Hfin := hide (fun w' (hb : Below (w3.heap.size + 1) W4 w') => (hBX w' hb).2.2.1)
  have HBX := hide (fun w' (hb : Below (w3.heap.size + 1) W4 w') => (hBX w' hb).1)
  rw [unhide HqN] at HBX HPa hW4 ⊢
  have HTR := hide hTR
  have Hs4 := hide hs4
  have HW4 := hide hW4
  clear hnv hb3 Hb2 hBX hTR hs4 hW4
  have hb4 : Below (w3.heap.size + 1) W4 W4 := Below.refl _ _
  generalize hln : q.tail.length = ln at *
  have Hln := hide hln
  clear hln
  by_cases hz : N = 0
  · have Hf0 := hide (unhide Hfin _ hb4)
    rw [unhide HW4] at Hf0
    subst hz
    go_wp2
    rw [unhide HP]
    exact ⟨by rfl, unhide Hf0⟩
  · have hzI : ¬ (N : Int) = 0 := by omega
    have hzB : ((N : Int) == 0) = false := beq_eq_false_iff_ne.2 hzI
    have HPl : Hid ((Sp.pieces q).1.length = N) := hide (unhide HPS).len
    generalize (Sp.pieces q).1 = PL at *
    generalize (Sp.pieces q).2 = K at *
    go_wp2_with fail
    rw [← unhide HW4]
    go_at_call 17
    refine (unhide HPa W4 hb4).mono ?_
    clear HPa
    rintro e w5 ⟨pv, rfl, hpv, hl5⟩
    obtain ⟨pb, pc, hpe, hpb1, hpb2, hpc, -⟩ := own_form hpv (by rw [unhide HPl]; omega)
    rw [unhide HPl] at hpe hpc
    subst hpe
    have HPc : Hid (∀ w', Below w5.heap.size w5 w' → ∀ k, k < N → w'.cell? ⟨pb, k, none⟩ = some (.int .i64 (PL.getD k 0))) := hide fun w' hb k hk => by
      have h := own_cell (own_below hpv hb) k (by rw [unhide HPl]; exact hk)
      rw [← Sp.getD_eq] at h
      exact h
    have Hb5 := hide (unhide HTR _ _ hb4 hl5)
    have h5sz : w3.heap.size + 1 ≤ w5.heap.size := by have := hl5.size; rw [unhide Hs4] at this; exact this
    clear hpv hl5 hb4
    obtain ⟨x0, x1, x2, x3⟩ := unhide HBX w5 (unhide Hb5)
    have hnn : ((N : Int) != (N : Int)) = false := by simp
    obtain ⟨iB, hiB, hB0, hB1, hB2⟩ := info_parts infoB
    go_wp2_with (at_make; refine wpList_make_full _ rfl _ _ 44 rfl w5.heap.size 4 iB (.bool false) 1 Try.underlying44 hiB hB0 hB1 .i64 .i64 _ _ N rfl rfl rfl rfl (by rw [hB2]; omega) (by unfold maxLen; omega) (Nat.le_refl _) ?_)
    intro w6 hown6 hg6
    have hO6 : OwnB w6 w5.heap.size (.slice (some ⟨w5.heap.size, 0, none⟩) N N) (Sp.metL N []) := by
      unfold OwnB
      rw [Sp.metL_nil, List.length_replicate, ← made_bools']
      exact hown6
    have hb6 : Below w5.heap.size w5 w6 := (Below.refl _ _).grown hg6 (Nat.le_refl _) (by simp)
    have HB6 := hide (unhide HTR _ _ (unhide Hb5) hb6)
    have HP6 := hide (unhide HPc w6 hb6)
    have HG6 := hide (made_open hO6)
    clear hown6 hg6 hO6 hb6 x0 x1 x2 x3 hiB hB0 hB1 hB2
    have hGne : pb ≠ w5.heap.size := by omega
    generalize w5.heap.size = G at *
    obtain ⟨x0, x1, x2, x3⟩ := unhide HBX w6 (unhide HB6)
    have hx0 : 0 ≤ a % (N : Int) := Int.emod_nonneg _ hzI
    have hx1 : a % (N : Int) < N := Int.emod_lt_of_pos _ (by omega)
    have hy0 : 0 ≤ b % (N : Int) := Int.emod_nonneg _ hzI
    have hy1 : b % (N : Int) < N := Int.emod_lt_of_pos _ (by omega)
    obtain ⟨x, hx⟩ : ∃ x : Nat, a % (N : Int) = (x : Int) := ⟨(a % (N : Int)).toNat, by omega⟩
    obtain ⟨y, hy⟩ : ∃ y : Nat, b % (N : Int) = (y : Int) := ⟨(b % (N : Int)).toNat, by omega⟩
    have HWa := hide (fun w' => within2_any a N w' (by omega) (by omega))
    have HWb := hide (fun w' => within2_any b N w' (by omega) (by omega))
    rw [hx] at HWa hx1
    rw [hy] at HWb hy1
    have hxN : x < N := by omega
    have hyN : y < N := by omega
    clear hx0 hy0 hx hy
    go_upto_region 10 with fail
    go_quiet (first
      | (go_at_call_of 14 a; exact Calls.quiet_of_same (unhide HWa _))
      | (go_at_call_of 14 b; exact Calls.quiet_of_same (unhide HWb _)))
    have HI0 : Hid (Below (w3.heap.size + 1) W4 (w6.drewN nq) ∧ (∀ k, k < N → (w6.drewN nq).cell? ⟨pb, k, none⟩ = some (.int .i64 (PL.getD k 0))) ∧ GB (w6.drewN nq) G N (fun _ => false)) := hide ⟨below_dn (unhide HB6) nq, fun k hk => unhide HP6 k hk, (unhide HG6).dn nq⟩
    clear HB6 HP6 HG6 x0 x1 x2 x3 HWa HWb
    generalize w6.drewN nq = w7 at *
    have c1 := (unhide HI0).2.2.cell x hxN
    have f1 := (unhide HI0).2.2.fr x hxN
    have hxI : (x : Int) < (N : Int) := by omega
    have hyI : (y : Int) < (N : Int) := by omega
    have HG0 : Hid (Got q.tail N x (fun j => if j = x then true else false)) := hide ⟨by show (if x = x then true else false) = true; rw [if_pos rfl], fun j _ e => by
      have e' : (if j = x then true else false) = true := e
      by_cases h : j = x
      · rw [h]; exact .refl _
      · rw [if_neg h] at e'; cases e'⟩
    have HV0 : Hid (PInv (w3.heap.size + 1) W4 (w7.setCell ⟨G, x, none⟩ (.bool true)) pb G N PL q.tail x (fun j => if j = x then true else false)) := hide ⟨(unhide HI0).1.setCell (by exact h5sz) _, fun k hk => (World.cell?_setCell_other _ _ _ _ (fun e => hGne (by injection e with e1; exact e1.symm))).trans ((unhide HI0).2.1 k hk), (unhide HI0).2.2.set hxN, unhide HG0⟩
    obtain ⟨S0, hS0⟩ : ∃ S0 : Nat → Bool, S0 = (fun j => if j = x then true else false) := ⟨_, rfl⟩
    rw [← hS0] at HV0
    clear hS0 HG0 HI0 HPc Hb5
    have HTc : Hid (0 < ln → ∃ tb tt, ta = some ⟨tb, tt, none⟩ ∧ ∀ k w', k < ln → Below (w3.heap.size + 1) W4 w' → w'.cell? ⟨tb, tt + k, none⟩ = some (.int .i64 (q.tail.getD k 0))) := by
      refine hide fun h0 => ?_
      obtain ⟨tb, tt, c', e⟩ := (unhide HTi W4 (Below.refl _ _)).openF (by rw [unhide Hln]; exact h0)
      injection e with e1
      refine ⟨tb, tt, e1, fun k w' hk hb => ?_⟩
      have h := unhide HTi w' hb
      rw [e1] at h
      exact h.cellF k (by rw [unhide Hln]; exact hk)
    clear HTi
    go_wp2_with fail
    go_loopg [15] (N + 1) (fun g s15 wr => ∃ (bb : Bool) (S : Nat → Bool), s15 = .bool bb ∧ Hid (PInv (w3.heap.size + 1) W4 wr pb G N PL q.tail x S ∧ (bb = true → N + 1 ≤ Sp.cnt S N + g) ∧ (bb = false → ∀ d, d < ln → S (q.tail.getD d 0).toNat = true → S (q.tail.getD (Sp.oth d) 0).toNat = true)))
    case atStart => exact ⟨true, S0, rfl, hide ⟨unhide HV0, fun _ => by omega, fun h => by cases h⟩⟩
    case round =>
      obtain ⟨bb, S, rfl, HO⟩ := hrel
      clear HV0 c1 f1
      cases bb with
      | true =>
        have hm := (unhide HO).2.1 rfl
        have hcl := Sp.cnt_le S N
        cases gk with
        | zero => omega
        | succ g' =>
          go_wp2_with fail
          go_loopg [15, 16] ln (fun g s15 s16 wr => ∃ (d : Nat) (bb : Bool) (S' : Nat → Bool), d + g = ln ∧ s16 = .int .i64 (d : Int) ∧ s15 = .bool bb ∧ Hid (PInv (w3.heap.size + 1) W4 wr pb G N PL q.tail x S' ∧ Sp.cnt S N ≤ Sp.cnt S' N ∧ (bb = true → Sp.cnt S N + 1 ≤ Sp.cnt S' N) ∧ (bb = false → ∀ d', d' < d → S' (q.tail.getD d' 0).toNat = true → S' (q.tail.getD (Sp.oth d') 0).toNat = true)))
          case atStart => exact ⟨0, false, S, by omega, rfl, rfl, hide ⟨(unhide HO).1, Nat.le_refl _, (fun h => by cases h), fun _ d' hd' => by omega⟩⟩
          case round =>
            obtain ⟨d, bb, S', hdg, rfl, rfl, HD⟩ := hrel
            obtain ⟨x0, x1, x2, x3⟩ := unhide HBX wr (unhide HD).1.bel
            cases gk with
            | zero =>
              have hde : d = ln := by omega
              rw [hde] at HD ⊢
              have HR : Hid (PInv (w3.heap.size + 1) W4 wr pb G N PL q.tail x S' ∧ (bb = true → N + 1 ≤ Sp.cnt S' N + g') ∧ (bb = false → ∀ d, d < ln → S' (q.tail.getD d 0).toNat = true → S' (q.tail.getD (Sp.oth d) 0).toNat = true)) := hide ⟨(unhide HD).1, fun hb => by have := (unhide HD).2.2.1 hb; omega, (unhide HD).2.2.2⟩
              clear hde hdg HD HO x0 x2 x3
              go_wp2
              go_roundg g'
              case rel => exact ⟨bb, S', rfl, HR⟩
              case measure => omega
            | succ g2 =>
              have hdl : d < ln := by omega
              have hdI : (d : Int) < (ln : Int) := by omega
              have hdt : d < q.tail.length := by rw [unhide Hln]; exact hdl
              have hot : Sp.oth d < q.tail.length := oth_lt hdt (by rw [unhide Hln]; exact unhide HEv)
              have hol : Sp.oth d < ln := by rw [unhide Hln] at hot; exact hot
              have hxo : bits .xor .i64 (d : Int) 1 = ((Sp.oth d : Nat) : Int) := xor_oth ⟨d, by omega⟩
              have hA := unhide HTb _ (Sp.getD_mem hdt)
              have hB := unhide HTb _ (Sp.getD_mem hot)
              obtain ⟨A, hAe⟩ : ∃ A : Nat, q.tail.getD d 0 = (A : Int) := ⟨(q.tail.getD d 0).toNat, by omega⟩
              obtain ⟨Bn, hBe⟩ : ∃ Bn : Nat, q.tail.getD (Sp.oth d) 0 = (Bn : Int) := ⟨(q.tail.getD (Sp.oth d) 0).toNat, by omega⟩
              obtain ⟨tb, tt, hta, htcell⟩ := unhide HTc (by omega)
              have k1 := htcell d wr hdl (unhide HD).1.bel
              have k2 := htcell (Sp.oth d) wr hol (unhide HD).1.bel
              subst hta
              rw [hAe] at k1 hA
              rw [hBe] at k2 hB
              have hAN : A < N := by omega
              have hBN : Bn < N := by omega
              have k3 := (unhide HD).1.gb.cell A hAN
              have k4 := (unhide HD).1.gb.cell Bn hBN
              have f4 := (unhide HD).1.gb.fr Bn hBN
              have hAI : (A : Int) < (N : Int) := by omega
              have hBI : (Bn : Int) < (N : Int) := by omega
              have HSt : Hid ((S' A = true → S' Bn = true) → bb = false → ∀ d', d' < d + 1 → S' (q.tail.getD d' 0).toNat = true → S' (q.tail.getD (Sp.oth d') 0).toNat = true) := hide fun h1 h2 d' hd' => by
                rcases Nat.lt_or_ge d' d with h3 | h3
                · exact (unhide HD).2.2.2 h2 d' h3
                · rw [show d' = d by omega, hAe, hBe, Int.toNat_natCast, Int.toNat_natCast]; exact h1
              have HPut : Hid (S' A = true → S' Bn = false → PInv (w3.heap.size + 1) W4 (wr.setCell ⟨G, Bn, none⟩ (.bool true)) pb G N PL q.tail x (fun j => if j = Bn then true else S' j) ∧ Sp.cnt (fun j => if j = Bn then true else S' j) N = Sp.cnt S' N + 1) := hide fun h1 h2 => ⟨(unhide HD).1.put h5sz hGne hBN ((unhide HD).1.got.set hdt hAe hBe hAN h1), by rw [cnt_set S' Bn h2 N, if_pos hBN]⟩
              clear hA hB hAe hBe HO x0 x2 x3 htcell hot
              generalize Sp.oth d = od at *
              have hoI : (od : Int) < (ln : Int) := by omega
              cases hsA : S' A with
              | false =>
                rw [hsA] at k3
                have HS2 := hide (unhide HSt (fun h => by rw [hsA] at h; cases h))
                have HK := hide (And.intro (unhide HD).1 (And.intro (unhide HD).2.1 (unhide HD).2.2.1))
                clear HD HSt HPut hsA
                go_wp2
                go_roundg g2
                case rel => exact ⟨d + 1, bb, S', by omega, by go_num, rfl, hide ⟨(unhide HK).1, (unhide HK).2.1, (unhide HK).2.2, unhide HS2⟩⟩
                case measure => omega
              | true =>
                rw [hsA] at k3
                cases hsB : S' Bn with
                | true =>
                  rw [hsB] at k4
                  have HS2 := hide (unhide HSt (fun _ => hsB))
                  have HK := hide (And.intro (unhide HD).1 (And.intro (unhide HD).2.1 (unhide HD).2.2.1))
                  clear HD HSt HPut hsA hsB
                  go_wp2
                  go_roundg g2
                  case rel => exact ⟨d + 1, bb, S', by omega, by go_num, rfl, hide ⟨(unhide HK).1, (unhide HK).2.1, (unhide HK).2.2, unhide HS2⟩⟩
                  case measure => omega
                | false =>
                  rw [hsB] at k4
                  have HPt := hide (unhide HPut hsA hsB)
                  have HK := hide (unhide HD).2.1
                  clear HD HSt HPut hsA hsB
                  go_wp2
                  go_roundg g2
                  case rel => exact ⟨d + 1, true, _, by omega, by go_num, rfl, hide ⟨(unhide HPt).1, by have := (unhide HPt).2; have := unhide HK; omega, fun _ => by have := (unhide HPt).2; have := unhide HK; omega, fun h => by cases h⟩⟩
                  case measure => omega
      | false =>
        have HAll : Hid (S y = true ↔ Sp.Reach q.tail x y) := hide ((unhide HO).1.got.all (fun d hd => (unhide HO).2.2 rfl d (by rw [unhide Hln] at hd; exact hd)) hyN)
        have HPv := hide (unhide HO).1
        clear HO
        have HNM := hide (unhide HPS).num
        go_wp2_with fail
        go_loopg [17, 18] N (fun g s17 s18 wy => ∃ i top : Nat, top ≤ i ∧ i + g = N ∧ s18 = .int .i64 (i : Int) ∧ s17 = .int .i64 (top : Int) ∧ wy = wr ∧ Hid (TopAt PL i top))
        case atStart => exact ⟨0, 0, by omega, by omega, rfl, rfl, rfl, hide ⟨fun j hj => by omega, fun c hc => by omega⟩⟩
        case round =>
          obtain ⟨i, top, hti, hig, rfl, rfl, hwr, HTop⟩ := hrel
          subst hwr
          obtain ⟨x0, x1, x2, x3⟩ := unhide HBX wr (unhide HPv).bel
          cases gk with
          | succ g' =>
            have hil : i < N := by omega
            have hiI : (i : Int) < (N : Int) := by omega
            have hle := (unhide HTop).le (unhide HNM).rg (by rw [unhide HPl]; exact hil)
            have c1 := (unhide HPv).pc i hil
            have HTs := hide (fun h => (unhide HTop).same h)
            have HTm := hide (fun h => (unhide HTop).more h)
            clear HTop
            generalize PL.getD i 0 = fi at *
            obtain ⟨h0, h1⟩ := hle
            have h1' : decide ((top : Int) < fi) = false := decide_eq_false (by omega)
            have h0' : decide (fi < 0) = false := decide_eq_false (by omega)
            by_cases he : fi = (top : Int)
            · have hb : (fi == (top : Int)) = true := beq_iff_eq.2 he
              have HT2 := hide (unhide HTm he)
              subst he
              go_wp2
              go_roundg g'
              case rel => exact ⟨i + 1, top + 1, by omega, by omega, by go_num, by go_num, rfl, HT2⟩
              case measure => omega
            · have hb : (fi == (top : Int)) = false := beq_eq_false_iff_ne.2 he
              have HT2 := hide (unhide HTs (by omega))
              go_wp2
              go_roundg g'
              case rel => exact ⟨i + 1, top, by omega, by omega, by go_num, rfl, rfl, HT2⟩
              case measure => omega
          | zero =>
            have hie : i = N := by omega
            rw [hie] at HTop ⊢
            have hK : top = K := (unhide HTop).last (unhide HPl) (unhide HNM)
            subst hK
            clear hie hig HTop
            have k1 := (unhide HPv).pc x hxN
            have k2 := (unhide HPv).pc y hyN
            have k3 := (unhide HPv).gb.cell y hyN
            have HEq : Hid (PL.getD x 0 = PL.getD y 0 ↔ S y = true) := hide (by
              rw [unhide HAll]
              exact ⟨fun e => (unhide HPS).sep x y hxN hyN ((unhide HPS).done x hxN) e, fun hr => (unhide HPS).inv x y hxN hyN hr⟩)
            have HF := hide (fun nq => unhide Hfin _ (below_dn (unhide HPv).bel nq))
            have hKK : ((top : Int) == (top : Int)) = true := beq_self_eq_true _
            clear HPv x1 x2 x3
            generalize PL.getD x 0 = px at *
            generalize PL.getD y 0 = py at *
            cases hsy : S y with
            | true =>
              have e := (unhide HEq).2 hsy
              rw [hsy] at k3
              have heb : (px == py) = true := beq_iff_eq.2 e
              clear HEq hsy HAll
              subst e
              go_wp2
              go_quiet (fail)
              have HFq := hide (unhide HF nq)
              clear k1 k2 k3 x0 HF
              generalize wr.drewN nq = wq at *
              go_wp2
              rw [unhide HP]
              exact ⟨by rfl, unhide HFq⟩
            | false =>
              have e : px ≠ py := fun h => by have := (unhide HEq).1 h; rw [hsy] at this; cases this
              rw [hsy] at k3
              have heb : (px == py) = false := beq_eq_false_iff_ne.2 e
              clear HEq hsy HAll
              go_wp2
              go_quiet (fail)
              have HFq := hide (unhide HF nq)
              clear k1 k2 k3 x0 HF
              generalize wr.drewN nq = wq at *
              go_wp2
              rw [unhide HP]
              exact ⟨by rfl, unhide HFq⟩
end Go.Proofs.Ytnkkgeammohemaa


