/- What the proof needs, part 19. -/
import Derived.Test.YtoegjnolccabjaaL18
/- The reference's reach (chapter 9): what is reached along what is left. -/
namespace Go.Proofs.Ytoegjnolccabjaa
open Go Go.RowKit

theorem own_same9 {w w' : World} {B e size n g N c : Nat} {xs : List Value} (h : w.ownsRow B e size (.slice (some ⟨g, 0, none⟩) N c) n xs) (e1 : w'.heap[g]? = w.heap[g]?) : w'.ownsRow B e size (.slice (some ⟨g, 0, none⟩) N c) n xs := by
  obtain ⟨h1, h2 | ⟨g', cap, cur, e2, hg, hh, r⟩⟩ := h
  · exact ⟨h1, .inl h2⟩
  · injection e2 with e3 e4 e5
    injection e3 with e3
    injection e3 with e3
    subst e3
    exact ⟨h1, .inr ⟨g, cap, cur, by rw [e4, e5], hg, e1.trans hh, r⟩⟩
/-- The world of reach: the row of truths in G1, the darts in G2, the row of those that were found. -/
structure RcW (B0 : Nat) (W1 wr : World) (N G1 G2 : Nat) (qv : Value) (Q : List Int) (B : Nat → Bool) (Y : Nat → Int) : Prop where
  bel : Below B0 W1 wr
  rb : RowB wr G1 N B
  ry : RowAt wr G2 N Y
  qo : OwnI wr (G2 + 1) qv Q
theorem RcW.below {B0 : Nat} {W1 wr w' : World} {N G1 G2 : Nat} {qv : Value} {Q : List Int} {B : Nat → Bool} {Y : Nat → Int} (h : RcW B0 W1 wr N G1 G2 qv Q B Y) (h0 : B0 ≤ G1) (hb : Below wr.heap.size wr w') : RcW B0 W1 w' N G1 G2 qv Q B Y :=
  ⟨h.bel.trans (hb.mono (by have := h.rb.lt; omega)), h.rb.below hb, h.ry.below hb, own_below h.qo hb⟩
theorem RcW.set2 {B0 : Nat} {W1 wr : World} {N G1 G2 : Nat} {qv : Value} {Q : List Int} {B : Nat → Bool} {Y : Nat → Int} (h : RcW B0 W1 wr N G1 G2 qv Q B Y) (h1 : B0 ≤ G1) (h2 : G1 < G2) (hq : 0 < Q.length) (x : Nat) (y : Int) :
    RcW B0 W1 ((wr.setCell ⟨G1, x, none⟩ (.bool true)).setCell ⟨G2, x, none⟩ (.int .i64 y)) N G1 G2 qv Q (Sp.updB B x true) (Sp.upd Y x y) := by
  refine ⟨(h.bel.setCell (p := ⟨G1, x, none⟩) h1 _).setCell (p := ⟨G2, x, none⟩) (by show B0 ≤ G2; omega) _, ?_, RowAt.set (h.ry.of_block (Below.heap_setCell _ _ _ _ (by show G2 ≠ G1; omega))) x y, ?_⟩
  · exact (h.rb.set x true).of_block (Below.heap_setCell _ _ _ _ (by show G1 ≠ G2; omega))
  · obtain ⟨g, c, rfl, hg, -⟩ := own_form h.qo hq
    exact own_same9 h.qo (by rw [Below.heap_setCell _ _ _ _ (by show g ≠ G2; omega), Below.heap_setCell _ _ _ _ (by show g ≠ G1; omega)])
theorem RcW.app {B0 : Nat} {W1 wr w' : World} {N G1 G2 : Nat} {qv qv' : Value} {Q Q' : List Int} {B : Nat → Bool} {Y : Nat → Int} (h : RcW B0 W1 wr N G1 G2 qv Q B Y) (h1 : B0 ≤ G1) (h2 : G1 < G2) (hb : Below (G2 + 1) wr w') (hq : OwnI w' (G2 + 1) qv' Q') : RcW B0 W1 w' N G1 G2 qv' Q' B Y :=
  ⟨h.bel.trans (hb.mono (by omega)), h.rb.of_block (hb.block _ (by omega)), h.ry.of_block (hb.block _ (by omega)), hq⟩
set_option maxRecDepth 100000 in
set_option maxHeartbeats 8000000 in
theorem rreach9_any (q : Sp.Net) (v tv nv cv fv : Value) (s N : Nat) (F : List Int) (w : World) (hv : NetI w v q tv nv cv) (hF : Ints w fv F) (hl : F.length = q.tail.length) (hev : q.tail.length % 2 = 0) (hle : q.tail.length ≤ 60) (hcl : q.cap.length = q.tail.length) (hN : q.n = (N : Int)) (hN1 : N ≤ 60) (hs : s < N) (hT : ∀ x ∈ q.tail, 0 ≤ x ∧ x < (N : Int)) :
    Calls Try.prog 32 #[v, .int .i64 (s : Int), fv] w fun e w' => ∃ G1 G2 B Y rk, e = .returned (.tuple #[.slice (some ⟨G1, 0, none⟩) N N, .slice (some ⟨G2, 0, none⟩) N N]) ∧ RowB w' G1 N B ∧ RowAt w' G2 N Y ∧ (w.heap.size ≤ G1 ∧ w.heap.size ≤ G2) ∧ Below w.heap.size w w' ∧ Sp.RchQ q.tail q.cap F N s B Y rk := by
  have hv' := hv
  obtain ⟨rfl, h1, h2, h3⟩ := hv
  obtain ⟨ta, tc, rfl, -, -, HT⟩ := h1.allA
  obtain ⟨na, nc, rfl, -, -⟩ := h2.form
  obtain ⟨ca, cc, rfl, -, -, HC⟩ := h3.allA
  obtain ⟨fa, fc, rfl, -, -, HFc⟩ := hF.allA
  clear h1 h2 h3 hF
  rw [hN] at hv' ⊢
  have HBX := hide (box_new w (N : Int) (.slice ta q.tail.length tc) (.slice na q.next.length nc) (.slice ca q.cap.length cc))
  obtain ⟨W1, hW1⟩ : ∃ W1, W1 = w.alloc (.cells #[.int .i64 (N : Int), .slice ta q.tail.length tc, .slice na q.next.length nc, .slice ca q.cap.length cc] 25) := ⟨_, rfl⟩
  rw [← hW1] at HBX
  have hb1 : Below w.heap.size w W1 := by rw [hW1]; exact (Below.refl _ w).alloc (Nat.le_refl _) _
  have hs1 : W1.heap.size = w.heap.size + 1 := by rw [hW1]; simp
  have HW : Hid (∀ w', Below (w.heap.size + 1) W1 w' → Below w.heap.size w w') := hide fun w' hb => hb1.trans (hb.mono (by omega))
  have HHd := hide (fun (y : Nat) w' (hy : y < q.tail.length) (hb : Below (w.heap.size + 1) W1 w') => head2_any q _ _ _ _ y w' (show NetI w' (.agg #[.int .i64 (N : Int), .slice ta q.tail.length tc, .slice na q.next.length nc, .slice ca q.cap.length cc]) q _ _ _ from ⟨by rw [hN], hv'.tail.below (unhide HW w' hb), hv'.next.below (unhide HW w' hb), hv'.cap.below (unhide HW w' hb)⟩) hy hev (by omega))
  have HTb := hide hT
  have HTT := hide (fun d (hd : d < q.tail.length) => hT _ (Sp.getD_mem (l := q.tail) hd))
  have HEv := hide hev
  have HCl := hide hcl
  have HFL := hide hl
  obtain ⟨P, hP⟩ : ∃ P : Ending → World → Prop, P = fun e w' => ∃ G1 G2 B Y rk, e = .returned (.tuple #[.slice (some ⟨G1, 0, none⟩) N N, .slice (some ⟨G2, 0, none⟩) N N]) ∧ RowB w' G1 N B ∧ RowAt w' G2 N Y ∧ (w.heap.size ≤ G1 ∧ w.heap.size ≤ G2) ∧ Below w.heap.size w w' ∧ Sp.RchQ q.tail q.cap F N s B Y rk := ⟨_, rfl⟩
  rw [← hP]
  have HP := hide hP
  have HS1 := hide hs1
  have HFst := hide (fun Y => Sp.RcI.first (T := q.tail) (C := q.cap) (F := F) hs Y)
  clear hP hb1 hT hev hv' hs1 hN hcl hl
  subst hW1
  go_enter Try.func32, Try.ntmps32
  go_wp2_with (at_make; refine wpList_mkB rfl _ _ rfl (w.heap.size + 1) N rfl rfl (by omega) (by simp) ?_)
  intro w5 hr5 hb5
  generalize w.alloc (.cells #[.int .i64 (N : Int), .slice ta q.tail.length tc, .slice na q.next.length nc, .slice ca q.cap.length cc] 25) = W1 at *
  have hsz5 : w.heap.size + 2 ≤ w5.heap.size := by have := hr5.lt; omega
  obtain ⟨x0, x1, x2, x3, -⟩ := unhide HBX w5 hb5
  have H5 := hide (And.intro hb5 hr5)
  clear hb5 hr5
  go_wp2_with (at_make; refine wpList_mk rfl _ _ rfl (w.heap.size + 2) N rfl rfl (by omega) hsz5 ?_)
  intro w6 ho6 hb6 hlt6
  obtain ⟨G2, hG2e⟩ : ∃ G2, w5.heap.size = G2 := ⟨_, rfl⟩
  rw [hG2e] at ho6 hlt6 ⊢
  have hr6 := (RowAt.of_rep ho6).1
  have hb6' : Below w.heap.size w5 w6 := hb6.mono (by omega)
  have hb16 : Below (w.heap.size + 1) W1 w6 := (unhide H5).1.trans (hb6.mono (by omega))
  have hrb6 : RowB w6 (w.heap.size + 1) N (fun _ => false) := (unhide H5).2.of_block (hb6.block _ (by omega))
  have h12 : w.heap.size + 1 < G2 := by omega
  have h21 : G2 ≠ w.heap.size + 1 := by omega
  have h22 : w.heap.size + 1 ≠ G2 := by omega
  have hsI : (s : Int) < (N : Int) := by omega
  have c1 := hrb6.cell hs
  have f1 := fun i => hrb6.frozen i none
  have c2 := hr6.cell hs
  have f2 := fun i => hr6.frozen i none
  have HI0 : Hid (∀ g, g = (w6.setCell ⟨w.heap.size + 1, s, none⟩ (.bool true)).heap.size → RcW (w.heap.size + 1) W1 (((w6.setCell ⟨w.heap.size + 1, s, none⟩ (.bool true)).setCell ⟨G2, s, none⟩ (.int .i64 (-1))).alloc (.cells #[.int .i64 (s : Int)] 3)) N (w.heap.size + 1) G2 (.slice (some ⟨w6.heap.size, 0, none⟩) 1 1) [(s : Int)] (Sp.updB (fun _ => false) s true) (Sp.upd (fun _ => 0) s (-1))) := hide fun _ _ => by
    have hal : ∀ o, Below (((w6.setCell ⟨w.heap.size + 1, s, none⟩ (.bool true)).setCell ⟨G2, s, none⟩ (.int .i64 (-1)))).heap.size ((w6.setCell ⟨w.heap.size + 1, s, none⟩ (.bool true)).setCell ⟨G2, s, none⟩ (.int .i64 (-1))) (((w6.setCell ⟨w.heap.size + 1, s, none⟩ (.bool true)).setCell ⟨G2, s, none⟩ (.int .i64 (-1))).alloc o) := fun o => (Below.refl _ _).alloc (Nat.le_refl _) o
    refine ⟨((hb16.setCell (p := ⟨w.heap.size + 1, s, none⟩) (Nat.le_refl _) _).setCell (p := ⟨G2, s, none⟩) (by show w.heap.size + 1 ≤ G2; omega) _).trans ((hal _).mono (by have := unhide HS1; have := hb16.size; simp; omega)), RowB.below ((hrb6.set s true).of_block (Below.heap_setCell _ _ _ _ h22)) (hal _), RowAt.below ((hr6.of_block (Below.heap_setCell _ _ _ _ h21)).set s (-1)) (hal _), ?_⟩
    exact own_lit _ (G2 + 1) w6.heap.size 1 [(s : Int)] (by simp) rfl (by simp; omega) (by simp)
  clear ho6 hr6 hb6 hb6' hb16 hrb6 H5 x0 x1 x2 x3 hsz5
  go_wp2
  clear c1 c2 f1 f2
  have hI0 := unhide HI0 _ rfl
  have HI1 := hide hI0
  clear HI0 hI0
  generalize ((w6.setCell ⟨w.heap.size + 1, s, none⟩ (.bool true)).setCell ⟨G2, s, none⟩ (.int .i64 (-1))).alloc (.cells #[.int .i64 (s : Int)] 3) = W8 at *
  have HI2 := hide (unhide HFst (Sp.upd (fun _ => 0) s (-1)))
  clear HFst
  generalize Sp.updB (fun _ => false) s true = B0 at *
  generalize Sp.upd (fun _ => 0) s (-1) = Y0 at *
  go_loopg [10, 11] N (fun g s10 s11 wr => ∃ (i : Nat) (Q : List Int) (B : Nat → Bool) (Y : Nat → Int) (qa : Option Addr) (qc : Nat), i + g = N ∧ s10 = .slice qa Q.length qc ∧ s11 = .int .i64 (i : Int) ∧ Hid (RcW (w.heap.size + 1) W1 wr N (w.heap.size + 1) G2 (.slice qa Q.length qc) Q B Y ∧ Sp.RcI q.tail q.cap F N s i 0 Q B Y))
  case atStart => exact ⟨0, [(s : Int)], B0, Y0, _, _, by omega, rfl, rfl, hide ⟨unhide HI1, unhide HI2⟩⟩
  case round =>
    clear HI1 HI2
    obtain ⟨i, Q, B, Y, qa, qc, hig, rfl, rfl, HI⟩ := hrel
    have hQl := (unhide HI).2.le
    by_cases hi : i < Q.length
    · have hiI : (i : Int) < (Q.length : Int) := by omega
      obtain ⟨g', rfl⟩ : ∃ g', gk = g' + 1 := ⟨gk - 1, by omega⟩
      have HI3 := hide (And.intro (unhide HI).1 (And.intro (unhide HI).2 hi))
      clear HI
      go_wp2
      go_loopg [10, 12] q.tail.length (fun g s10 s12 wr => ∃ (d : Nat) (Q : List Int) (B : Nat → Bool) (Y : Nat → Int) (qa : Option Addr) (qc : Nat), d + g = q.tail.length ∧ s10 = .slice qa Q.length qc ∧ s12 = .int .i64 (d : Int) ∧ Hid (RcW (w.heap.size + 1) W1 wr N (w.heap.size + 1) G2 (.slice qa Q.length qc) Q B Y ∧ Sp.RcI q.tail q.cap F N s i d Q B Y ∧ i < Q.length))
      case atStart => exact ⟨0, Q, B, Y, _, _, by omega, rfl, rfl, HI3⟩
      case round =>
        clear HI3 hi hiI hQl
        obtain ⟨d, Q, B, Y, qa, qc, hdg, rfl, rfl, HI⟩ := hrel
        obtain ⟨x0, x1, x2, x3, -⟩ := unhide HBX _ (unhide HI).1.bel
        by_cases hd : d < q.tail.length
        · have hdI : (d : Int) < (q.tail.length : Int) := by omega
          obtain ⟨g2, rfl⟩ : ∃ g2, gk = g2 + 1 := ⟨gk - 1, by omega⟩
          have hyb := unhide HTT _ (oth_lt hd (unhide HEv))
          have HH := hide (unhide HHd d _ hd (unhide HI).1.bel)
          obtain ⟨y, hy⟩ : ∃ y : Nat, q.tail.getD (Sp.oth d) 0 = (y : Int) := ⟨(q.tail.getD (Sp.oth d) 0).toNat, by omega⟩
          rw [hy] at hyb HH
          have hyN : y < N := by omega
          have hyI : (y : Int) < (N : Int) := by omega
          have hQl := (unhide HI).2.1.le
          go_wp2_with fail
          go_at_call 44
          refine (unhide HH).mono ?_
          rintro e w8 ⟨rfl, hb8⟩
          have H8 := hide ((unhide HI).1.below (Nat.le_refl _) hb8)
          have HRc := hide (unhide HI).2.1
          have hi2 := (unhide HI).2.2
          have hiI : (i : Int) < (Q.length : Int) := by omega
          clear HI HH x0 x1 x2 x3 hb8
          obtain ⟨g3, cap, hqe, hg3, -⟩ := own_form (unhide H8).qo (by omega)
          injection hqe with hqe1 _ hqe2
          subst hqe1
          subst hqe2
          have hb8 : Below w.heap.size w w8 := unhide HW _ (unhide H8).bel
          obtain ⟨tb, tt, rfl, -, ht⟩ := unhide HT d hd
          obtain ⟨fb, ft, rfl, -, hf⟩ := unhide HFc d (by rw [unhide HFL]; exact hd)
          obtain ⟨cb3, ct3, rfl, -, hc⟩ := unhide HC d (by rw [unhide HCl]; exact hd)
          have hdF : (d : Int) < (F.length : Int) := by rw [unhide HFL]; omega
          have hdC : (d : Int) < (q.cap.length : Int) := by rw [unhide HCl]; omega
          have ct := ht w8 hb8
          have cf := hf w8 hb8
          have cc2 := hc w8 hb8
          have cb := (unhide H8).rb.cell hyN
          obtain ⟨b', o', e', -, hq'⟩ := (OwnI.ints (unhide H8).qo).at_ i hi2
          injection e' with e'
          injection e' with q1 q2
          subst q1 q2
          have cq := hq' w8 (Below.refl _ _)
          rw [Nat.zero_add] at cq
          obtain ⟨x0, x1, x2, x3, -⟩ := unhide HBX _ (unhide H8).bel
          have HStp := hide (fun h1 h2 h3 => (unhide HRc).put (unhide HTb) (unhide HEv) hi2 hd h1 h2 (x := y) hy h3)
          have hyy := hide hy
          obtain ⟨td, htd⟩ : ∃ td, q.tail.getD d 0 = td := ⟨_, rfl⟩
          obtain ⟨qi, hqi⟩ : ∃ qi, Q.getD i 0 = qi := ⟨_, rfl⟩
          obtain ⟨fd, hfd⟩ : ∃ fd, F.getD d 0 = fd := ⟨_, rfl⟩
          obtain ⟨cd, hcd⟩ : ∃ cd, q.cap.getD d 0 = cd := ⟨_, rfl⟩
          rw [htd] at ct
          rw [hqi] at cq
          rw [hfd] at cf
          rw [hcd] at cc2
          rw [htd, hqi, hfd, hcd] at HStp
          have Htd := hide htd
          have Hqi := hide hqi
          have Hfd := hide hfd
          have Hcd := hide hcd
          clear ht hf hc hq' htd hqi hfd hcd hy hb8
          by_cases k1 : td = qi
          · have e1 : (td == qi) = true := by rw [k1]; exact beq_self_eq_true _
            by_cases k2 : fd < cd
            · have e2 : decide (fd < cd) = true := decide_eq_true k2
              obtain ⟨by_, hby⟩ : ∃ by_, B y = by_ := ⟨_, rfl⟩
              rw [hby] at cb
              cases by_ with
              | true =>
                have Hby := hide hby
                clear hby
                have HN : Hid (∀ n, RcW (w.heap.size + 1) W1 (w8.drewN n) N (w.heap.size + 1) G2 (.slice (some ⟨g3, 0, none⟩) Q.length qc) Q B Y ∧ Sp.RcI q.tail q.cap F N s i (d + 1) Q B Y ∧ i < Q.length) := hide fun n => ⟨(unhide H8).below (Nat.le_refl _) (below_dn (Below.refl _ _) n), (unhide HRc).stay (fun _ _ => by rw [unhide hyy, Int.toNat_natCast]; exact unhide Hby), hi2⟩
                clear H8 HRc HStp
                go_wp2
                go_quiet (fail)
                have HN2 := hide (unhide HN nq)
                clear HN ct cq cf cc2 cb x0 x1 x2 x3
                generalize w8.drewN nq = wq at *
                go_wp2
                go_roundg g2
                case rel => exact ⟨d + 1, Q, B, Y, _, _, by omega, rfl, by go_num, HN2⟩
                case measure => omega
              | false =>
                have HSt2 := hide (unhide HStp k1 k2 hby)
                have H8n : Hid (∀ n, RcW (w.heap.size + 1) W1 (w8.drewN n) N (w.heap.size + 1) G2 (.slice (some ⟨g3, 0, none⟩) Q.length qc) Q B Y) := hide fun n => (unhide H8).below (Nat.le_refl _) (below_dn (Below.refl _ _) n)
                clear HStp hby HRc H8 k1
                go_wp2
                go_quiet (fail)
                have H9 := hide (unhide H8n nq)
                clear H8n ct cq cf cc2 cb x0 x1 x2 x3
                generalize w8.drewN nq = wq at *
                have c1 := (unhide H9).rb.cell hyN
                have f1 := fun i => (unhide H9).rb.frozen i none
                have c2 := (unhide H9).ry.cell hyN
                have f2 := fun i => (unhide H9).ry.frozen i none
                obtain ⟨wz, hwz⟩ : ∃ wz, wz = (wq.setCell ⟨w.heap.size + 1, y, none⟩ (.bool true)).setCell ⟨G2, y, none⟩ (.int .i64 (d : Int)) := ⟨_, rfl⟩
                have HA : Hid (RcW (w.heap.size + 1) W1 wz N (w.heap.size + 1) G2 (.slice (some ⟨g3, 0, none⟩) Q.length qc) Q (Sp.updB B y true) (Sp.upd Y y (d : Int))) := hide (by rw [hwz]; exact (unhide H9).set2 (Nat.le_refl _) h12 (by omega) y (d : Int))
                have Hwz := hide hwz
                clear hwz H9
                go_upto_region 14 with fail
                rw [← unhide Hwz]
                clear c1 f1 c2 f2 Hwz
                go_wp2_with (at_builtin; refine wpList_app (w := wz.alloc (.cells #[.int .i64 (y : Int)] 3)) rfl _ _ rfl (G2 + 1) _ _ Q [(y : Int)] rfl rfl (World.ownsRow.alloc (unhide HA).qo _) (OwnI.ints (own_lit wz 0 _ 1 [(y : Int)] rfl rfl (Nat.zero_le _) (by simp))) (Q.length + 1) (by simp) (by omega) (by have := (unhide HA).ry.lt; simp; omega) ?_)
                intro a6 c6 wb hown hbb hgg
                have hl1 : (Q ++ [(y : Int)]).length = Q.length + 1 := by simp
                have HN2 : Hid (RcW (w.heap.size + 1) W1 wb N (w.heap.size + 1) G2 (.slice a6 (Q ++ [(y : Int)]).length c6) (Q ++ [(y : Int)]) (Sp.updB B y true) (Sp.upd Y y (d : Int)) ∧ Sp.RcI q.tail q.cap F N s i (d + 1) (Q ++ [(y : Int)]) (Sp.updB B y true) (Sp.upd Y y (d : Int)) ∧ i < (Q ++ [(y : Int)]).length) := hide ⟨((unhide HA).below (Nat.le_refl _) ((Below.refl wz.heap.size wz).alloc (Nat.le_refl _) (.cells #[.int .i64 (y : Int)] 3))).app (Nat.le_refl _) h12 hbb (by rw [hl1]; exact hown), unhide HSt2, by omega⟩
                clear hown hbb hgg HA HSt2
                go_wp2
                go_roundg g2
                case rel => exact ⟨d + 1, Q ++ [(y : Int)], _, _, _, _, by omega, by rw [hl1], by go_num, HN2⟩
                case measure => omega
            · have e2 : decide (fd < cd) = false := decide_eq_false k2
              have HN : Hid (∀ n, RcW (w.heap.size + 1) W1 (w8.drewN n) N (w.heap.size + 1) G2 (.slice (some ⟨g3, 0, none⟩) Q.length qc) Q B Y ∧ Sp.RcI q.tail q.cap F N s i (d + 1) Q B Y ∧ i < Q.length) := hide fun n => ⟨(unhide H8).below (Nat.le_refl _) (below_dn (Below.refl _ _) n), (unhide HRc).stay (fun _ h => by rw [unhide Hfd, unhide Hcd] at h; exact absurd h k2), hi2⟩
              clear H8 HRc HStp
              go_wp2
              go_quiet (fail)
              have HN2 := hide (unhide HN nq)
              clear HN ct cq cf cc2 cb x0 x1 x2 x3
              generalize w8.drewN nq = wq at *
              go_wp2
              go_roundg g2
              case rel => exact ⟨d + 1, Q, B, Y, _, _, by omega, rfl, by go_num, HN2⟩
              case measure => omega
          · have e1 : (td == qi) = false := beq_eq_false_iff_ne.2 k1
            have HN : Hid (∀ n, RcW (w.heap.size + 1) W1 (w8.drewN n) N (w.heap.size + 1) G2 (.slice (some ⟨g3, 0, none⟩) Q.length qc) Q B Y ∧ Sp.RcI q.tail q.cap F N s i (d + 1) Q B Y ∧ i < Q.length) := hide fun n => ⟨(unhide H8).below (Nat.le_refl _) (below_dn (Below.refl _ _) n), (unhide HRc).stay (fun h => by rw [unhide Htd, unhide Hqi] at h; exact absurd h k1), hi2⟩
            clear H8 HRc HStp
            go_wp2
            go_quiet (fail)
            have HN2 := hide (unhide HN nq)
            clear HN ct cq cf cc2 cb x0 x1 x2 x3
            generalize w8.drewN nq = wq at *
            go_wp2
            go_roundg g2
            case rel => exact ⟨d + 1, Q, B, Y, _, _, by omega, rfl, by go_num, HN2⟩
            case measure => omega
        · have hdI : ¬ (d : Int) < (q.tail.length : Int) := by omega
          have hde : d = q.tail.length := by omega
          rw [hde] at HI
          have HN := hide (And.intro (unhide HI).1 (unhide HI).2.1.next)
          clear HI
          go_wp2
          go_roundg g'
          case rel => exact ⟨i + 1, Q, B, Y, qa, qc, by omega, rfl, by go_num, HN⟩
          case measure => omega
    · have hiI : ¬ (i : Int) < (Q.length : Int) := by omega
      obtain ⟨rk, hrk⟩ := (unhide HI).2.done (unhide HTb) (by omega) hs
      have HF := hide (And.intro (unhide HI).1.rb (And.intro (unhide HI).1.ry (And.intro (unhide HW _ (unhide HI).1.bel) hrk)))
      clear HI hrk
      go_wp2
      rw [unhide HP]
      exact ⟨w.heap.size + 1, G2, B, Y, rk, rfl, (unhide HF).1, (unhide HF).2.1, ⟨by omega, by omega⟩, (unhide HF).2.2.1, (unhide HF).2.2.2⟩
end Go.Proofs.Ytoegjnolccabjaa


/- Flows that grow (chapter 9): what a way adds; a flow past which nothing is reached is the greatest. -/
namespace Go.Proofs.Ytoegjnolccabjaa
open Go Go.RowKit

/-- Numbers of darts, as a flow from s to t has them. -/
structure Sp.FloF (T C : List Int) (s t : Int) (z : Nat → Int) (x : Int) : Prop where
  op : ∀ d, d < T.length → z (Sp.oth d) = - z d
  le : ∀ d, d < T.length → z d ≤ C.getD d 0
  sum : ∀ u : Int, Sp.sumN (fun d => if T.getD d 0 = u then z d else 0) T.length = (if u = s then x else 0) + (if u = t then -x else 0)
theorem Sp.FloF.first {T C : List Int} {s t : Int} (hc : ∀ d, d < T.length → 0 ≤ C.getD d 0) : Sp.FloF T C s t (fun _ => 0) 0 := by
  refine ⟨fun d _ => rfl, hc, fun u => ?_⟩
  have e : Sp.sumN (fun d => if T.getD d 0 = u then (0 : Int) else 0) T.length = Sp.sumN (fun _ => 0) T.length := Sp.sumN_congr _ fun d _ => ite_self _
  rw [e, Sp.sumN_zero]
  split <;> split <;> rfl
theorem Sp.sumN_le {g h : Nat → Int} : ∀ n, (∀ i, i < n → g i ≤ h i) → Sp.sumN g n ≤ Sp.sumN h n
  | 0, _ => Int.le_refl _
  | n + 1, e => by
    have h1 := Sp.sumN_le n (fun i hi => e i (by omega))
    have h2 := e n (by omega)
    rw [Sp.sumN, Sp.sumN]
    omega
theorem Sp.FloF.low {T C : List Int} {s t : Int} {z : Nat → Int} {x : Int} (h : Sp.FloF T C s t z x) (hev : T.length % 2 = 0) {d : Nat} (hd : d < T.length) : - C.getD (Sp.oth d) 0 ≤ z d := by
  have := h.le _ (oth_lt hd hev)
  rw [h.op d hd] at this
  omega
theorem Sp.FloF.top {T C : List Int} {s t : Int} {z : Nat → Int} {x : Int} (h : Sp.FloF T C s t z x) (hst : s ≠ t) : x ≤ Sp.sumN (fun d => if T.getD d 0 = s then C.getD d 0 else 0) T.length := by
  have h1 := h.sum s
  rw [if_pos rfl, if_neg hst] at h1
  have h2 := Sp.sumN_le (g := fun d => if T.getD d 0 = s then z d else 0) (h := fun d => if T.getD d 0 = s then C.getD d 0 else 0) T.length fun d hd => by
    show (if T.getD d 0 = s then z d else 0) ≤ if T.getD d 0 = s then C.getD d 0 else 0
    split
    · exact h.le d hd
    · omega
  omega
/-- Two numbers turned. -/
theorem Sp.sumN_upd2 (T : List Int) (z : Nat → Int) {a b : Nat} (ha : a < T.length) (hb : b < T.length) (hab : a ≠ b) (l : Int) (u : Int) :
    Sp.sumN (fun d => if T.getD d 0 = u then Sp.upd (Sp.upd z a (z a + l)) b (z b - l) d else 0) T.length = Sp.sumN (fun d => if T.getD d 0 = u then z d else 0) T.length + ((if T.getD a 0 = u then l else 0) + (if T.getD b 0 = u then -l else 0)) := by
  have e : Sp.sumN (fun d => if T.getD d 0 = u then Sp.upd (Sp.upd z a (z a + l)) b (z b - l) d else 0) T.length = Sp.sumN (fun d => (if T.getD d 0 = u then z d else 0) + ((if d = a then (if T.getD a 0 = u then l else 0) else 0) + (if d = b then (if T.getD b 0 = u then -l else 0) else 0))) T.length :=
    Sp.sumN_congr _ fun d _ => by
      unfold Sp.upd
      by_cases e1 : d = b
      · subst e1
        rw [if_pos rfl, if_neg (show ¬ d = a from fun k => hab k.symm), if_pos rfl]
        split <;> omega
      · by_cases e2 : d = a
        · subst e2
          rw [if_neg e1, if_pos rfl, if_pos rfl, if_neg e1]
          split <;> omega
        · rw [if_neg e1, if_neg e2, if_neg e2, if_neg e1]
          omega
  rw [e, Sp.sumN_add, Sp.sumN_add, Sp.sumN_one, Sp.sumN_one, if_pos ha, if_pos hb]
/-- What stays while l is laid upon a way that is gone back from t to v. -/
structure Sp.AugF (T C : List Int) (s t : Int) (z : Nat → Int) (x l : Int) (rk : Nat → Nat) (v : Nat) (z' : Nat → Int) : Prop where
  op : ∀ d, d < T.length → z' (Sp.oth d) = - z' d
  le : ∀ d, d < T.length → z' d ≤ C.getD d 0
  sum : ∀ u : Int, Sp.sumN (fun d => if T.getD d 0 = u then z' d else 0) T.length = (if u = s then x else 0) + (if u = t then -x else 0) + ((if u = (v : Int) then l else 0) + (if u = t then -l else 0))
  keep : ∀ d, d < T.length → rk (T.getD d 0).toNat ≤ rk v → rk (T.getD (Sp.oth d) 0).toNat ≤ rk v → z' d = z d
theorem Sp.AugF.first {T C : List Int} {s : Int} {t : Nat} {z : Nat → Int} {x : Int} (h : Sp.FloF T C s (t : Int) z x) (l : Int) (rk : Nat → Nat) : Sp.AugF T C s (t : Int) z x l rk t z :=
  ⟨h.op, h.le, fun u => by
    rw [h.sum u]
    split <;> split <;> omega, fun _ _ _ _ => rfl⟩
theorem Sp.AugF.step {T C : List Int} {N : Nat} {s : Nat} {t : Int} {z : Nat → Int} {x l : Int} {rk : Nat → Nat} {v : Nat} {z' : Nat → Int} (h : Sp.AugF T C (s : Int) t z x l rk v z') (hev : T.length % 2 = 0) (hT : ∀ x ∈ T, 0 ≤ x ∧ x < (N : Int)) (hl : 0 ≤ l)
    {d : Nat} (hd : d < T.length) (h1 : T.getD (Sp.oth d) 0 = (v : Int)) (h2 : rk (T.getD d 0).toNat < rk v) (h3 : l ≤ C.getD d 0 - z d) (_hco : ∀ d, d < T.length → 0 ≤ C.getD d 0) :
    z' d = z d ∧ z' (Sp.oth d) = - z d ∧ Sp.AugF T C (s : Int) t z x l rk (T.getD d 0).toNat (Sp.upd (Sp.upd z' d (z' d + l)) (Sp.oth d) (z' (Sp.oth d) - l)) := by
  have ho := oth_lt hd hev
  have hne : d ≠ Sp.oth d := by unfold Sp.oth; split <;> omega
  have hv : (T.getD (Sp.oth d) 0).toNat = v := by rw [h1, Int.toNat_natCast]
  have hu0 := hT _ (Sp.getD_mem (l := T) hd)
  have k1 : z' d = z d := h.keep d hd (by omega) (by rw [hv]; exact Nat.le_refl _)
  have k2 : z' (Sp.oth d) = - z d := by rw [h.op d hd, k1]
  have hG : ∀ e, Sp.upd (Sp.upd z' d (z' d + l)) (Sp.oth d) (z' (Sp.oth d) - l) e = if e = Sp.oth d then z' (Sp.oth d) - l else if e = d then z' d + l else z' e := fun e => rfl
  refine ⟨k1, k2, fun e he => ?_, fun e he => ?_, fun u => ?_, fun e he r1 r2 => ?_⟩
  · rw [hG, hG]
    by_cases e1 : e = d
    · subst e1
      rw [if_pos rfl, if_neg hne, if_pos rfl]
      omega
    · by_cases e2 : e = Sp.oth d
      · subst e2
        rw [oth_oth, if_neg hne, if_pos rfl, if_pos rfl]
        omega
      · rw [if_neg (fun k => e1 (oth_inj k)), if_neg (fun k => e2 (by rw [← k, oth_oth])), if_neg e2, if_neg e1]
        exact h.op e he
  · rw [hG]
    have h5 := h.le e he
    by_cases e2 : e = Sp.oth d
    · subst e2
      rw [if_pos rfl]
      omega
    · rw [if_neg e2]
      by_cases e1 : e = d
      · subst e1
        rw [if_pos rfl]
        omega
      · rw [if_neg e1]; exact h5
  · rw [Sp.sumN_upd2 T z' hd ho hne l u, h.sum u, h1]
    have e3 : (((T.getD d 0).toNat : Nat) : Int) = T.getD d 0 := Int.toNat_of_nonneg hu0.1
    rw [e3]
    have c1 : (if T.getD d 0 = u then l else 0) = if u = T.getD d 0 then l else 0 := by
      by_cases e : T.getD d 0 = u
      · rw [if_pos e, if_pos e.symm]
      · rw [if_neg e, if_neg (fun k => e k.symm)]
    have c2 : (if (v : Int) = u then -l else 0) = if u = (v : Int) then -l else 0 := by
      by_cases e : (v : Int) = u
      · rw [if_pos e, if_pos e.symm]
      · rw [if_neg e, if_neg (fun k => e k.symm)]
    rw [c1, c2]
    by_cases e : u = (v : Int)
    · rw [if_pos e, if_pos e]; omega
    · rw [if_neg e, if_neg e]; omega
  · rw [hG]
    have e2 : e ≠ Sp.oth d := fun k => by
      rw [k, hv] at r1
      omega
    have e1 : e ≠ d := fun k => by
      rw [k, hv] at r2
      omega
    rw [if_neg e2, if_neg e1]
    exact h.keep e he (by omega) (by omega)
theorem Sp.AugF.done {T C : List Int} {s : Nat} {t : Int} {z : Nat → Int} {x l : Int} {rk : Nat → Nat} {z' : Nat → Int} (h : Sp.AugF T C (s : Int) t z x l rk s z') : Sp.FloF T C (s : Int) t z' (x + l) :=
  ⟨h.op, h.le, fun u => by
    rw [h.sum u]
    split <;> split <;> omega⟩
/-- The way back from t. -/
def Sp.bkw (T : List Int) (Y : Nat → Int) (t : Nat) : Nat → Nat
  | 0 => t
  | k + 1 => (T.getD (Y (Sp.bkw T Y t k)).toNat 0).toNat
theorem Sp.RchQ.bkw {T C F : List Int} {N s : Nat} {B : Nat → Bool} {Y : Nat → Int} {rk : Nat → Nat} (h : Sp.RchQ T C F N s B Y rk) (hT : ∀ x ∈ T, 0 ≤ x ∧ x < (N : Int)) {t : Nat} (ht : t < N) (hb : B t = true) : ∀ k, (∀ i, i < k → Sp.bkw T Y t i ≠ s) → Sp.bkw T Y t k < N ∧ B (Sp.bkw T Y t k) = true
  | 0, _ => ⟨ht, hb⟩
  | k + 1, hk => by
    obtain ⟨h1, h2⟩ := h.bkw hT ht hb k (fun i hi => hk i (by omega))
    obtain ⟨d, a1, a2, a3, a4, a5, a6⟩ := h.way _ h1 h2 (hk k (by omega))
    have hu := hT _ (Sp.getD_mem (l := T) a1)
    unfold Sp.bkw
    rw [a2, Int.toNat_natCast]
    exact ⟨by omega, a5⟩
/-- What runs out of some vertices, s among them, t not. -/
theorem Sp.FloF.cut {T C : List Int} {N : Nat} {s t : Nat} {z : Nat → Int} {x : Int} (h : Sp.FloF T C (s : Int) (t : Int) z x) (hev : T.length % 2 = 0) (hT : ∀ x ∈ T, 0 ≤ x ∧ x < (N : Int)) (hs : s < N) {B : Nat → Bool} (hbs : B s = true) (hbt : B t = false) :
    Sp.sumN (fun d => if B (T.getD d 0).toNat = true ∧ B (T.getD (Sp.oth d) 0).toNat = false then z d else 0) T.length = x := by
  have hTd : ∀ d, d < T.length → ∃ u : Nat, T.getD d 0 = (u : Int) ∧ u < N := fun d hd => by
    have := hT _ (Sp.getD_mem (l := T) hd)
    exact ⟨(T.getD d 0).toNat, by omega, by omega⟩
  -- all darts out of B
  have e1 : Sp.sumN (fun d => if B (T.getD d 0).toNat = true then z d else 0) T.length = x := by
    have a1 : Sp.sumN (fun d => if B (T.getD d 0).toNat = true then z d else 0) T.length = Sp.sumN (fun d => Sp.sumN (fun u => if B u = true then (if T.getD d 0 = (u : Int) then z d else 0) else 0) N) T.length :=
      Sp.sumN_congr _ fun d hd => by
        obtain ⟨u0, hu, hu0⟩ := hTd d hd
        have a2 : Sp.sumN (fun u => if B u = true then (if T.getD d 0 = (u : Int) then z d else 0) else 0) N = Sp.sumN (fun u => if u = u0 then (if B u0 = true then z d else 0) else 0) N :=
          Sp.sumN_congr _ fun u _ => by
            rw [hu]
            by_cases e : u = u0
            · subst e
              rw [if_pos rfl, if_pos rfl]
            · rw [if_neg e, if_neg (show ¬ (u0 : Int) = (u : Int) by omega), ite_self]
        rw [a2, Sp.sumN_one, if_pos hu0, hu, Int.toNat_natCast]
    have a3 : Sp.sumN (fun u => Sp.sumN (fun d => if B u = true then (if T.getD d 0 = (u : Int) then z d else 0) else 0) T.length) N = Sp.sumN (fun u => if u = s then x else 0) N :=
      Sp.sumN_congr _ fun u _ => by
        by_cases hu : B u = true
        · have a4 : Sp.sumN (fun d => if B u = true then (if T.getD d 0 = (u : Int) then z d else 0) else 0) T.length = Sp.sumN (fun d => if T.getD d 0 = (u : Int) then z d else 0) T.length := Sp.sumN_congr _ fun d _ => by rw [if_pos hu]
          have hut : ¬ (u : Int) = (t : Int) := fun e => by
            have : u = t := by omega
            rw [this, hbt] at hu
            cases hu
          rw [a4, h.sum, if_neg hut]
          by_cases e : u = s
          · rw [if_pos (by omega), if_pos e]; omega
          · rw [if_neg (by omega), if_neg e]; rfl
        · have a4 : Sp.sumN (fun d => if B u = true then (if T.getD d 0 = (u : Int) then z d else 0) else 0) T.length = Sp.sumN (fun _ => 0) T.length := Sp.sumN_congr _ fun d _ => by rw [if_neg hu]
          rw [a4, Sp.sumN_zero, if_neg (fun e => hu (by rw [e]; exact hbs))]
    rw [a1, Sp.sumN_comm, a3, Sp.sumN_one, if_pos hs]
  -- those within B come to nothing
  have e2 : Sp.sumN (fun d => if B (T.getD d 0).toNat = true ∧ B (T.getD (Sp.oth d) 0).toNat = true then z d else 0) T.length = 0 := by
    have b1 := Sp.sumN_perm (n := T.length) (f := Sp.oth) (fun i hi => oth_lt hi hev) (fun i j _ _ e => oth_inj e) (fun j hj => ⟨Sp.oth j, oth_lt hj hev, oth_oth j⟩) (fun d => if B (T.getD d 0).toNat = true ∧ B (T.getD (Sp.oth d) 0).toNat = true then z d else 0)
    have b2 : Sp.sumN (fun i => if B (T.getD (Sp.oth i) 0).toNat = true ∧ B (T.getD (Sp.oth (Sp.oth i)) 0).toNat = true then z (Sp.oth i) else 0) T.length = Sp.sumN (fun d => 0 - (if B (T.getD d 0).toNat = true ∧ B (T.getD (Sp.oth d) 0).toNat = true then z d else 0)) T.length :=
      Sp.sumN_congr _ fun d hd => by
        rw [oth_oth, h.op d hd]
        by_cases e : B (T.getD d 0).toNat = true ∧ B (T.getD (Sp.oth d) 0).toNat = true
        · rw [if_pos e, if_pos ⟨e.2, e.1⟩]; omega
        · rw [if_neg e, if_neg (fun k => e ⟨k.2, k.1⟩)]; rfl
    have b3 := Sp.sumN_sub (fun _ => 0) (fun d => if B (T.getD d 0).toNat = true ∧ B (T.getD (Sp.oth d) 0).toNat = true then z d else 0) T.length
    rw [Sp.sumN_zero] at b3
    rw [b2, b3] at b1
    omega
  have e3 : Sp.sumN (fun d => if B (T.getD d 0).toNat = true then z d else 0) T.length = Sp.sumN (fun d => (if B (T.getD d 0).toNat = true ∧ B (T.getD (Sp.oth d) 0).toNat = false then z d else 0) + (if B (T.getD d 0).toNat = true ∧ B (T.getD (Sp.oth d) 0).toNat = true then z d else 0)) T.length :=
    Sp.sumN_congr _ fun d _ => by
      cases B (T.getD d 0).toNat <;> cases B (T.getD (Sp.oth d) 0).toNat <;> simp
  rw [e3, Sp.sumN_add, e2] at e1
  omega
/-- A flow past which t is not reached is the greatest. -/
theorem Sp.FloF.max {T C : List Int} {N : Nat} {s t : Nat} {z z' : Nat → Int} {x x' : Int} (h : Sp.FloF T C (s : Int) (t : Int) z x) (h' : Sp.FloF T C (s : Int) (t : Int) z' x') (hev : T.length % 2 = 0) (hT : ∀ x ∈ T, 0 ≤ x ∧ x < (N : Int)) (hs : s < N) {B : Nat → Bool} (hbs : B s = true) (hbt : B t = false)
    (hc : ∀ d, d < T.length → B (T.getD d 0).toNat = true → z d < C.getD d 0 → B (T.getD (Sp.oth d) 0).toNat = true) : x' ≤ x := by
  rw [← h.cut hev hT hs hbs hbt, ← h'.cut hev hT hs hbs hbt]
  refine Sp.sumN_le _ fun d hd => ?_
  show (if B (T.getD d 0).toNat = true ∧ B (T.getD (Sp.oth d) 0).toNat = false then z' d else 0) ≤ if B (T.getD d 0).toNat = true ∧ B (T.getD (Sp.oth d) 0).toNat = false then z d else 0
  by_cases e : B (T.getD d 0).toNat = true ∧ B (T.getD (Sp.oth d) 0).toNat = false
  · rw [if_pos e, if_pos e]
    have h1 := h'.le d hd
    rcases Int.lt_or_le (z d) (C.getD d 0) with h2 | h2
    · have := hc d hd e.1 h2
      rw [e.2] at this
      cases this
    · omega
  · rw [if_neg e, if_neg e]
    exact Int.le_refl _
theorem Sp.FlowQ.floF {q : Sp.Net} {s t : Int} {L : List Int} {x : Int} (h : Sp.FlowQ q s t L x) (hst : s ≠ t) : Sp.FloF q.tail q.cap s t (fun d => L.getD d 0) x :=
  ⟨h.op, h.le, fun u => by
    by_cases e1 : u = s
    · subst e1
      rw [if_pos rfl, if_neg hst]
      have := h.src
      omega
    · by_cases e2 : u = t
      · subst e2
        rw [if_neg e1, if_pos rfl]
        have := h.snk
        omega
      · rw [if_neg e1, if_neg e2]
        exact h.mid u e1 e2⟩
theorem Sp.FloF.flowQ {q : Sp.Net} {s t : Int} {z : Nat → Int} {x : Int} (h : Sp.FloF q.tail q.cap s t z x) (hev : q.tail.length % 2 = 0) (hst : s ≠ t) : Sp.FlowQ q s t ((List.range q.tail.length).map z) x := by
  have hL : ∀ d, d < q.tail.length → ((List.range q.tail.length).map z).getD d 0 = z d := fun d hd => Sp.rowD hd
  have hS : ∀ u, Sp.sumN (fun d => if q.tail.getD d 0 = u then ((List.range q.tail.length).map z).getD d 0 else 0) q.tail.length = Sp.sumN (fun d => if q.tail.getD d 0 = u then z d else 0) q.tail.length := fun u => Sp.sumN_congr _ fun d hd => by rw [hL d hd]
  refine ⟨by rw [List.length_map, List.length_range], fun d hd => ?_, fun d hd => ?_, ?_, ?_, fun u us ut => ?_⟩
  · rw [hL d hd, hL _ (oth_lt hd hev), h.op d hd]
  · rw [hL d hd]; exact h.le d hd
  · rw [hS, h.sum, if_pos rfl, if_neg hst]; omega
  · rw [hS, h.sum, if_neg (fun e => hst e.symm), if_pos rfl]; omega
  · rw [hS, h.sum, if_neg us, if_neg ut]; rfl
end Go.Proofs.Ytoegjnolccabjaa


/- The reference's Most (chapter 9): it ends, and tells a greatest flow. -/
namespace Go.Proofs.Ytoegjnolccabjaa
open Go Go.RowKit

set_option maxRecDepth 100000 in
set_option maxHeartbeats 16000000 in
theorem rmost9_yes (q : Sp.Net) (v tv nv cv : Value) (s t N : Nat) (w : World) (hv : NetI w v q tv nv cv) (hev : q.tail.length % 2 = 0) (hle : q.tail.length ≤ 48) (hcl : q.cap.length = q.tail.length) (hN : q.n = (N : Int)) (hN1 : N ≤ 60) (hs : s < N) (ht : t < N) (hst : s ≠ t) (hT : ∀ x ∈ q.tail, 0 ≤ x ∧ x < (N : Int)) (hcb : ∀ x ∈ q.cap, 0 ≤ x ∧ x ≤ 2147483648) :
    Calls Try.prog 18 #[v, .int .i64 (s : Int), .int .i64 (t : Int)] w fun e w' => ∃ (G : Nat) (z : Nat → Int) (x : Int) (B : Nat → Bool), e = .returned (.tuple #[.slice (some ⟨G, 0, none⟩) q.tail.length q.tail.length, .int .i64 x, .int .i64 0]) ∧ w.heap.size ≤ G ∧ RowAt w' G q.tail.length z ∧ Below w.heap.size w w' ∧ Sp.FloF q.tail q.cap (s : Int) (t : Int) z x ∧ B s = true ∧ B t = false ∧ ∀ d, d < q.tail.length → B (q.tail.getD d 0).toNat = true → z d < q.cap.getD d 0 → B (q.tail.getD (Sp.oth d) 0).toNat = true := by
  have hv' := hv
  obtain ⟨rfl, h1, h2, h3⟩ := hv
  obtain ⟨ta, tc, rfl, -, -, HT⟩ := h1.allA
  obtain ⟨na, nc, rfl, -, -⟩ := h2.form
  obtain ⟨ca, cc, rfl, -, -, HC⟩ := h3.allA
  clear h1 h2 h3
  have HCb : Hid (∀ d, d < q.tail.length → 0 ≤ q.cap.getD d 0 ∧ q.cap.getD d 0 ≤ 2147483648) := hide fun d hd => hcb _ (Sp.getD_mem (by omega))
  have HRc := hide (fun (v tv nv cv fv : Value) (F : List Int) (w' : World) (hv : NetI w' v q tv nv cv) (hF : Ints w' fv F) (hl : F.length = q.tail.length) => rreach9_any q v tv nv cv fv s N F w' hv hF hl hev (by omega) hcl hN hN1 hs hT)
  have HFs := hide (Sp.FloF.first (T := q.tail) (C := q.cap) (s := (s : Int)) (t := (t : Int)) (fun d hd => (unhide HCb d hd).1))
  have HTop := hide (fun z x (h : Sp.FloF q.tail q.cap (s : Int) (t : Int) z x) => h.top (by omega))
  obtain ⟨TT, hTT⟩ : ∃ TT, Sp.sumN (fun d => if q.tail.getD d 0 = (s : Int) then q.cap.getD d 0 else 0) q.tail.length = TT := ⟨_, rfl⟩
  have HTL : Hid (0 ≤ TT ∧ TT ≤ 103079215104) := hide (by
    rw [← hTT]
    have h1 := Sp.sumN_le (g := fun _ => 0) (h := fun d => if q.tail.getD d 0 = (s : Int) then q.cap.getD d 0 else 0) q.tail.length fun d hd => by
      show 0 ≤ if q.tail.getD d 0 = (s : Int) then q.cap.getD d 0 else 0
      have := unhide HCb d hd
      split <;> omega
    have h2 := Sp.sumN_le (g := fun d => if q.tail.getD d 0 = (s : Int) then q.cap.getD d 0 else 0) (h := fun _ => 2147483648) q.tail.length fun d hd => by
      show (if q.tail.getD d 0 = (s : Int) then q.cap.getD d 0 else 0) ≤ 2147483648
      have := unhide HCb d hd
      split <;> omega
    have h3 : ∀ m, Sp.sumN (fun _ => (2147483648 : Int)) m = (m : Int) * 2147483648 := fun m => by
      induction m with
      | zero => rfl
      | succ m ih => rw [Sp.sumN, ih]; omega
    rw [h3] at h2
    rw [Sp.sumN_zero] at h1
    exact ⟨h1, by omega⟩)
  rw [hTT] at HTop
  rw [hN] at hv' ⊢
  have HBX := hide (box_new w (N : Int) (.slice ta q.tail.length tc) (.slice na q.next.length nc) (.slice ca q.cap.length cc))
  obtain ⟨W1, hW1⟩ : ∃ W1, W1 = w.alloc (.cells #[.int .i64 (N : Int), .slice ta q.tail.length tc, .slice na q.next.length nc, .slice ca q.cap.length cc] 25) := ⟨_, rfl⟩
  rw [← hW1] at HBX
  have hb1 : Below w.heap.size w W1 := by rw [hW1]; exact (Below.refl _ w).alloc (Nat.le_refl _) _
  have hs1 : W1.heap.size = w.heap.size + 1 := by rw [hW1]; simp
  have HW : Hid (∀ w', Below (w.heap.size + 1) W1 w' → Below w.heap.size w w') := hide fun w' hb => hb1.trans (hb.mono (by omega))
  have HNt : Hid (∀ w', Below (w.heap.size + 1) W1 w' → NetI w' (.agg #[.int .i64 (N : Int), .slice ta q.tail.length tc, .slice na q.next.length nc, .slice ca q.cap.length cc]) q (.slice ta q.tail.length tc) (.slice na q.next.length nc) (.slice ca q.cap.length cc)) := hide fun w' hb => ⟨by rw [hN], hv'.tail.below (unhide HW w' hb), hv'.next.below (unhide HW w' hb), hv'.cap.below (unhide HW w' hb)⟩
  have HTb := hide hT
  have HEv := hide hev
  have HCl := hide hcl
  obtain ⟨P, hP⟩ : ∃ P : Ending → World → Prop, P = fun e w' => ∃ (G : Nat) (z : Nat → Int) (x : Int) (B : Nat → Bool), e = .returned (.tuple #[.slice (some ⟨G, 0, none⟩) q.tail.length q.tail.length, .int .i64 x, .int .i64 0]) ∧ w.heap.size ≤ G ∧ RowAt w' G q.tail.length z ∧ Below w.heap.size w w' ∧ Sp.FloF q.tail q.cap (s : Int) (t : Int) z x ∧ B s = true ∧ B t = false ∧ ∀ d, d < q.tail.length → B (q.tail.getD d 0).toNat = true → z d < q.cap.getD d 0 → B (q.tail.getD (Sp.oth d) 0).toNat = true := ⟨_, rfl⟩
  rw [← hP]
  have HP := hide hP
  have HS1 := hide hs1
  have HTTe := hide hTT
  clear hP hb1 hT hev hv' hs1 hN hcl hcb hTT
  have hsI : (s : Int) < (N : Int) := by omega
  have htI : (t : Int) < (N : Int) := by omega
  have hstI : ((s : Int) == (t : Int)) = false := beq_eq_false_iff_ne.2 (by omega)
  subst hW1
  go_enter Try.func18, Try.ntmps18
  go_wp2_with (at_make; refine wpList_mk rfl _ _ rfl (w.heap.size + 1) q.tail.length rfl rfl (by omega) (by simp) ?_)
  intro w5 ho5 hb5 hlt5
  generalize w.alloc (.cells #[.int .i64 (N : Int), .slice ta q.tail.length tc, .slice na q.next.length nc, .slice ca q.cap.length cc] 25) = W1 at *
  have hr5 := (RowAt.of_rep ho5).1
  have HI0 : Hid (Below (w.heap.size + 1) W1 w5 ∧ RowAt w5 (w.heap.size + 1) q.tail.length (fun _ => 0) ∧ Sp.FloF q.tail q.cap (s : Int) (t : Int) (fun _ => 0) 0) := hide ⟨hb5, hr5, unhide HFs⟩
  clear ho5 hb5 hlt5 hr5 HFs
  go_wp2
  go_loopg [] (TT.toNat + 1) (fun g wr => ∃ (z : Nat → Int) (x : Int), TT + 1 ≤ x + (g : Int) ∧ Hid (Below (w.heap.size + 1) W1 wr ∧ RowAt wr (w.heap.size + 1) q.tail.length z ∧ Sp.FloF q.tail q.cap (s : Int) (t : Int) z x))
  case atStart => exact ⟨fun _ => 0, 0, by have := (unhide HTL).1; omega, HI0⟩
  case round =>
    clear HI0
    obtain ⟨z, x, hxg, HI⟩ := hrel
    have hxT := unhide HTop z x (unhide HI).2.2
    obtain ⟨g1, rfl⟩ : ∃ g1, gk = g1 + 1 := ⟨gk - 1, by omega⟩
    obtain ⟨x0, x1, x2, x3, -⟩ := unhide HBX wr (unhide HI).1
    have hzL : ∀ d, d < q.tail.length → ((List.range q.tail.length).map z).getD d 0 = z d := fun d hd => Sp.rowD hd
    have HZL := hide hzL
    have HRr := hide (unhide HRc _ _ _ _ _ _ wr (unhide HNt wr (unhide HI).1) ((unhide HI).2.1.ints (by omega)) (by rw [List.length_map, List.length_range]))
    clear hzL
    go_wp2_with fail
    go_at_call 32
    refine (unhide HRr).mono ?_
    rintro e w8 ⟨G1, G2, B, Y, rk, rfl, hB8, hY8, ⟨hg1, hg2⟩, hl, hRQ⟩
    have hb8 : Below (w.heap.size + 1) W1 w8 := (unhide HI).1.trans (hl.mono (by have h1 := (unhide HI).1.size; have h2 := unhide HS1; omega))
    have Hb8 := hide hb8
    have Hb8S : Hid (w.heap.size + 1 ≤ w8.heap.size) := hide (by have h1 := hb8.size; have h2 := unhide HS1; omega)
    have hz8 : RowAt w8 (w.heap.size + 1) q.tail.length z := (unhide HI).2.1.below hl
    have hG12 : w.heap.size + 1 < G1 ∧ w.heap.size + 1 < G2 := by have := (unhide HI).2.1.lt; omega
    have Hfl := hide (unhide HI).2.2
    have HB8 := hide hB8
    have HY8 : Hid (∀ w', Below w8.heap.size w8 w' → RowAt w' G2 N Y) := hide fun w' hb => hY8.below hb
    have Hz8 := hide hz8
    have HRQ := hide hRQ
    have HX8 : Hid (∀ w', Below w8.heap.size w8 w' → Below (w.heap.size + 1) W1 w') := hide fun w' hb => (unhide Hb8).trans (hb.mono (unhide Hb8S))
    clear x0 x1 x2 x3 HRr HI hl hb8 hz8 hY8
    have cb := hB8.cell ht
    clear hB8 hRQ
    obtain ⟨bt, hbt⟩ : ∃ bt, B t = bt := ⟨_, rfl⟩
    rw [hbt] at cb
    cases bt with
    | false =>
      obtain ⟨x0, x1, x2, x3, -⟩ := unhide HBX w8 (unhide Hb8)
      have hsr : Sp.sumN (fun d => if q.tail.getD d 0 = (s : Int) then ((List.range q.tail.length).map z).getD d 0 else 0) q.tail.length = x := by
        rw [Sp.sumN_congr q.tail.length (h := fun d => if q.tail.getD d 0 = (s : Int) then z d else 0) (fun d hd => by rw [unhide HZL d hd]), (unhide Hfl).sum, if_pos rfl, if_neg (by omega)]
        omega
      have hx0 : -4611686018427387904 ≤ x := by
        rw [← hsr]
        have h2 := Sp.sumN_le (g := fun _ => -2147483648) (h := fun d => if q.tail.getD d 0 = (s : Int) then ((List.range q.tail.length).map z).getD d 0 else 0) q.tail.length fun d hd => by
          show -2147483648 ≤ if q.tail.getD d 0 = (s : Int) then ((List.range q.tail.length).map z).getD d 0 else 0
          rw [unhide HZL d hd]
          have h1 := (unhide Hfl).low (unhide HEv) hd
          have h3 := unhide HCb _ (oth_lt hd (unhide HEv))
          split <;> omega
        have h3 : ∀ m, Sp.sumN (fun _ => (-2147483648 : Int)) m = (m : Int) * -2147483648 := fun m => by
          induction m with
          | zero => rfl
          | succ m ih => rw [Sp.sumN, ih]; omega
        rw [h3] at h2
        omega
      have hx1 : x ≤ 4611686018427387904 := by have := (unhide HTL).2; omega
      have HVl := hide (rvalue9_is q _ _ _ _ _ (s : Int) _ x w8 (unhide HNt w8 (unhide Hb8)) ((unhide Hz8).ints (by omega)) (by rw [List.length_map, List.length_range]) (by omega) hsr hx0 hx1)
      have HF : Hid (B s = true ∧ B t = false ∧ ∀ d, d < q.tail.length → B (q.tail.getD d 0).toNat = true → z d < q.cap.getD d 0 → B (q.tail.getD (Sp.oth d) 0).toNat = true) := hide ⟨(unhide HRQ).src, hbt, fun d hd h1 h2 => (unhide HRQ).clo d hd h1 (by rw [unhide HZL d hd]; exact h2)⟩
      clear hsr hx0 hx1 hxg hxT hbt
      go_wp2_with fail
      go_at_call 20
      refine (unhide HVl).mono ?_
      rintro e w9 ⟨rfl, hl9⟩
      have HFin := hide (And.intro ((unhide Hz8).below hl9) (unhide HW _ (unhide HX8 w9 hl9)))
      clear HVl hl9 x0 x1 x2 x3 cb
      go_wp2
      refine bodyPost_ret (v := .tuple #[.slice (some ⟨w.heap.size + 1, 0, none⟩) q.tail.length q.tail.length, .int .i64 x, .int .i64 0]) (by simp [results, Try.results18, go_sem]) rfl ?_
      rw [unhide HP]
      exact ⟨w.heap.size + 1, z, x, B, rfl, by omega, (unhide HFin).1, (unhide HFin).2, unhide Hfl, (unhide HF).1, (unhide HF).2.1, (unhide HF).2.2⟩
    | true =>
      have HWay : Hid (∀ k, (∀ i, i < k → Sp.bkw q.tail Y t i ≠ s) → Sp.bkw q.tail Y t k < N ∧ (Sp.bkw q.tail Y t k ≠ s → ∃ d : Nat, d < q.tail.length ∧ Y (Sp.bkw q.tail Y t k) = (d : Int) ∧ q.tail.getD (Sp.oth d) 0 = ((Sp.bkw q.tail Y t k : Nat) : Int) ∧ z d < q.cap.getD d 0 ∧ q.tail.getD d 0 = ((Sp.bkw q.tail Y t (k + 1) : Nat) : Int) ∧ rk (Sp.bkw q.tail Y t (k + 1)) < rk (Sp.bkw q.tail Y t k))) := hide fun k hk => by
        obtain ⟨h1, h2⟩ := (unhide HRQ).bkw (unhide HTb) ht hbt k hk
        refine ⟨h1, fun hne => ?_⟩
        obtain ⟨d, a1, a2, a3, a4, a5, a6⟩ := (unhide HRQ).way _ h1 h2 hne
        have hu := unhide HTb _ (Sp.getD_mem (l := q.tail) a1)
        have e : Sp.bkw q.tail Y t (k + 1) = (q.tail.getD d 0).toNat := by
          show (q.tail.getD (Y (Sp.bkw q.tail Y t k)).toNat 0).toNat = _
          rw [a2, Int.toNat_natCast]
        rw [unhide HZL d a1] at a4
        exact ⟨d, a1, a2, a3, a4, by rw [e]; omega, by rw [e]; exact a6⟩
      have HRk : Hid (rk t ≤ N) := hide (Nat.le_of_lt ((unhide HRQ).rkN t ht hbt))
      clear hbt HRQ
      generalize hPT : Sp.bkw q.tail Y t = pt at *
      have hp0 : pt 0 = t := by rw [← hPT]; rfl
      have Hp0 := hide hp0
      clear hPT hp0
      go_wp2
      clear cb
      go_loopg [12, 13] N (fun g s12 s13 wr => ∃ (k : Nat) (l : Int), s12 = .int .i64 l ∧ s13 = .int .i64 ((pt k : Nat) : Int) ∧ 0 < l ∧ l ≤ 1152921504606846976 ∧ Hid ((∀ i, i < k → pt i ≠ s) ∧ rk (pt k) ≤ g ∧ (∀ i, i < k → ∀ d : Nat, Y (pt i) = (d : Int) → l ≤ q.cap.getD d 0 - z d) ∧ Below w8.heap.size w8 wr))
      case atStart => exact ⟨0, 1152921504606846976, rfl, by rw [unhide Hp0], by omega, by omega, hide ⟨fun i hi => by omega, by rw [unhide Hp0]; exact unhide HRk, fun i hi => by omega, Below.refl _ _⟩⟩
      case round =>
        obtain ⟨k, l, rfl, rfl, hl0, hl1, HK⟩ := hrel
        obtain ⟨hkN, hkw⟩ := unhide HWay k (unhide HK).1
        have hkI : ((pt k : Nat) : Int) < (N : Int) := by omega
        by_cases hks : pt k = s
        · have e1 : (((pt k : Nat) : Int) != (s : Int)) = false := by rw [hks]; exact bne_self_eq_false _
          have HK2 : Hid ((∀ i, i < k → pt i ≠ s) ∧ (∀ i, i < k → ∀ d : Nat, Y (pt i) = (d : Int) → l ≤ q.cap.getD d 0 - z d)) := hide ⟨(unhide HK).1, (unhide HK).2.2.1⟩
          have Hks := hide hks
          have HI2 : Hid (Below w8.heap.size w8 wr ∧ RowAt wr (w.heap.size + 1) q.tail.length z ∧ Sp.AugF q.tail q.cap (s : Int) (t : Int) z x l rk (pt 0) z) := hide ⟨(unhide HK).2.2.2, (unhide Hz8).below (unhide HK).2.2.2, by rw [unhide Hp0]; exact Sp.AugF.first (unhide Hfl) l rk⟩
          clear HK hkw hks
          go_wp2
          clear e1
          go_loopg [14] N (fun g s14 wr => ∃ (k2 : Nat) (z' : Nat → Int), s14 = .int .i64 ((pt k2 : Nat) : Int) ∧ k2 ≤ k ∧ Hid (rk (pt k2) ≤ g ∧ Bt (fun b => b = w.heap.size + 1) w8 wr ∧ RowAt wr (w.heap.size + 1) q.tail.length z' ∧ Sp.AugF q.tail q.cap (s : Int) (t : Int) z x l rk (pt k2) z'))
          case atStart => exact ⟨0, z, by rw [unhide Hp0], by omega, hide ⟨by rw [unhide Hp0]; exact unhide HRk, Bt.of (unhide HI2).1, (unhide HI2).2.1, (unhide HI2).2.2⟩⟩
          case round =>
            clear HI2
            obtain ⟨k2, z', rfl, hk2, HI⟩ := hrel
            have hb3 : Below (w.heap.size + 1) W1 wr := (unhide Hb8).trans ((unhide HI).2.1.below (B := w.heap.size + 1) (fun b hb => by rw [hb]; exact Nat.le_refl _) (unhide Hb8S))
            obtain ⟨x0, x1, x2, x3, -⟩ := unhide HBX wr hb3
            obtain ⟨hkN2, hkw2⟩ := unhide HWay k2 (fun i hi => (unhide HK2).1 i (by omega))
            have hkI2 : ((pt k2 : Nat) : Int) < (N : Int) := by omega
            by_cases hks2 : pt k2 = s
            · have e1 : (((pt k2 : Nat) : Int) != (s : Int)) = false := by rw [hks2]; exact bne_self_eq_false _
              have HN : Hid (Below (w.heap.size + 1) W1 wr ∧ RowAt wr (w.heap.size + 1) q.tail.length z' ∧ Sp.FloF q.tail q.cap (s : Int) (t : Int) z' (x + l)) := hide ⟨hb3, (unhide HI).2.2.1, by
                have h := (unhide HI).2.2.2
                rw [hks2] at h
                exact h.done⟩
              clear HI HK2 hks2 hkw2 hb3
              go_wp2
              go_roundg g1
              case rel => exact ⟨z', x + l, by omega, HN⟩
              case measure => omega
            · have e1 : (((pt k2 : Nat) : Int) != (s : Int)) = true := bne_iff_ne.2 (by omega)
              obtain ⟨d, a1, a2, a3, a4, a5, a6⟩ := hkw2 hks2
              have hk3 : k2 < k := by
                rcases Nat.lt_or_ge k2 k with h | h
                · exact h
                · have : k2 = k := by omega
                  rw [this] at hks2
                  exact absurd (unhide Hks) hks2
              have hlz := (unhide HK2).2 k2 hk3 d a2
              obtain ⟨g2, rfl⟩ : ∃ g2, gk = g2 + 1 := ⟨gk - 1, by have := (unhide HI).1; omega⟩
              have hu : (q.tail.getD d 0).toNat = pt (k2 + 1) := by rw [a5, Int.toNat_natCast]
              obtain ⟨s1, s2, s3⟩ := (unhide HI).2.2.2.step (unhide HEv) (unhide HTb) (by omega) a1 a3 (by rw [hu]; exact a6) hlz (fun d hd => (unhide HCb d hd).1)
              rw [hu, s1, s2] at s3
              have ho := oth_lt a1 (unhide HEv)
              have hne : d ≠ Sp.oth d := fun e => Sp.oth_ne d e.symm
              have hne2 : Sp.oth d ≠ d := Sp.oth_ne d
              have hdI : (d : Int) < (q.tail.length : Int) := by omega
              have hoI : ((Sp.oth d : Nat) : Int) < (q.tail.length : Int) := by omega
              have hX : bits .xor .i64 (d : Int) 1 = ((Sp.oth d : Nat) : Int) := xor_oth ⟨d, by omega⟩
              have c1 := (RowAt.bt (unhide HY8 w8 (Below.refl _ _)) (unhide HI).2.1 (fun h => by have h' : G2 = w.heap.size + 1 := h; omega)).cell hkN2
              rw [a2] at c1
              have c4 := (unhide HI).2.2.1.cell a1
              have c5 := (unhide HI).2.2.1.cell ho
              have f4 := fun i => (unhide HI).2.2.1.frozen i none
              rw [s1] at c4
              rw [s2] at c5
              obtain ⟨tb, tt, rfl, -, hta⟩ := unhide HT d a1
              have Hta := hide hta
              have b1 := unhide HCb d a1
              have b2 := (unhide Hfl).low (unhide HEv) a1
              have b3 := (unhide Hfl).le d a1
              have b4 := unhide HCb _ ho
              have a5' := hide a5
              have HRw := (unhide HI).2.2.1
              have HBt := (unhide HI).2.1
              have hrg : rk (pt (k2 + 1)) ≤ g2 := by have := (unhide HI).1; omega
              generalize z d = zd at *
              have hw1 : IntKind.i64.wrap (zd + l) = zd + l := by rw [IntKind.wrap_i64]; omega
              have hw2 : IntKind.i64.wrap (-zd - l) = -zd - l := by rw [IntKind.wrap_i64]; omega
              obtain ⟨wz, hwz⟩ : ∃ wz, wz = (wr.setCell ⟨w.heap.size + 1, d, none⟩ (.int .i64 (zd + l))).setCell ⟨w.heap.size + 1, Sp.oth d, none⟩ (.int .i64 (-zd - l)) := ⟨_, rfl⟩
              have HA : Hid (Bt (fun b => b = w.heap.size + 1) w8 wz ∧ RowAt wz (w.heap.size + 1) q.tail.length (Sp.upd (Sp.upd z' d (zd + l)) (Sp.oth d) (-zd - l))) := hide (by
                rw [hwz]
                exact ⟨(HBt.set (.inl rfl) d none _).set (.inl rfl) (Sp.oth d) none _, (HRw.set d _).set (Sp.oth d) _⟩)
              have HN : Hid (∀ n, rk (pt (k2 + 1)) ≤ g2 ∧ Bt (fun b => b = w.heap.size + 1) w8 (wz.drewN n) ∧ RowAt (wz.drewN n) (w.heap.size + 1) q.tail.length (Sp.upd (Sp.upd z' d (zd + l)) (Sp.oth d) (-zd - l)) ∧ Sp.AugF q.tail q.cap (s : Int) (t : Int) z x l rk (pt (k2 + 1)) (Sp.upd (Sp.upd z' d (zd + l)) (Sp.oth d) (-zd - l))) := hide fun n => ⟨hrg, (unhide HA).1.dn n, (unhide HA).2.dn n, s3⟩
              have Hwz := hide hwz
              clear hwz HI hta b1 b2 b3 b4 s1 s2 s3 hlz hks2 hkw2 hb3 HRw HBt hu a3 a4 a6
              go_upto_region 16 with fail
              rw [← unhide Hwz]
              clear c1 c4 c5 f4 Hwz x0 x1 x2 x3 hw1 hw2
              have hb4 : Below (w.heap.size + 1) W1 wz := (unhide Hb8).trans ((unhide HA).1.below (B := w.heap.size + 1) (fun b hb => by rw [hb]; exact Nat.le_refl _) (unhide Hb8S))
              obtain ⟨x0, x1, x2, x3, -⟩ := unhide HBX wz hb4
              have c1 := (RowAt.bt (unhide HY8 w8 (Below.refl _ _)) (unhide HA).1 (fun h => by have h' : G2 = w.heap.size + 1 := h; omega)).cell hkN2
              rw [a2] at c1
              have c3 := unhide Hta wz (unhide HW _ hb4)
              rw [unhide a5'] at c3
              clear HA hb4 a5 a5' Hta
              go_quiet (fail)
              have HN2 := hide (unhide HN nq)
              clear HN c1 c3 x0 x1 x2 x3
              generalize wz.drewN nq = wq at *
              go_wp2
              go_roundg g2
              case rel => exact ⟨k2 + 1, _, rfl, by omega, HN2⟩
              case measure => omega
        · have e1 : (((pt k : Nat) : Int) != (s : Int)) = true := bne_iff_ne.2 (by omega)
          obtain ⟨d, a1, a2, a3, a4, a5, a6⟩ := hkw hks
          obtain ⟨g2, rfl⟩ : ∃ g2, gk = g2 + 1 := ⟨gk - 1, by have := (unhide HK).2.1; omega⟩
          have hb := (unhide HK).2.2.2
          have Hb := hide hb
          have c1 := (unhide HY8 wr hb).cell hkN
          rw [a2] at c1
          obtain ⟨cb3, ct3, rfl, -, hc⟩ := unhide HC d (by rw [unhide HCl]; exact a1)
          have c2 := hc wr (unhide HW _ (unhide HX8 wr hb))
          obtain ⟨tb, tt, rfl, -, hta⟩ := unhide HT d a1
          have Hta := hide hta
          have c4 := ((unhide Hz8).below hb).cell a1
          obtain ⟨x0, x1, x2, x3, -⟩ := unhide HBX wr (unhide HX8 wr hb)
          have hdI : (d : Int) < (q.tail.length : Int) := by omega
          have hdC : (d : Int) < (q.cap.length : Int) := by rw [unhide HCl]; omega
          have b1 := unhide HCb d a1
          have b2 := (unhide Hfl).low (unhide HEv) a1
          have b3 := (unhide Hfl).le d a1
          have b4 := unhide HCb _ (oth_lt a1 (unhide HEv))
          have a5' := hide a5
          have HN : Hid (((∀ i, i < k + 1 → pt i ≠ s) ∧ rk (pt (k + 1)) ≤ g2 ∧ (∀ i, i < k + 1 → ∀ d : Nat, Y (pt i) = (d : Int) → min l (q.cap.getD d 0 - z d) ≤ q.cap.getD d 0 - z d)) ∧ ∀ i, i < k + 1 → ∀ d' : Nat, Y (pt i) = (d' : Int) → min l (q.cap.getD d 0 - z d) ≤ q.cap.getD d' 0 - z d') := hide ⟨⟨fun i hi => by
            by_cases e : i = k
            · rw [e]; exact hks
            · exact (unhide HK).1 i (by omega), by have := (unhide HK).2.1; omega, fun i hi d' hd' => Int.min_le_right _ _⟩, fun i hi d' hd' => by
            by_cases e : i = k
            · rw [e, a2] at hd'
              obtain rfl : d' = d := by omega
              exact Int.min_le_right _ _
            · exact Int.le_trans (Int.min_le_left _ _) ((unhide HK).2.2.1 i (by omega) d' hd')⟩
          generalize z d = zd at *
          generalize q.cap.getD d 0 = cd at *
          have hw1 : IntKind.i64.wrap (cd - zd) = cd - zd := by rw [IntKind.wrap_i64]; omega
          have hm0 : 0 < min l (cd - zd) := by rw [Int.lt_min]; omega
          have hm1 : min l (cd - zd) ≤ 1152921504606846976 := Int.le_trans (Int.min_le_left _ _) hl1
          clear HK hkw hks hc hta b1 b2 b3 b4 hb a4 a3 a6
          by_cases hlz : l ≤ cd - zd
          · have hmin : min l (cd - zd) = l := Int.min_eq_left hlz
            have hlz2 : ¬ (cd - zd < l) := by omega
            rw [hmin] at HN hm0 hm1
            clear hlz
            go_upto_region 13 with fail
            go_quiet (fail)
            have hba : Below w8.heap.size w8 (wr.drewN nq) := below_dn (unhide Hb) nq
            clear c1 c2 c4 x0 x1 x2 x3 hw1 Hb hmin hlz2
            generalize wr.drewN nq = wa at *
            obtain ⟨x0, x1, x2, x3, -⟩ := unhide HBX wa (unhide HX8 wa hba)
            have c1 := (unhide HY8 wa hba).cell hkN
            rw [a2] at c1
            have c3 := unhide Hta wa (unhide HW _ (unhide HX8 wa hba))
            rw [unhide a5'] at c3
            have Hba := hide hba
            clear hba a5 a5' Hta e1
            go_upto_region 12 with fail
            go_quiet (fail)
            have HN3 := hide (And.intro (unhide HN) (below_dn (unhide Hba) nq))
            clear c1 c3 x0 x1 x2 x3 Hba HN
            generalize wa.drewN nq = wb at *
            go_wp2
            go_roundg g2
            case rel => exact ⟨k + 1, _, rfl, rfl, hm0, hm1, hide ⟨(unhide HN3).1.1.1, (unhide HN3).1.1.2.1, (unhide HN3).1.2, (unhide HN3).2⟩⟩
            case measure => omega
          · have hmin : min l (cd - zd) = cd - zd := Int.min_eq_right (by omega)
            have hlz2 : cd - zd < l := by omega
            rw [hmin] at HN hm0 hm1
            clear hlz
            go_upto_region 13 with fail
            go_quiet (fail)
            have hba : Below w8.heap.size w8 (wr.drewN nq) := below_dn (unhide Hb) nq
            clear c1 c2 c4 x0 x1 x2 x3 hw1 Hb hmin hlz2
            generalize wr.drewN nq = wa at *
            generalize cd - zd = lm at *
            obtain ⟨x0, x1, x2, x3, -⟩ := unhide HBX wa (unhide HX8 wa hba)
            have c1 := (unhide HY8 wa hba).cell hkN
            rw [a2] at c1
            have c3 := unhide Hta wa (unhide HW _ (unhide HX8 wa hba))
            rw [unhide a5'] at c3
            have Hba := hide hba
            clear hba a5 a5' Hta e1
            go_upto_region 12 with fail
            go_quiet (fail)
            have HN3 := hide (And.intro (unhide HN) (below_dn (unhide Hba) nq))
            clear c1 c3 x0 x1 x2 x3 Hba HN
            generalize wa.drewN nq = wb at *
            go_wp2
            go_roundg g2
            case rel => exact ⟨k + 1, _, rfl, rfl, hm0, hm1, hide ⟨(unhide HN3).1.1.1, (unhide HN3).1.1.2.1, (unhide HN3).1.2, (unhide HN3).2⟩⟩
            case measure => omega
end Go.Proofs.Ytoegjnolccabjaa


