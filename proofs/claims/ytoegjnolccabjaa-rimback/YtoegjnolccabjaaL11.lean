/- What the proof needs, part 11. -/
import Derived.Test.YtoegjnolccabjaaL10
/- Package dual: Split. -/
namespace Go.Proofs.Ytoegjnolccabjaa
open Go Go.RowKit

/-- The row of the faces of a face that was split. -/
def Sp.splitL (q : Sp.Net) (f d0 a jb : Nat) : List Int := Sp.splitAt (fun j => itf (Sp.fn (Sp.behindL q.next)) d0 (a + j)) ((max (Sp.faces2 q).2 1 : Nat) : Int) (f : Int) jb (Sp.faces2 q).1 (Sp.per (Sp.behindL q.next) d0)
set_option maxRecDepth 100000 in
set_option maxHeartbeats 4000000 in
theorem splitNone_any (q : Sp.Net) (v tv nv cv : Value) (s t : Int) (w : World) (hv : NetI w v q tv nv cv) (hq : Sp.LinkQ q) (hc : Sp.checkI q = 0) (hn0 : -9223372036854775808 ≤ q.n) (hn1 : q.n ≤ 9223372036854775807) (hs : (Sp.shared q s t).2 = false) :
    Calls Try.prog 38 #[v, .int .i64 s, .int .i64 t] w fun e w' => e = .returned (.tuple #[.slice none 0 0, .int .i64 0, .int .i64 0, .int .i64 0, .bool false]) ∧ Below w.heap.size w w' := by
  have hv' := hv
  obtain ⟨rfl, h1, h2, h3⟩ := hv
  obtain ⟨ta, tc, rfl, htc, htm⟩ := h1.form
  obtain ⟨na, nc, rfl, -, -⟩ := h2.form
  obtain ⟨ca, cc, rfl, -, -⟩ := h3.form
  clear h1 h2 h3
  obtain ⟨W1, hW1⟩ : ∃ W1, W1 = w.alloc (.cells #[.int .i64 q.n, .slice ta q.tail.length tc, .slice na q.next.length nc, .slice ca q.cap.length cc] 25) := ⟨_, rfl⟩
  have HBX := hide (box_new w q.n (.slice ta q.tail.length tc) (.slice na q.next.length nc) (.slice ca q.cap.length cc))
  rw [← hW1] at HBX
  have hb1 : Below w.heap.size w W1 := by rw [hW1]; exact (Below.refl _ w).alloc (Nat.le_refl _) _
  have hs1 : W1.heap.size = w.heap.size + 1 := by rw [hW1]; simp
  have HC := hide (shared_any q _ _ _ _ s t W1 (hv'.below hb1) hq hc hn0 hn1)
  rw [hs] at HC
  generalize (Sp.shared q s t).1 = R at *
  have HB : Hid (∀ w', Below W1.heap.size W1 w' → Below w.heap.size w w') := hide fun w' hb => hb1.trans (hb.mono (by omega))
  obtain ⟨x0, x1, x2, x3, -⟩ := unhide HBX W1 (Below.refl _ _)
  obtain ⟨P, hP⟩ : ∃ P : Ending → World → Prop, P = fun e w' => e = .returned (.tuple #[.slice none 0 0, .int .i64 0, .int .i64 0, .int .i64 0, .bool false]) ∧ Below w.heap.size w w' := ⟨_, rfl⟩
  rw [← hP]
  have HP := hide hP
  clear hv' hq hc hs hb1 hs1 hP
  subst hW1
  go_enter Try.func38, Try.ntmps38
  go_wp2_with fail
  go_at_call 45
  refine (unhide HC).mono ?_
  rintro e w2 ⟨rfl, hb2⟩
  have HB2 := hide (unhide HB _ hb2)
  clear hb2 x0 x1 x2 x3 HC
  go_wp2
  refine bodyPost_ret (v := .tuple #[.slice none 0 0, .int .i64 0, .int .i64 0, .int .i64 0, .bool false]) (by simp [results, Try.results38, go_sem]) rfl ?_
  rw [unhide HP]
  exact ⟨by rfl, unhide HB2⟩
set_option maxRecDepth 100000 in
set_option maxHeartbeats 4000000 in
theorem dsplit_any (q : Sp.Net) (v tv nv cv : Value) (s t : Int) (f d0 a jb : Nat) (w : World) (hv : NetI w v q tv nv cv) (hq : Sp.LinkQ q) (hw : Sp.walkB q = true) (hc : Sp.checkI q = 0) (hn0 : -9223372036854775808 ≤ q.n) (hn1 : q.n ≤ 9223372036854775807) (hs : Sp.SplitQ q s t f d0 a jb) :
    Calls Try.prog 38 #[v, .int .i64 s, .int .i64 t] w fun e w' => ∃ O, e = .returned (.tuple #[.slice (some ⟨O, 0, none⟩) q.tail.length q.tail.length, .int .i64 (((max (Sp.faces2 q).2 1 : Nat) : Int) + 1), .int .i64 (f : Int), .int .i64 ((max (Sp.faces2 q).2 1 : Nat) : Int), .bool true]) ∧ OwnI w' w.heap.size (.slice (some ⟨O, 0, none⟩) q.tail.length q.tail.length) (Sp.splitL q f d0 a jb) ∧ Below w.heap.size w w' := by
  have hv' := hv
  obtain ⟨rfl, h1, h2, h3⟩ := hv
  obtain ⟨ta, tc, rfl, htc, htm, HTa⟩ := h1.allG
  obtain ⟨na, nc, rfl, -, -⟩ := h2.form
  obtain ⟨ca, cc, rfl, -, -⟩ := h3.form
  clear h1 h2 h3
  have hbm := hq.pm.behind (by rw [hq.nx]; exact hq.ev)
  have hlb : (Sp.behindL q.next).length = q.tail.length := by rw [Sp.behindL_len, hq.nx]
  have hdb : d0 < (Sp.behindL q.next).length := by rw [hlb]; exact hs.d0l
  have hp60 : Sp.per (Sp.behindL q.next) d0 ≤ 60 := by have := (hbm.per hdb).2.1; rw [hlb] at this; have := hq.le; omega
  have hp1 : 1 ≤ Sp.per (Sp.behindL q.next) d0 := (hbm.per hdb).1
  obtain ⟨W1, hW1⟩ : ∃ W1, W1 = w.alloc (.cells #[.int .i64 q.n, .slice ta q.tail.length tc, .slice na q.next.length nc, .slice ca q.cap.length cc] 25) := ⟨_, rfl⟩
  have HBX := hide (box_new w q.n (.slice ta q.tail.length tc) (.slice na q.next.length nc) (.slice ca q.cap.length cc))
  rw [← hW1] at HBX
  have hb1 : Below w.heap.size w W1 := by rw [hW1]; exact (Below.refl _ w).alloc (Nat.le_refl _) _
  have hs1 : W1.heap.size = w.heap.size + 1 := by rw [hW1]; simp
  have HW : Hid (∀ w', Below (w.heap.size + 1) W1 w' → Below w.heap.size w w') := hide fun w' hb => hb1.trans (hb.mono (by omega))
  have HV : Hid (∀ w', Below (w.heap.size + 1) W1 w' → NetI w' (.agg #[.int .i64 q.n, .slice ta q.tail.length tc, .slice na q.next.length nc, .slice ca q.cap.length cc]) q (.slice ta q.tail.length tc) (.slice na q.next.length nc) (.slice ca q.cap.length cc)) := hide fun w' hb => hv'.below (unhide HW _ hb)
  have hbr : Below (w.heap.size + 1) W1 W1 := Below.refl _ _
  have HC := hide (shared_any q _ _ _ _ s t W1 (unhide HV W1 hbr) hq hc hn0 hn1)
  rw [hs.sh] at HC
  have HMo := hide (fun w' (hb : Below (w.heap.size + 1) W1 w') => meshOf_any q _ _ _ _ w' (unhide HV w' hb) hq.nx hq.le hq.ev hq.pm)
  have HMr := hide (fun w' O (h : MeshI w' (.agg #[.int .i64 q.n, .slice ta q.tail.length tc, .slice na q.next.length nc, .slice ca q.cap.length cc, .slice (some ⟨O, 0, none⟩) q.tail.length q.tail.length, .int .i64 ((max (Sp.faces2 q).2 1 : Nat) : Int)]) q (Sp.faces2 q).1 (max (Sp.faces2 q).2 1) (.slice ta q.tail.length tc) (.slice na q.next.length nc) (.slice ca q.cap.length cc) (.slice (some ⟨O, 0, none⟩) q.tail.length q.tail.length)) => mround_any q _ O _ _ _ _ s t f d0 a jb w' h hq hw hs)
  have HFl := hide (Sp.faces2_len q)
  have hK60 : max (Sp.faces2 q).2 1 ≤ 1000 := by have := Sp.faces2_le q; have := hq.le; omega
  have HSl : Hid (Sp.splitL q f d0 a jb = Sp.splitAt (fun j => itf (Sp.fn (Sp.behindL q.next)) d0 (a + j)) ((max (Sp.faces2 q).2 1 : Nat) : Int) (f : Int) jb (Sp.faces2 q).1 (Sp.per (Sp.behindL q.next) d0)) := hide rfl
  have HG : Hid (∀ j, j < Sp.per (Sp.behindL q.next) d0 → (Sp.rounds (Sp.behindL q.next) (itf (Sp.fn (Sp.behindL q.next)) d0 a : Nat) (Sp.per (Sp.behindL q.next) d0)).getD j 0 = ((itf (Sp.fn (Sp.behindL q.next)) d0 (a + j) : Nat) : Int) ∧ itf (Sp.fn (Sp.behindL q.next)) d0 (a + j) < q.tail.length) := hide fun j hj => by
    refine ⟨?_, by have := hbm.fnP.it hdb (a + j); rw [hlb] at this; exact this⟩
    rw [Sp.getD_eq _ _ (by rw [Sp.rounds_len]; exact hj)]
    simp only [Sp.rounds, List.getElem_map, List.getElem_range]
    rw [hbm.nth_it (hbm.fnP.it hdb a) j, ← itf_add]
  have HLl : Hid ((Sp.rounds (Sp.behindL q.next) (itf (Sp.fn (Sp.behindL q.next)) d0 a : Nat) (Sp.per (Sp.behindL q.next) d0)).length = Sp.per (Sp.behindL q.next) d0) := hide (Sp.rounds_len _ _ _)
  have HBt : Hid (q.tail.getD (itf (Sp.fn (Sp.behindL q.next)) d0 (a + jb)) 0 = t) := hide hs.bt
  have HBm : Hid (∀ j, j < jb → q.tail.getD (itf (Sp.fn (Sp.behindL q.next)) d0 (a + j)) 0 ≠ t) := hide hs.bm
  have hjp := hs.bl
  generalize Sp.splitL q f d0 a jb = R at *
  generalize Sp.rounds (Sp.behindL q.next) (itf (Sp.fn (Sp.behindL q.next)) d0 a : Nat) (Sp.per (Sp.behindL q.next) d0) = LB at *
  generalize Sp.per (Sp.behindL q.next) d0 = p at *
  obtain ⟨x, hx⟩ : ∃ x : Nat → Nat, x = fun j => itf (Sp.fn (Sp.behindL q.next)) d0 (a + j) := ⟨_, rfl⟩
  have hx' : ∀ j, itf (Sp.fn (Sp.behindL q.next)) d0 (a + j) = x j := fun j => by rw [hx]
  simp only [hx'] at HG HBt HBm HSl
  clear hx hx'
  generalize (Sp.faces2 q).1 = F at *
  generalize max (Sp.faces2 q).2 1 = K at *
  have HST : Hid (∀ j, Sp.splitAt x (K : Int) (f : Int) jb F (j + 1) = (Sp.splitAt x (K : Int) (f : Int) jb F j).set (x j) (if jb ≤ j then (K : Int) else (f : Int))) := hide fun j => rfl
  have HSL := hide (fun j => Sp.splitAt_len x (K : Int) (f : Int) jb F j)
  have HS0 : Hid (Sp.splitAt x (K : Int) (f : Int) jb F 0 = F) := hide rfl
  generalize Sp.splitAt x (K : Int) (f : Int) jb F = sp at *
  obtain ⟨P, hP⟩ : ∃ P : Ending → World → Prop, P = fun e w' => ∃ O, e = .returned (.tuple #[.slice (some ⟨O, 0, none⟩) q.tail.length q.tail.length, .int .i64 ((K : Int) + 1), .int .i64 (f : Int), .int .i64 (K : Int), .bool true]) ∧ OwnI w' w.heap.size (.slice (some ⟨O, 0, none⟩) q.tail.length q.tail.length) R ∧ Below w.heap.size w w' := ⟨_, rfl⟩
  rw [← hP]
  have HP := hide hP
  have Hs1 := hide hs1
  obtain ⟨x0, x1, x2, x3, -⟩ := unhide HBX W1 hbr
  clear hv' hP hs1 hb1 hq hc hs hw hbm hlb hdb
  subst hW1
  go_enter Try.func38, Try.ntmps38
  go_wp2_with fail
  go_at_call 45
  refine (unhide HC).mono ?_
  clear HC x0 x1 x2 x3
  generalize w.alloc (.cells #[.int .i64 q.n, .slice ta q.tail.length tc, .slice na q.next.length nc, .slice ca q.cap.length cc] 25) = W1 at *
  rintro e w2 ⟨rfl, hb2⟩
  rw [unhide Hs1] at hb2
  obtain ⟨x0, x1, x2, x3, hsz2⟩ := unhide HBX w2 hb2
  go_wp2_with fail
  go_at_call 46
  refine (unhide HMo w2 hb2).mono ?_
  clear HMo x0 x1 x2 x3
  rintro e w4 ⟨O, rfl, hO, hb4⟩
  have hb4' : Below (w.heap.size + 1) W1 w4 := hb2.trans (hb4.mono hsz2)
  have hs4 : w.heap.size + 1 ≤ w4.heap.size := Nat.le_trans hsz2 hb4.size
  have hOge : w.heap.size + 1 ≤ O := Nat.le_trans hsz2 (hO.lt O rfl).1
  have hOlt : O < w4.heap.size := (hO.lt O rfl).2
  obtain ⟨W5, hW5⟩ : ∃ W5, W5 = w4.alloc (.cells #[.int .i64 q.n, .slice ta q.tail.length tc, .slice na q.next.length nc, .slice ca q.cap.length cc, .slice (some ⟨O, 0, none⟩) q.tail.length q.tail.length, .int .i64 (K : Int)] 74) := ⟨_, rfl⟩
  have hb45 : Below w4.heap.size w4 W5 := by rw [hW5]; exact (Below.refl _ w4).alloc (Nat.le_refl _) _
  have hs5 : W5.heap.size = w4.heap.size + 1 := by rw [hW5]; simp
  have HS : Hid (∀ w', Below W5.heap.size W5 w' → w'.cell? ⟨w4.heap.size, 0, none⟩ = some (.int .i64 q.n) ∧ w'.cell? ⟨w4.heap.size, 1, none⟩ = some (.slice ta q.tail.length tc) ∧ w'.cell? ⟨w4.heap.size, 2, none⟩ = some (.slice na q.next.length nc) ∧ w'.cell? ⟨w4.heap.size, 3, none⟩ = some (.slice ca q.cap.length cc) ∧ w'.cell? ⟨w4.heap.size, 4, none⟩ = some (.slice (some ⟨O, 0, none⟩) q.tail.length q.tail.length) ∧ w'.cell? ⟨w4.heap.size, 5, none⟩ = some (.int .i64 (K : Int))) := hide fun w' hb => by
    rw [hs5] at hb
    rw [hW5] at hb
    obtain ⟨e0, e1, e2, e3, e4, e5, -⟩ := mesh_new w4 q.n _ _ _ _ _ w' hb
    exact ⟨e0, e1, e2, e3, e4, e5⟩
  have HBl : Hid (∀ w', Below W5.heap.size W5 w' → Below (w.heap.size + 1) W1 w') := hide fun w' hb => (hb4'.trans (hb45.mono hs4)).trans (hb.mono (by omega))
  have HO5 : Hid (∀ w', Below W5.heap.size W5 w' → OwnI w' w.heap.size (.slice (some ⟨O, 0, none⟩) q.tail.length q.tail.length) F) := hide fun w' hb => own_base (own_below (own_below hO hb45) hb) (by omega)
  have HMI : Hid (∀ w', Below W5.heap.size W5 w' → MeshI w' (.agg #[.int .i64 q.n, .slice ta q.tail.length tc, .slice na q.next.length nc, .slice ca q.cap.length cc, .slice (some ⟨O, 0, none⟩) q.tail.length q.tail.length, .int .i64 (K : Int)]) q F K (.slice ta q.tail.length tc) (.slice na q.next.length nc) (.slice ca q.cap.length cc) (.slice (some ⟨O, 0, none⟩) q.tail.length q.tail.length)) := hide fun w' hb => by
    have h := unhide HV w' (unhide HBl w' hb)
    exact ⟨rfl, h.tail, h.next, h.cap, (unhide HO5 w' hb).ints⟩
  have HRd := hide (fun w' (hb : Below W5.heap.size W5 w') => unhide HMr w' O (unhide HMI w' hb))
  have HW5 := hide hW5
  have hb5 : Below W5.heap.size W5 W5 := Below.refl _ _
  have Hs5 := hide hs5
  have HO1 := hide (And.intro hOge hOlt)
  have HM4 : Hid (w4.heap.size < W5.heap.size) := hide (by omega)
  clear hW5 hs5 hb45 hO hb4 hb2 hb4' hs4 hsz2 HMr HMI hOge hOlt hbr
  obtain ⟨x0, x1, x2, x3, x4, x5⟩ := unhide HS W5 hb5
  go_upto_region 7 with fail
  rw [← unhide HW5]
  go_wp2_with fail
  go_at_call 47
  refine (unhide HRd W5 hb5).mono ?_
  clear x0 x1 x2 x3 x4 x5 HRd
  rintro e w7 ⟨lv, rfl, hl7, hb7⟩
  obtain ⟨lb, lo, lc, hve, hlg, -, -, hop⟩ := mine_open hl7 (by rw [unhide HLl]; omega)
  rw [unhide HLl] at hve
  subst hve
  have hcl : ∀ j, j < p → w7.cell? ⟨lb, lo + j, none⟩ = some (.int .i64 ((x j : Nat) : Int)) := fun j hj => by
    have h := hl7.ints.cellD j (by rw [unhide HLl]; exact hj)
    rw [(unhide HG j hj).1] at h
    exact h
  have hlO : lb ≠ O := by have := (unhide HO1).2; have := unhide HM4; omega
  have HCL : Hid (∀ wr j, ButRow O w7 wr → j < p → wr.cell? ⟨lb, lo + j, none⟩ = some (.int .i64 ((x j : Nat) : Int))) := hide fun wr j h hj => (h.cell (by exact hlO)).trans (hcl j hj)
  have HX : Hid (∀ wr, ButRow O w7 wr → wr.cell? ⟨w.heap.size, 1, none⟩ = some (.slice ta q.tail.length tc) ∧ wr.cell? ⟨w4.heap.size, 4, none⟩ = some (.slice (some ⟨O, 0, none⟩) q.tail.length q.tail.length) ∧ wr.cell? ⟨w4.heap.size, 5, none⟩ = some (.int .i64 (K : Int))) := hide fun wr h => by
    have o1 := (unhide HO1).1
    have o2 := (unhide HO1).2
    exact ⟨(h.cell (by show w.heap.size ≠ O; omega)).trans (unhide HBX w7 (unhide HBl w7 hb7)).2.1, (h.cell (by show w4.heap.size ≠ O; omega)).trans (unhide HS w7 hb7).2.2.2.2.1, (h.cell (by show w4.heap.size ≠ O; omega)).trans (unhide HS w7 hb7).2.2.2.2.2⟩
  have HTl : Hid (∀ wr k, ButRow O w7 wr → k < q.tail.length → ∃ tb to', ta = some ⟨tb, to', none⟩ ∧ wr.cell? ⟨tb, to' + k, none⟩ = some (.int .i64 (q.tail.getD k 0))) := hide fun wr k h hk => by
    obtain ⟨tb, to', e1, e2, e3⟩ := unhide HTa k hk
    have o1 := (unhide HO1).1
    exact ⟨tb, to', e1, (h.cell (by show tb ≠ O; omega)).trans (e3 w7 (unhide HW _ (unhide HBl w7 hb7)))⟩
  have HI0 : Hid (OwnI w7 w.heap.size (.slice (some ⟨O, 0, none⟩) q.tail.length q.tail.length) (sp 0) ∧ ButRow O w7 w7 ∧ Below w.heap.size w w7) := hide ⟨by rw [unhide HS0]; exact unhide HO5 w7 hb7, ButRow.refl _ _, unhide HW _ (unhide HBl w7 hb7)⟩
  have HOw : Hid (w.heap.size ≤ O) := hide (by have := (unhide HO1).1; omega)
  clear hl7 hb7 hop hcl hlg HTa HO5 HS HBl
  go_wp2
  go_loopg [12, 34] p (fun g s12 s34 wr => ∃ j : Nat, j + g = p ∧ s34 = .int .i64 (j : Int) ∧ s12 = .int .i64 (if jb < j then (K : Int) else (f : Int)) ∧ Hid (OwnI wr w.heap.size (.slice (some ⟨O, 0, none⟩) q.tail.length q.tail.length) (sp j) ∧ ButRow O w7 wr ∧ Below w.heap.size w wr))
  case atStart => exact ⟨0, by omega, rfl, by rw [if_neg (by omega)], HI0⟩
  case round =>
    clear HI0
    obtain ⟨j, hjg, rfl, rfl, HI⟩ := hrel
    obtain ⟨y1, y4, y5⟩ := unhide HX wr (unhide HI).2.1
    cases gk with
    | zero =>
      obtain rfl : j = p := by omega
      have HB := hide (unhide HI).2.2
      have HO := hide (unhide HI).1
      have hkw : IntKind.i64.wrap ((K : Int) + 1) = (K : Int) + 1 := by rw [IntKind.wrap_i64]; omega
      clear HI
      go_wp2
      go_quiet (fail)
      go_wp2
      refine bodyPost_ret (v := .tuple #[.slice (some ⟨O, 0, none⟩) q.tail.length q.tail.length, .int .i64 ((K : Int) + 1), .int .i64 (f : Int), .int .i64 (K : Int), .bool true]) (by simp [results, Try.results38, go_sem]) rfl ?_
      rw [unhide HP, unhide HSl]
      exact ⟨O, rfl, own_below (unhide HO) (below_dn (Below.refl _ _) _), below_dn (unhide HB) _⟩
    | succ g' =>
      have hlt : j < p := by omega
      have hltI : (j : Int) < (p : Int) := by omega
      have c1 := unhide HCL wr j (unhide HI).2.1 hlt
      have hxl := (unhide HG j hlt).2
      obtain ⟨tb, t0, rfl, c2⟩ := unhide HTl wr (x j) (unhide HI).2.1 hxl
      have c3 := own_cell (unhide HI).1 (x j) (by rw [unhide HSL j, unhide HFl]; exact hxl)
      have f3 := own_frozen (unhide HI).1 (x j)
      have hxI : ((x j : Nat) : Int) < (q.tail.length : Int) := by omega
      have HN : Hid (∀ v : Int, v = (if jb ≤ j then (K : Int) else (f : Int)) → OwnI (wr.setCell ⟨O, x j, none⟩ (.int .i64 v)) w.heap.size (.slice (some ⟨O, 0, none⟩) q.tail.length q.tail.length) (sp (j + 1)) ∧ ButRow O w7 (wr.setCell ⟨O, x j, none⟩ (.int .i64 v)) ∧ Below w.heap.size w (wr.setCell ⟨O, x j, none⟩ (.int .i64 v))) := hide fun v hv => by
        refine ⟨?_, (unhide HI).2.1.setCell _ _, (unhide HI).2.2.setCell (by exact unhide HOw) _⟩
        rw [unhide HST j, ← hv]
        exact own_setCell (unhide HI).1 (x j) v
      have hcase : jb < j ∨ jb = j ∨ j < jb := by omega
      generalize (sp j)[x j]'_ = z at *
      clear HI
      rcases hcase with h | h | h
      · rw [if_pos h]
        have HN2 := hide (unhide HN (K : Int) (by rw [if_pos (by omega)]))
        have hE : (if jb < j + 1 then (K : Int) else (f : Int)) = K := if_pos (by omega)
        generalize q.tail.getD (x j) 0 = tz at *
        by_cases ht : tz = t
        · subst ht
          have e1 : (tz == tz) = true := beq_self_eq_true _
          go_wp2
          go_roundg g'
          case rel => exact ⟨j + 1, by omega, by go_num, by rw [hE], HN2⟩
          case measure => omega
        · have e1 : (tz == t) = false := beq_eq_false_iff_ne.2 ht
          go_wp2
          go_roundg g'
          case rel => exact ⟨j + 1, by omega, by go_num, by rw [hE], HN2⟩
          case measure => omega
      · subst h
        rw [unhide HBt] at c2
        rw [if_neg (by omega)]
        have HN2 := hide (unhide HN (K : Int) (by rw [if_pos (by omega)]))
        have hE : (if jb < jb + 1 then (K : Int) else (f : Int)) = K := if_pos (by omega)
        have e1 : (t == t) = true := beq_self_eq_true _
        go_wp2
        go_roundg g'
        case rel => exact ⟨jb + 1, by omega, by go_num, by rw [hE], HN2⟩
        case measure => omega
      · rw [if_neg (by omega)]
        have HN2 := hide (unhide HN (f : Int) (by rw [if_neg (by omega)]))
        have hE : (if jb < j + 1 then (K : Int) else (f : Int)) = f := if_neg (by omega)
        have ht := unhide HBm j h
        generalize q.tail.getD (x j) 0 = tz at *
        have e1 : (tz == t) = false := beq_eq_false_iff_ne.2 ht
        go_wp2
        go_roundg g'
        case rel => exact ⟨j + 1, by omega, by go_num, by rw [hE], HN2⟩
        case measure => omega
end Go.Proofs.Ytoegjnolccabjaa


/- Passes one behind the other: where a row of shortest ways is, n - 1 of them come to it; where one changes nothing there is such a row. -/
namespace Go.Proofs.Ytoegjnolccabjaa
open Go Go.RowKit

def Sp.ps (far : Int) (L : List Sp.Arc) (d : Nat → Int) : Nat → Nat → Int
  | 0 => d
  | k + 1 => Sp.rxs far L (Sp.ps far L d k)
theorem Sp.Att.rxs {far : Int} {L0 : List Sp.Arc} {s n : Nat} (hf : 0 < far) : ∀ (L : List Sp.Arc) (d : Nat → Int), (∀ a ∈ L, a ∈ L0 ∧ a.f < n) → Sp.Att far L0 s n d → Sp.Att far L0 s n (Sp.rxs far L d)
  | [], _, _, h => h
  | a :: L, _, hL, h => Sp.Att.rxs hf L _ (fun b hb => hL b (List.mem_cons_of_mem _ hb)) (h.rx hf (hL a (List.mem_cons_self ..)).1 (hL a (List.mem_cons_self ..)).2)
theorem Sp.Att.ps {far : Int} {L : List Sp.Arc} {s n : Nat} {d : Nat → Int} (hf : 0 < far) (hL : ∀ a ∈ L, a.f < n) (h : Sp.Att far L s n d) : ∀ k, Sp.Att far L s n (Sp.ps far L d k)
  | 0 => h
  | k + 1 => Sp.Att.rxs hf L _ (fun a ha => ⟨ha, hL a ha⟩) (Sp.Att.ps hf hL h k)
/-- The first row: s alone is reached. -/
def Sp.d0 (far : Int) (s : Nat) : Nat → Int := fun v => if v = s then 0 else far
theorem Sp.att0 {far : Int} {L : List Sp.Arc} {s n : Nat} (hf : 0 < far) : Sp.Att far L s n (Sp.d0 far s) := by
  refine ⟨by unfold Sp.d0; rw [if_pos rfl]; exact ⟨by omega, Int.le_refl _⟩, fun v _ hne => ?_⟩
  unfold Sp.d0 at hne ⊢
  by_cases e : v = s
  · rw [if_pos e]; exact ⟨0, e, rfl⟩
  · rw [if_neg e] at hne; exact absurd rfl hne
theorem Sp.stl_le (d D : Nat → Int) (n : Nat) : Sp.stl d D n ≤ n := Sp.ct_le _ n
theorem Sp.stl_all {d D : Nat → Int} {n : Nat} (h : Sp.stl d D n = n) : ∀ v, v < n → d v = D v := by
  have key : ∀ (p : Nat → Bool) n, Sp.ct p n = n → ∀ i, i < n → p i = true := by
    intro p n
    induction n with
    | zero => intro _ i hi; omega
    | succ n ih =>
      intro h i hi
      rw [Sp.ct_succ] at h
      have := Sp.ct_le p n
      split at h
      · rename_i hp
        by_cases e : i = n
        · subst e; exact hp
        · exact ih (by omega) i (by omega)
      · omega
  intro v hv
  exact of_decide_eq_true (key _ n h v hv)
theorem Sp.ps_settled {far : Int} {L : List Sp.Arc} {s n : Nat} {D : Nat → Int} (hD : Sp.Short far L s n D) (hf : 0 < far) (hL : ∀ a ∈ L, a.f < n ∧ a.t < n) (hlt : ∀ v, D v ≠ far → D v < far) (hsn : s < n) : ∀ k, min n (k + 1) ≤ Sp.stl (Sp.ps far L (Sp.d0 far s) k) D n
  | 0 => by
    have h0 : Sp.ct (fun _ => false) n < Sp.stl (Sp.d0 far s) D n := Sp.ct_lt n (fun i _ h => by cases h) ⟨s, hsn, rfl, by
      rw [decide_eq_true_eq, hD.src]; unfold Sp.d0; rw [if_pos rfl]⟩
    show min n 1 ≤ Sp.stl (Sp.d0 far s) D n
    omega
  | k + 1 => by
    have ih := Sp.ps_settled hD hf hL hlt hsn k
    have hA := Sp.Att.ps (L := L) (n := n) hf (fun a ha => (hL a ha).1) (Sp.att0 (s := s) hf) k
    have hle := Sp.stl_le (Sp.ps far L (Sp.d0 far s) k) D n
    by_cases hn : Sp.stl (Sp.ps far L (Sp.d0 far s) k) D n < n
    · have := Sp.pass_more hD hf hL hlt hsn hA hn
      show min n (k + 2) ≤ Sp.stl (Sp.rxs far L (Sp.ps far L (Sp.d0 far s) k)) D n
      omega
    · have hall := Sp.stl_all (show Sp.stl (Sp.ps far L (Sp.d0 far s) k) D n = n by omega)
      have hset := (Sp.rxs_settled hD hf L (Sp.ps far L (Sp.d0 far s) k) (fun a ha => ⟨ha, (hL a ha).1⟩) hA).2
      have : Sp.stl (Sp.ps far L (Sp.d0 far s) (k + 1)) D n = n := by
        unfold Sp.stl Sp.ct
        rw [List.filter_eq_self.2, List.length_range]
        intro v hv
        rw [List.mem_range] at hv
        rw [decide_eq_true_eq]
        exact hset v (hall v hv)
      omega
/-- Where a row of shortest ways is, n - 1 passes come to it. -/
theorem Sp.ps_short {far : Int} {L : List Sp.Arc} {s n : Nat} {D : Nat → Int} (hD : Sp.Short far L s n D) (hf : 0 < far) (hL : ∀ a ∈ L, a.f < n ∧ a.t < n) (hlt : ∀ v, D v ≠ far → D v < far) (hsn : s < n) {k : Nat} (hk : n ≤ k + 1) {v : Nat} (hv : v < n) : Sp.ps far L (Sp.d0 far s) k v = D v := by
  have h1 := Sp.ps_settled hD hf hL hlt hsn k
  have h2 := Sp.stl_le (Sp.ps far L (Sp.d0 far s) k) D n
  exact Sp.stl_all (by omega) v hv
/-- Where no arc makes a way shorter the row is one of shortest ways. -/
theorem Sp.short_still {far : Int} {L : List Sp.Arc} {s n : Nat} {d : Nat → Int} (hsn : s < n) (h : Sp.Att far L s n d) (hst : ∀ a ∈ L, d a.f ≠ far → ¬ d a.f + a.l < d a.t) (hb : ∀ a ∈ L, d a.f ≠ far → d a.f + a.l < far) : Sp.Short far L s n d := by
  have harc : ∀ a ∈ L, d a.f ≠ far → d a.t ≠ far ∧ d a.t ≤ d a.f + a.l := fun a ha hne => by
    have h1 := hst a ha hne
    have h2 := hb a ha hne
    exact ⟨by omega, by omega⟩
  have hlow : ∀ m v x, Sp.Wk L s m v x → d v ≠ far ∧ d v ≤ d s + x := by
    intro m
    induction m with
    | zero =>
      intro v x hw
      obtain ⟨rfl, rfl⟩ := hw
      exact ⟨h.src.1, by omega⟩
    | succ m ih =>
      intro v x hw
      obtain ⟨a, ha, rfl, hw⟩ := hw
      obtain ⟨h1, h2⟩ := ih _ _ hw
      obtain ⟨h3, h4⟩ := harc a ha h1
      exact ⟨h3, by omega⟩
  refine ⟨?_, harc, h.att⟩
  obtain ⟨m, hm⟩ := h.att s hsn h.src.1
  have := (hlow m s _ hm).2
  have := h.src.2
  omega
end Go.Proofs.Ytoegjnolccabjaa


/- Places settled one by one, the nearest first (P601: From). -/
namespace Go.Proofs.Ytoegjnolccabjaa
open Go Go.RowKit

/-- What stays while places are settled. -/
structure Sp.Dj (far : Int) (L : List Sp.Arc) (s n : Nat) (B : Nat → Int) (S : Nat → Prop) : Prop where
  at_ : Sp.Att far L s n B
  got : ∀ v, S v → B v ≠ far
  shut : ∀ v, S v → ∀ a ∈ L, a.f = v → B a.t ≠ far ∧ B a.t ≤ B v + a.l
  near : ∀ v u, S v → ¬ S u → u < n → B u ≠ far → B v ≤ B u
/-- While the arcs of the place x are tried: those of P are. -/
structure Sp.DjX (far : Int) (L : List Sp.Arc) (s n x : Nat) (B : Nat → Int) (S : Nat → Prop) (P : Sp.Arc → Prop) : Prop where
  at_ : Sp.Att far L s n B
  got : ∀ v, S v → B v ≠ far
  shut : ∀ v, S v → ∀ a ∈ L, a.f = v → B a.t ≠ far ∧ B a.t ≤ B v + a.l
  below : ∀ v, S v → B v ≤ B x
  above : ∀ u, ¬ S u → u < n → B u ≠ far → B x ≤ B u
  xg : B x ≠ far
  done : ∀ a ∈ L, a.f = x → P a → B a.t ≠ far ∧ B a.t ≤ B x + a.l
theorem Sp.Dj.open_ {far : Int} {L : List Sp.Arc} {s n x : Nat} {B : Nat → Int} {S : Nat → Prop} (h : Sp.Dj far L s n B S) (hx : ¬ S x) (hxn : x < n) (hg : B x ≠ far) (hmin : ∀ u, ¬ S u → u < n → B u ≠ far → B x ≤ B u) : Sp.DjX far L s n x B S (fun _ => False) :=
  ⟨h.at_, h.got, h.shut, fun v hv => h.near v x hv hx hxn hg, hmin, hg, fun _ _ _ hp => hp.elim⟩
/-- An arc of x is tried. -/
theorem Sp.DjX.try_ {far : Int} {L : List Sp.Arc} {s n x : Nat} {B : Nat → Int} {S : Nat → Prop} {P : Sp.Arc → Prop} (h : Sp.DjX far L s n x B S P) (hf : 0 < far) (hpos : ∀ a ∈ L, 0 < a.l) (hxn : x < n) {a : Sp.Arc} (ha : a ∈ L) (hax : a.f = x) (hlt : B x + a.l < far) : Sp.DjX far L s n x (Sp.rx far B a) S (fun b => P b ∨ b = a) := by
  have hp := hpos a ha
  have e : ∀ v, Sp.rx far B a v = if v = a.t ∧ B x + a.l < B a.t then B x + a.l else B v := fun v => by
    unfold Sp.rx
    rw [hax]
    by_cases hc : v = a.t ∧ B x + a.l < B a.t
    · rw [if_pos hc, if_pos ⟨hc.1, h.xg, hc.2⟩]
    · rw [if_neg hc, if_neg (fun hh => hc ⟨hh.1, hh.2.2⟩)]
  have ex : Sp.rx far B a x = B x := by
    rw [e]
    split
    · rename_i hc; rw [← hc.1] at hc; omega
    · rfl
  have eS : ∀ v, S v → Sp.rx far B a v = B v := fun v hv => by
    rw [e]
    split
    · rename_i hc
      have := h.below v hv
      rw [← hc.1] at hc
      omega
    · rfl
  have hle : ∀ v, B v ≠ far → Sp.rx far B a v ≠ far ∧ Sp.rx far B a v ≤ B v := fun v hv => by
    rw [e]
    split
    · rename_i hc
      rw [← hc.1] at hc
      exact ⟨by omega, by omega⟩
    · exact ⟨hv, Int.le_refl _⟩
  refine ⟨h.at_.rx hf ha (by omega), fun v hv => by rw [eS v hv]; exact h.got v hv, fun v hv b hb hbf => ?_, fun v hv => by rw [eS v hv, ex]; exact h.below v hv, fun u hu hun hne => ?_, by rw [ex]; exact h.xg, fun b hb hbx hP => ?_⟩
  · obtain ⟨h1, h2⟩ := h.shut v hv b hb hbf
    obtain ⟨h3, h4⟩ := hle b.t h1
    rw [eS v hv]
    exact ⟨h3, by omega⟩
  · rw [ex]
    rw [e] at hne ⊢
    by_cases hc : u = a.t ∧ B x + a.l < B a.t
    · rw [if_pos hc]; omega
    · rw [if_neg hc] at hne ⊢
      exact h.above u hu hun hne
  · rw [ex]
    rcases hP with hP | hP
    · obtain ⟨h1, h2⟩ := h.done b hb hbx hP
      obtain ⟨h3, h4⟩ := hle b.t h1
      exact ⟨h3, by omega⟩
    · subst hP
      rw [e]
      by_cases hc : B x + b.l < B b.t
      · rw [if_pos ⟨rfl, hc⟩]; exact ⟨by omega, Int.le_refl _⟩
      · rw [if_neg (fun hh => hc hh.2)]
        exact ⟨by omega, by omega⟩
/-- All arcs of x are tried: it is settled. -/
theorem Sp.DjX.close {far : Int} {L : List Sp.Arc} {s n x : Nat} {B : Nat → Int} {S : Nat → Prop} {P : Sp.Arc → Prop} (h : Sp.DjX far L s n x B S P) (hall : ∀ a ∈ L, a.f = x → P a) : Sp.Dj far L s n B (fun v => S v ∨ v = x) := by
  refine ⟨h.at_, fun v hv => ?_, fun v hv a ha haf => ?_, fun v u hv hu hun hne => ?_⟩
  · rcases hv with hv | rfl
    · exact h.got v hv
    · exact h.xg
  · rcases hv with hv | rfl
    · exact h.shut v hv a ha haf
    · exact h.done a ha haf (hall a ha haf)
  · have h1 := h.above u (fun e => hu (.inl e)) hun hne
    rcases hv with hv | rfl
    · have := h.below v hv; omega
    · exact h1
/-- All that are reached are settled: the row is one of shortest ways. -/
theorem Sp.Dj.short {far : Int} {L : List Sp.Arc} {s n : Nat} {B : Nat → Int} {S : Nat → Prop} (h : Sp.Dj far L s n B S) (hL : ∀ a ∈ L, a.f < n ∧ a.t < n) (hpos : ∀ a ∈ L, 0 < a.l) (hsn : s < n) (hall : ∀ v, v < n → B v ≠ far → S v) : Sp.Short far L s n B := by
  have hw : ∀ m v x, Sp.Wk L s m v x → 0 ≤ x := by
    intro m
    induction m with
    | zero => intro v x hw; have := hw.2; omega
    | succ m ih =>
      intro v x hw
      obtain ⟨a, ha, -, hw⟩ := hw
      have := ih _ _ hw
      have := hpos a ha
      omega
  refine ⟨?_, fun a ha hne => h.shut a.f (hall a.f (hL a ha).1 hne) a ha rfl, h.at_.att⟩
  obtain ⟨m, hm⟩ := h.at_.att s hsn h.at_.src.1
  have := hw _ _ _ hm
  have := h.at_.src.2
  omega
end Go.Proofs.Ytoegjnolccabjaa


/- Shortest ways, and of these the fewest arcs: one row of numbers for both (P601: Way). -/
namespace Go.Proofs.Ytoegjnolccabjaa
open Go Go.RowKit

/-- The arcs, length and number in one. -/
def Sp.pairL (M : Int) (L : List Sp.Arc) : List Sp.Arc := L.map fun a => ⟨a.f, a.t, M * a.l + 1⟩
end Go.Proofs.Ytoegjnolccabjaa


/- A round below 0, found by the arcs by which places were last shortened (P601: Any). -/
namespace Go.Proofs.Ytoegjnolccabjaa
open Go Go.RowKit

/-- What stays along the passes: by tells for each place the arc that shortened it last; tm when; pn in which pass. -/
structure Sp.Tr (far : Int) (L : List Sp.Arc) (n : Nat) (d : Nat → Int) (by_ : Nat → Option Sp.Arc) (tm pn : Nat → Nat) (clock : Nat) : Prop where
  arc : ∀ v a, v < n → by_ v = some a → a ∈ L ∧ a.t = v ∧ d a.f ≠ far ∧ d a.f + a.l ≤ d v ∧ (tm v ≤ tm a.f → d a.f + a.l < d v) ∧ pn v ≤ pn a.f + 1
  past : ∀ v, tm v < clock
  some_ : ∀ v, v < n → 0 < pn v → by_ v ≠ none
/-- A place is shortened. -/
theorem Sp.Tr.put {far : Int} {L : List Sp.Arc} {n : Nat} {d : Nat → Int} {by_ : Nat → Option Sp.Arc} {tm pn : Nat → Nat} {clock k : Nat} (h : Sp.Tr far L n d by_ tm pn clock) {a : Sp.Arc} (ha : a ∈ L) (hg : d a.f ≠ far) (hlt : d a.f + a.l < d a.t) (hx : d a.f + a.l ≠ far) (hk : k ≤ pn a.f + 1) (hkt : pn a.t ≤ k) :
    Sp.Tr far L n (fun v => if v = a.t then d a.f + a.l else d v) (fun v => if v = a.t then some a else by_ v) (fun v => if v = a.t then clock else tm v) (fun v => if v = a.t then k else pn v) (clock + 1) := by
  refine ⟨fun v b hv hb => ?_, fun v => ?_, fun v hv hp => ?_⟩
  · by_cases e : v = a.t
    · rw [if_pos e] at hb
      injection hb with hb
      subst hb
      rw [if_pos e, if_pos e, if_pos e]
      by_cases e2 : a.f = a.t
      · rw [if_pos e2, if_pos e2, if_pos e2]
        rw [e2] at hlt hx hg ⊢
        exact ⟨ha, e.symm, hx, by omega, fun _ => by omega, by omega⟩
      · rw [if_neg e2, if_neg e2, if_neg e2]
        have := h.past a.f
        exact ⟨ha, e.symm, hg, Int.le_refl _, fun hh => by omega, hk⟩
    · rw [if_neg e] at hb
      obtain ⟨h1, h2, h3, h4, h5, h6⟩ := h.arc v b hv hb
      rw [if_neg e, if_neg e, if_neg e]
      by_cases e2 : b.f = a.t
      · rw [if_pos e2, if_pos e2, if_pos e2]
        rw [e2] at h4 h6
        exact ⟨h1, h2, hx, by omega, fun _ => by omega, by omega⟩
      · rw [if_neg e2, if_neg e2, if_neg e2]
        exact ⟨h1, h2, h3, h4, h5, h6⟩
  · show (if v = a.t then clock else tm v) < clock + 1
    split
    · omega
    · have := h.past v; omega
  · by_cases e : v = a.t
    · rw [if_pos e]; exact fun e => by cases e
    · rw [if_neg e] at hp ⊢
      exact h.some_ v hv hp
/-- Back along the arcs, m of them, from x to y, together z long. -/
def Sp.Bk (by_ : Nat → Option Sp.Arc) : Nat → Nat → Nat → Int → Prop
  | 0, x, y, z => x = y ∧ z = 0
  | m + 1, x, y, z => ∃ a, by_ x = some a ∧ Sp.Bk by_ m a.f y (z - a.l)
theorem Sp.Tr.back {far : Int} {L : List Sp.Arc} {n : Nat} {d : Nat → Int} {by_ : Nat → Option Sp.Arc} {tm pn : Nat → Nat} {clock : Nat} (h : Sp.Tr far L n d by_ tm pn clock) (hL : ∀ a ∈ L, a.f < n ∧ a.t < n) : ∀ m x y z, x < n → Sp.Bk by_ m x y z → y < n ∧ d y + z ≤ d x ∧ (m = 0 ∨ tm y < tm x ∨ d y + z < d x)
  | 0, x, y, z, hx, hb => by
    obtain ⟨rfl, rfl⟩ := hb
    exact ⟨hx, by omega, .inl rfl⟩
  | m + 1, x, y, z, hx, hb => by
    obtain ⟨a, ha, hb⟩ := hb
    obtain ⟨h1, h2, h3, h4, h5, -⟩ := h.arc x a hx ha
    obtain ⟨i1, i2, i3⟩ := Sp.Tr.back h hL m a.f y _ (hL a h1).1 hb
    refine ⟨i1, by omega, .inr ?_⟩
    by_cases ht : tm x ≤ tm a.f
    · have := h5 ht
      exact .inr (by omega)
    · rcases i3 with i3 | i3 | i3
      · subst i3
        obtain ⟨e, -⟩ := hb
        rw [← e]
        exact .inl (by omega)
      · exact .inl (by omega)
      · exact .inr (by omega)
/-- What comes round is below 0. -/
theorem Sp.Tr.round {far : Int} {L : List Sp.Arc} {n : Nat} {d : Nat → Int} {by_ : Nat → Option Sp.Arc} {tm pn : Nat → Nat} {clock : Nat} (h : Sp.Tr far L n d by_ tm pn clock) (hL : ∀ a ∈ L, a.f < n ∧ a.t < n) {m x : Nat} {z : Int} (hx : x < n) (hm : 0 < m) (hb : Sp.Bk by_ m x x z) : z < 0 := by
  obtain ⟨-, h1, h2⟩ := h.back hL m x x z hx hb
  rcases h2 with h2 | h2 | h2
  · omega
  · omega
  · omega
end Go.Proofs.Ytoegjnolccabjaa


/- Package path: pass. -/
namespace Go.Proofs.Ytoegjnolccabjaa
open Go Go.RowKit

def Sp.far : Int := 1152921504606846976
/-- The arcs tried one by one: how long, by which, what was shortened last. -/
def Sp.pq (L : List Sp.Arc) (D Y : Nat → Int) : Nat → (Nat → Int) × (Nat → Int) × Int
  | 0 => (D, Y, -1)
  | i + 1 => if (Sp.pq L D Y i).1 (L.getD i Sp.arc0).f ≠ 1152921504606846976 ∧ (Sp.pq L D Y i).1 (L.getD i Sp.arc0).f + (L.getD i Sp.arc0).l < (Sp.pq L D Y i).1 (L.getD i Sp.arc0).t then
      (Sp.upd (Sp.pq L D Y i).1 (L.getD i Sp.arc0).t ((Sp.pq L D Y i).1 (L.getD i Sp.arc0).f + (L.getD i Sp.arc0).l), Sp.upd (Sp.pq L D Y i).2.1 (L.getD i Sp.arc0).t (i : Int), ((L.getD i Sp.arc0).t : Int))
    else Sp.pq L D Y i
/-- A row of lengths that have not come near far. -/
def Sp.Bnd (n : Nat) (K : Int) (D : Nat → Int) : Prop := ∀ v, v < n → D v = 1152921504606846976 ∨ (-K ≤ D v ∧ D v ≤ K)
theorem Sp.Bnd.pq {n : Nat} {K : Int} {L : List Sp.Arc} {D : Nat → Int} (Y : Nat → Int) (hS : Sp.Snd n L) (hK : 0 ≤ K) (hD : Sp.Bnd n K D) : ∀ i, i ≤ L.length → Sp.Bnd n (K + (i : Int) * 1099511627776) (Sp.pq L D Y i).1
  | 0, _ => fun v hv => by
    show D v = _ ∨ (_ ≤ D v ∧ D v ≤ _)
    rcases hD v hv with h | h
    · exact .inl h
    · exact .inr ⟨by have := h.1; omega, by have := h.2; omega⟩
  | i + 1, hi => fun v hv => by
    have ih := Sp.Bnd.pq Y hS hK hD i (by omega)
    obtain ⟨h1, h2, h3, h4⟩ := hS.at_ _ (Sp.arc_mem (show i < L.length by omega))
    have hv0 := ih v hv
    have hf0 := ih _ h1
    rw [Sp.pq]
    generalize Sp.pq L D Y i = q at *
    generalize L.getD i Sp.arc0 = a at *
    split
    · rename_i hc
      show Sp.upd q.1 a.t (q.1 a.f + a.l) v = _ ∨ (_ ≤ Sp.upd q.1 a.t (q.1 a.f + a.l) v ∧ Sp.upd q.1 a.t (q.1 a.f + a.l) v ≤ _)
      unfold Sp.upd
      by_cases e : v = a.t
      · rw [if_pos e]
        rcases hf0 with hf0 | hf0
        · exact absurd hf0 hc.1
        · exact .inr ⟨by omega, by omega⟩
      · rw [if_neg e]
        rcases hv0 with hv0 | hv0
        · exact .inl hv0
        · exact .inr ⟨by omega, by omega⟩
    · rcases hv0 with hv0 | hv0
      · exact .inl hv0
      · exact .inr ⟨by omega, by omega⟩
end Go.Proofs.Ytoegjnolccabjaa


/- Costs in a row: two numbers each. slices.Repeat of costs. -/
namespace Go.Proofs.Ytoegjnolccabjaa
open Go Go.RowKit

/-- Block b is a row of n numbers, two for each cost. -/
def CoAt (w : World) (b n : Nat) (z : Nat → Int) : Prop := ∃ c, w.heap[b]? = some (.cells c 82) ∧ c.size = n ∧ ∀ j, j < n → c[j]? = some (.int .i64 (z j))
theorem CoAt.lt {w : World} {b n : Nat} {z : Nat → Int} (h : CoAt w b n z) : b < w.heap.size := by
  obtain ⟨c, hc, -⟩ := h
  exact (Array.getElem?_eq_some_iff.1 hc).1
theorem CoAt.cell {w : World} {b n : Nat} {z : Nat → Int} (h : CoAt w b n z) {j : Nat} (hj : j < n) : w.cell? ⟨b, j, none⟩ = some (.int .i64 (z j)) := by
  obtain ⟨c, hc, -, hz⟩ := h
  simp only [World.cell?, hc]
  exact hz j hj
theorem CoAt.frozen {w : World} {b n : Nat} {z : Nat → Int} (h : CoAt w b n z) (j : Nat) (s : Option Nat) : w.frozen? ⟨b, j, s⟩ = false := by
  obtain ⟨c, hc, -⟩ := h
  simp only [World.frozen?, hc]
  simp
theorem CoAt.of_block {w w' : World} {b n : Nat} {z : Nat → Int} (h : CoAt w b n z) (e : w'.heap[b]? = w.heap[b]?) : CoAt w' b n z := by
  obtain ⟨c, hc, h1⟩ := h
  exact ⟨c, by rw [e]; exact hc, h1⟩
theorem CoAt.set {w : World} {b n : Nat} {z : Nat → Int} (h : CoAt w b n z) (j : Nat) (v : Int) : CoAt (w.setCell ⟨b, j, none⟩ (.int .i64 v)) b n (Sp.upd z j v) := by
  obtain ⟨c, hc, hs, hz⟩ := h
  refine ⟨c.setIfInBounds j (.int .i64 v), ?_, by simpa using hs, fun k hk => ?_⟩
  · simp only [World.setCell, Array.getElem?_modify, if_pos, hc]
    rfl
  · rw [Array.getElem?_setIfInBounds]
    by_cases hjk : j = k
    · rw [if_pos hjk, if_pos (by omega), ← hjk, Sp.upd_same]
    · rw [if_neg hjk, hz k hk, Sp.upd_other _ _ (by omega)]
theorem CoAt.set_ne {w : World} {b n : Nat} {z : Nat → Int} (h : CoAt w b n z) {b' : Nat} (hb : b ≠ b') (j : Nat) (s : Option Nat) (v : Value) : CoAt (w.setCell ⟨b', j, s⟩ v) b n z :=
  h.of_block (Below.heap_setCell _ _ _ _ hb)
theorem CoAt.below {w w' : World} {b n : Nat} {z : Nat → Int} (h : CoAt w b n z) (hb : Below w.heap.size w w') : CoAt w' b n z := h.of_block (hb.block b h.lt)
theorem CoAt.bt {p : Nat → Prop} {w w' : World} {b n : Nat} {z : Nat → Int} (h : CoAt w b n z) (hb : Bt p w w') (hp : ¬ p b) : CoAt w' b n z := h.of_block (hb.block b h.lt hp)
theorem CoAt.alloc {w : World} {b n : Nat} {z : Nat → Int} (h : CoAt w b n z) (o : Obj) : CoAt (w.alloc o) b n z := h.below ((Below.refl _ w).alloc (Nat.le_refl _) o)
theorem CoAt.drew {w : World} {b n : Nat} {z : Nat → Int} (h : CoAt w b n z) : CoAt w.drew b n z := h.of_block rfl
theorem CoAt.dn {w : World} {b n : Nat} {z : Nat → Int} (h : CoAt w b n z) (k : Nat) : CoAt (w.drewN k) b n z := h.of_block rfl
theorem CoAt.congr {w : World} {b n : Nat} {z z' : Nat → Int} (h : CoAt w b n z) (e : ∀ j, j < n → z j = z' j) : CoAt w b n z' := by
  obtain ⟨c, hc, hs, hz⟩ := h
  exact ⟨c, hc, hs, fun j hj => by rw [← e j hj]; exact hz j hj⟩
theorem CoAt.row {w : World} {b n k o : Nat} {y z : Nat → Int} (h : CoAt w b n y) (cs : List Value) (hk : cs.length = k) (hcs : ∀ j, j < k → cs[j]? = some (.int .i64 (z j))) (hfit : o + k ≤ n) (cur : Array Value) (hc : w.heap[b]? = some (.cells cur 82)) :
    CoAt (w.setRow b (cur.toList.take o ++ cs ++ cur.toList.drop (o + cs.length)).toArray) b n (fun j => if o ≤ j ∧ j < o + k then z (j - o) else y j) := by
  obtain ⟨c, hc', hs, hz⟩ := h
  rw [hc] at hc'
  injection hc' with hc'
  injection hc' with hc'
  subst hc'
  refine ⟨_, setRow_heap w b _ _ _ _ hc, by simp; omega, fun j hj => ?_⟩
  have hz' := hz j hj
  rw [← Array.getElem?_toList] at hz' ⊢
  have hl : cur.toList.length = n := by simp [hs]
  show (cur.toList.take o ++ cs ++ cur.toList.drop (o + cs.length))[j]? = _
  simp only [List.getElem?_append, List.length_append, List.length_take, hk, hl, List.getElem?_take, List.getElem?_drop]
  by_cases h1 : j < o
  · rw [if_pos (by omega), if_pos (by omega), if_pos h1, if_neg (by omega)]; exact hz'
  · by_cases h2 : j < o + k
    · rw [if_pos (by omega), if_neg (by omega), if_pos (by omega)]
      have := hcs (j - o) (by omega)
      rw [show j - min o n = j - o by omega]; exact this
    · rw [if_neg (by omega), if_neg (by omega), show o + k + (j - (min o n + k)) = j by omega]; exact hz'
theorem infoC : (Try.prog.info? 82).map (fun i => (i.zero, i.size, i.bytes)) = some (some (.agg #[.int .i64 0, .int .i64 0]), 2, 16) := by kernel_rfl
theorem infoC_parts : ∃ i0, Try.prog.info? 82 = some i0 ∧ i0.zero = some (.agg #[.int .i64 0, .int .i64 0]) ∧ i0.size = 2 ∧ i0.bytes = 16 := by
  have h := infoC
  cases hq : Try.prog.info? 82 with
  | none => rw [hq] at h; cases h
  | some i0 =>
    rw [hq] at h
    simp only [Option.map_some, Option.some.injEq, Prod.mk.injEq] at h
    exact ⟨i0, rfl, h.1, h.2.1, h.2.2⟩
theorem run_copyC (w : World) (g o dLen dCap : Nat) (sa : Addr) (sLen sCap : Nat) (cur : Array Value) (cs : List Value)
    (hg : w.heap[g]? = some (.cells cur 82)) (hn : cs.length = Nat.min sLen dLen * 2)
    (hsrc : ∀ j v, cs[j]? = some v → w.cell? (sa.add j) = some v) (hfit : o + cs.length ≤ cur.size) (h1 : ∀ v ∈ cs, v.oneCell' = true) :
    (Builtin.copy_ #[79, 79] 3 #[.slice (some ⟨g, o, none⟩) dLen dCap, .slice (some sa) sLen sCap]).run Try.prog w =
      .ok (.int .i64 ((Nat.min sLen dLen : Nat) : Int)) (w.setRow g (cur.toList.take o ++ cs ++ cur.toList.drop (o + cs.length)).toArray) := by
  have hl := run_loadCells_list (P := Try.prog) w sa cs hsrc
  have hst := run_storeCells_at Try.prog g o 82 cs 0 cur w hg (by simpa using hfit) h1
  obtain ⟨i, hq, -, hi, -⟩ := infoC_parts
  rw [hn] at hl
  simp [Builtin.copy_, run_underlying Try.underlying79, Builtin.lenOf, Builtin.firstCells, sizeOf, typeInfo, hq, hi, hl, hst, goInt]
/-- So many costs, the others nothing. -/
def Sp.repC (x0 x1 : Int) (m : Nat) : Nat → Int := fun j => if j < m * 2 then (if j % 2 = 0 then x0 else x1) else 0
theorem run_copy_repC (w : World) (B g m N : Nat) (x0 x1 : Int) (hm : m < N) (hB : B ≤ g) (h : CoAt w g (N * 2) (Sp.repC x0 x1 m)) :
    ∃ w4, (Builtin.copy_ #[79, 79] 3 #[.slice (some ⟨g, m * 2, none⟩) (N - m) (N - m), .slice (some ⟨g, 0, none⟩) m N]).run Try.prog w = .ok (.int .i64 ((min m (N - m) : Nat) : Int)) w4 ∧ CoAt w4 g (N * 2) (Sp.repC x0 x1 (m + min m (N - m))) ∧ Below B w w4 := by
  obtain ⟨cur, hc, hs, hz⟩ := id h
  have hmin : Nat.min m (N - m) = min m (N - m) := rfl
  have hcl : ((List.range (min m (N - m) * 2)).map fun j => Value.int .i64 (Sp.repC x0 x1 m j)).length = min m (N - m) * 2 := by simp
  have h1 := run_copyC w g (m * 2) (N - m) (N - m) ⟨g, 0, none⟩ m N cur ((List.range (min m (N - m) * 2)).map fun j => .int .i64 (Sp.repC x0 x1 m j)) hc hcl
    (fun j v hj => by
      obtain ⟨hj1, hj2⟩ := List.getElem?_eq_some_iff.1 hj
      rw [hcl] at hj1
      rw [← hj2]
      simp only [List.getElem_map, List.getElem_range, Addr.add_lit, Nat.zero_add]
      exact h.cell (by omega)) (by rw [hcl, hs]; omega) (fun v hv => by obtain ⟨j, -, rfl⟩ := List.mem_map.1 hv; rfl)
  have h2 := h.row (k := min m (N - m) * 2) (o := m * 2) (z := Sp.repC x0 x1 m) ((List.range (min m (N - m) * 2)).map fun j => .int .i64 (Sp.repC x0 x1 m j)) hcl (fun j hj => by rw [List.getElem?_map, List.getElem?_range hj]; rfl) (by omega) cur hc
  refine ⟨_, h1, h2.congr fun j hj => ?_, below_setRow (Below.refl _ _) hB _⟩
  have hk : min m (N - m) ≤ m := Nat.min_le_left _ _
  generalize min m (N - m) = k at *
  unfold Sp.repC
  show (if m * 2 ≤ j ∧ j < m * 2 + k * 2 then (if j - m * 2 < m * 2 then (if (j - m * 2) % 2 = 0 then x0 else x1) else 0) else (if j < m * 2 then (if j % 2 = 0 then x0 else x1) else 0)) = if j < (m + k) * 2 then (if j % 2 = 0 then x0 else x1) else 0
  by_cases e1 : m * 2 ≤ j ∧ j < m * 2 + k * 2
  · have e2 : (j - m * 2) % 2 = j % 2 := by omega
    rw [if_pos e1, if_pos (by omega : j - m * 2 < m * 2), if_pos (by omega : j < (m + k) * 2), e2]
  · rw [if_neg e1]
    by_cases e2 : j < m * 2
    · rw [if_pos e2, if_pos (by omega : j < (m + k) * 2)]
    · rw [if_neg e2, if_neg (by omega)]
theorem made_same (z : Array Value) (v : Value) (h0 : 0 < z.size) (hz : ∀ i, i < z.size → z[i]! = v) (n j : Nat) (hj : j < n) : (madeCells z n)[j]? = some v := by
  unfold madeCells
  rw [Array.getElem?_map, Array.getElem?_range, if_pos hj, Option.map_some, hz _ (Nat.mod_lt _ h0)]
set_option maxRecDepth 100000 in
set_option maxHeartbeats 2000000 in
theorem repeatC_any (x0 x1 : Int) (xb N : Nat) (w : World) (hN1 : 1 ≤ N) (hN : N ≤ 60) (hc0 : w.cell? ⟨xb, 0, none⟩ = some (.int .i64 x0)) (hc1 : w.cell? ⟨xb, 1, none⟩ = some (.int .i64 x1)) (hxb : xb < w.heap.size) :
    Calls Try.prog 67 #[.slice (some ⟨xb, 0, none⟩) 1 1, .int .i64 (N : Int)] w fun e w' => e = .returned (.slice (some ⟨w.heap.size, 0, none⟩) N N) ∧ CoAt w' w.heap.size (N * 2) (Sp.repC x0 x1 N) ∧ Below w.heap.size w w' := by
  obtain ⟨iS, hiS, hS0, hS1, hS2⟩ := infoC_parts
  have HC := hide (mul_any N w hN)
  have Hc := hide (And.intro hc0 hc1)
  clear hc0 hc1
  have h5 : IntKind.u64.wrap (N : Int) = (N : Int) := by simp [IntKind.wrap, IntKind.bits]; omega
  go_enter Try.func67, Try.ntmps67
  go_wp2_with fail
  go_at_call 82
  refine (unhide HC).mono ?_
  clear HC
  rintro e w' ⟨rfl, rfl⟩
  go_wp2_with (at_make; refine wpList_make_full _ rfl _ _ 79 rfl w'.heap.size 82 iS (.agg #[.int .i64 0, .int .i64 0]) 2 Try.underlying79 hiS hS0 hS1 .i64 .i64 _ _ N rfl rfl rfl rfl (by rw [hS2]; omega) (by unfold maxLen; omega) (Nat.le_refl _) ?_)
  intro w3 hown3 hg3
  have hb3 : Below w'.heap.size w' w3 := (Below.refl _ w').grown hg3 (Nat.le_refl _) (by simp)
  have hz3 : CoAt w3 w'.heap.size (N * 2) (Sp.repC x0 x1 0) := by
    rcases hown3.2 with ⟨-, h0⟩ | ⟨g, cap, cur, e, -, hc, h1, -, h3, h4⟩
    · omega
    · injection e with e1 _ e2
      injection e1 with e1
      injection e1 with e1
      subst e1 e2
      refine ⟨cur, hc, by omega, fun j hj => ?_⟩
      have hlen : cur.toList.length ≤ N * 2 := by simp [h3]
      rw [List.take_of_length_le hlen] at h4
      rw [← Array.getElem?_toList, h4, Array.getElem?_toList]
      show (madeCells #[.int .i64 0, .int .i64 0] (N * 2))[j]? = _
      rw [made_same #[.int .i64 0, .int .i64 0] (.int .i64 0) (by decide) (fun i hi => by rcases i with _ | _ | i <;> first | rfl | (simp at hi; omega)) _ _ hj]
      simp [Sp.repC]
  have hcur := hz3
  obtain ⟨cur, hcu, hsu, -⟩ := hcur
  have h1 := run_copyC w3 w'.heap.size 0 N N ⟨xb, 0, none⟩ 1 1 cur [.int .i64 x0, .int .i64 x1] hcu (by simp [show Nat.min 1 N = 1 from Nat.min_eq_left hN1]) (fun j v hj => by
    rcases j with _ | _ | j
    · simp at hj; subst hj; rw [Addr.add_lit]; exact (hb3.cell (by exact hxb)).trans (unhide Hc).1
    · simp at hj; subst hj; rw [Addr.add_lit]; exact (hb3.cell (by exact hxb)).trans (unhide Hc).2
    · simp at hj) (by simp; omega) (by simp [Value.oneCell'])
  have h2 := hz3.row (k := 2) (o := 0) (z := fun j => if j = 0 then x0 else x1) [.int .i64 x0, .int .i64 x1] rfl (fun j hj => by
    rcases j with _ | _ | j
    · rfl
    · rfl
    · omega) (by omega) cur hcu
  rw [show Nat.min 1 N = 1 from Nat.min_eq_left hN1] at h1
  have hB4 := below_setRow hb3 (Nat.le_refl _) (cur.toList.take 0 ++ [Value.int .i64 x0, .int .i64 x1] ++ cur.toList.drop (0 + [Value.int .i64 x0, .int .i64 x1].length)).toArray
  generalize w3.setRow w'.heap.size (cur.toList.take 0 ++ [Value.int .i64 x0, .int .i64 x1] ++ cur.toList.drop (0 + [Value.int .i64 x0, .int .i64 x1].length)).toArray = w4 at *
  have HQ4 : Hid (CoAt w4 w'.heap.size (N * 2) (Sp.repC x0 x1 1) ∧ Below w'.heap.size w' w4) := hide ⟨h2.congr fun j hj => by
    unfold Sp.repC
    rcases j with _ | _ | j
    · simp
    · simp
    · simp only [Nat.zero_le, true_and, Nat.zero_add]
      rw [if_neg (by omega), if_neg (by omega), if_neg (by omega)], hB4⟩
  clear h2 hB4 hz3 hb3 hown3 hg3 hcu hsu Hc
  go_wp2
  go_loopg [8] N (fun g i wr => ∃ m : Nat, 1 ≤ m ∧ m ≤ N ∧ N - m ≤ g ∧ i = .int .i64 (m : Int) ∧ Hid (CoAt wr w'.heap.size (N * 2) (Sp.repC x0 x1 m) ∧ Below w'.heap.size w' wr))
  case atStart => exact ⟨1, by omega, by omega, by omega, rfl, HQ4⟩
  case round =>
    clear HQ4 h1
    obtain ⟨m, hm1, hmN, hmg, rfl, HI⟩ := hrel
    by_cases hlt : m < N
    · have hltI : (m : Int) < (N : Int) := by omega
      obtain ⟨c, hc⟩ : ∃ c, c = min m (N - m) := ⟨_, rfl⟩
      obtain ⟨w5, hrun, hown4, hb4⟩ := run_copy_repC wr.drew w'.heap.size w'.heap.size m N x0 x1 hlt (Nat.le_refl _) (unhide HI).1.drew
      rw [← hc] at hrun hown4
      have HO4 : Hid (CoAt w5 w'.heap.size (N * 2) (Sp.repC x0 x1 (m + c)) ∧ Below w'.heap.size w' w5) := hide ⟨hown4, (unhide HI).2.drew.trans hb4⟩
      have Hc := hide hc
      have hne1 : ¬ N = m := by omega
      have hcb : c ≤ N - m := by omega
      have hc1 : 1 ≤ c := by omega
      clear hown4 hb4 hc
      go_wp2
      go_region
      go_wp2
      go_roundg (N - (m + c))
      case rel => exact ⟨m + c, by omega, by omega, by omega, by go_num, HO4⟩
      case measure => omega
    · obtain rfl : m = N := by omega
      go_wp2
      go_ret
      exact ⟨rfl, (unhide HI).1, (unhide HI).2⟩
end Go.Proofs.Ytoegjnolccabjaa


