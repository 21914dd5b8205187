/- What the proof needs, part 11. -/
import Derived.Test.YtoegjnolccabjaaL10
/- Package dual: Split. -/
namespace Go.Proofs.Ytoegjnolccabjaa
open Go Go.RowKit

/-- The row of the faces of a face that was split. -/
def Sp.splitL (q : Sp.Net) (f d0 a jb : Nat) : List Int := Sp.splitAt (fun j => itf (Sp.fn (Sp.behindL q.next)) d0 (a + j)) ((max (Sp.faces2 q).2 1 : Nat) : Int) (f : Int) jb (Sp.faces2 q).1 (Sp.per (Sp.behindL q.next) d0)
set_option maxRecDepth 100000 in
set_option maxHeartbeats 4000000 in
theorem splitNone_any (q : Sp.Net) (v tv nv cv : Value) (s t : Int) (w : World) (hv : NetI w v q tv nv cv) (hq : Sp.LinkQ q) (hc : Sp.checkI q = 0) (hn0 : -9223372036854775808 ≤ q.n) (hn1 : q.n ≤ 9223372036854775807) (hs : (Sp.shared q s t).2 = false) :
    Calls Try.prog 38 #[v, .int .i64 s, .int .i64 t] w fun e w' => e = .returned (.tuple #[.slice none 0 0, .int .i64 0, .int .i64 0, .int .i64 0, .bool false]) ∧ Below w.heap.size w w' := by
  have hv' := hv
  obtain ⟨rfl, h1, h2, h3⟩ := hv
  obtain ⟨ta, tc, rfl, htc, htm⟩ := h1.form
  obtain ⟨na, nc, rfl, -, -⟩ := h2.form
  obtain ⟨ca, cc, rfl, -, -⟩ := h3.form
  clear h1 h2 h3
  obtain ⟨W1, hW1⟩ : ∃ W1, W1 = w.alloc (.cells #[.int .i64 q.n, .slice ta q.tail.length tc, .slice na q.next.length nc, .slice ca q.cap.length cc] 25) := ⟨_, rfl⟩
  have HBX := hide (box_new w q.n (.slice ta q.tail.length tc) (.slice na q.next.length nc) (.slice ca q.cap.length cc))
  rw [← hW1] at HBX
  have hb1 : Below w.heap.size w W1 := by rw [hW1]; exact (Below.refl _ w).alloc (Nat.le_refl _) _
  have hs1 : W1.heap.size = w.heap.size + 1 := by rw [hW1]; simp
  have HC := hide (shared_any q _ _ _ _ s t W1 (hv'.below hb1) hq hc hn0 hn1)
  rw [hs] at HC
  generalize (Sp.shared q s t).1 = R at *
  have HB : Hid (∀ w', Below W1.heap.size W1 w' → Below w.heap.size w w') := hide fun w' hb => hb1.trans (hb.mono (by omega))
  obtain ⟨x0, x1, x2, x3, -⟩ := unhide HBX W1 (Below.refl _ _)
  obtain ⟨P, hP⟩ : ∃ P : Ending → World → Prop, P = fun e w' => e = .returned (.tuple #[.slice none 0 0, .int .i64 0, .int .i64 0, .int .i64 0, .bool false]) ∧ Below w.heap.size w w' := ⟨_, rfl⟩
  rw [← hP]
  have HP := hide hP
  clear hv' hq hc hs hb1 hs1 hP
  subst hW1
  go_enter Try.func38, Try.ntmps38
  go_wp2_with fail
  go_at_call 45
  refine (unhide HC).mono ?_
  rintro e w2 ⟨rfl, hb2⟩
  have HB2 := hide (unhide HB _ hb2)
  clear hb2 x0 x1 x2 x3 HC
  go_wp2
  refine bodyPost_ret (v := .tuple #[.slice none 0 0, .int .i64 0, .int .i64 0, .int .i64 0, .bool false]) (by simp [results, Try.results38, go_sem]) rfl ?_
  rw [unhide HP]
  exact ⟨by rfl, unhide HB2⟩
set_option maxRecDepth 100000 in
set_option maxHeartbeats 4000000 in
theorem dsplit_any (q : Sp.Net) (v tv nv cv : Value) (s t : Int) (f d0 a jb : Nat) (w : World) (hv : NetI w v q tv nv cv) (hq : Sp.LinkQ q) (hw : Sp.walkB q = true) (hc : Sp.checkI q = 0) (hn0 : -9223372036854775808 ≤ q.n) (hn1 : q.n ≤ 9223372036854775807) (hs : Sp.SplitQ q s t f d0 a jb) :
    Calls Try.prog 38 #[v, .int .i64 s, .int .i64 t] w fun e w' => ∃ O, e = .returned (.tuple #[.slice (some ⟨O, 0, none⟩) q.tail.length q.tail.length, .int .i64 (((max (Sp.faces2 q).2 1 : Nat) : Int) + 1), .int .i64 (f : Int), .int .i64 ((max (Sp.faces2 q).2 1 : Nat) : Int), .bool true]) ∧ OwnI w' w.heap.size (.slice (some ⟨O, 0, none⟩) q.tail.length q.tail.length) (Sp.splitL q f d0 a jb) ∧ Below w.heap.size w w' := by
  have hv' := hv
  obtain ⟨rfl, h1, h2, h3⟩ := hv
  obtain ⟨ta, tc, rfl, htc, htm, HTa⟩ := h1.allG
  obtain ⟨na, nc, rfl, -, -⟩ := h2.form
  obtain ⟨ca, cc, rfl, -, -⟩ := h3.form
  clear h1 h2 h3
  have hbm := hq.pm.behind (by rw [hq.nx]; exact hq.ev)
  have hlb : (Sp.behindL q.next).length = q.tail.length := by rw [Sp.behindL_len, hq.nx]
  have hdb : d0 < (Sp.behindL q.next).length := by rw [hlb]; exact hs.d0l
  have hp60 : Sp.per (Sp.behindL q.next) d0 ≤ 60 := by have := (hbm.per hdb).2.1; rw [hlb] at this; have := hq.le; omega
  have hp1 : 1 ≤ Sp.per (Sp.behindL q.next) d0 := (hbm.per hdb).1
  obtain ⟨W1, hW1⟩ : ∃ W1, W1 = w.alloc (.cells #[.int .i64 q.n, .slice ta q.tail.length tc, .slice na q.next.length nc, .slice ca q.cap.length cc] 25) := ⟨_, rfl⟩
  have HBX := hide (box_new w q.n (.slice ta q.tail.length tc) (.slice na q.next.length nc) (.slice ca q.cap.length cc))
  rw [← hW1] at HBX
  have hb1 : Below w.heap.size w W1 := by rw [hW1]; exact (Below.refl _ w).alloc (Nat.le_refl _) _
  have hs1 : W1.heap.size = w.heap.size + 1 := by rw [hW1]; simp
  have HW : Hid (∀ w', Below (w.heap.size + 1) W1 w' → Below w.heap.size w w') := hide fun w' hb => hb1.trans (hb.mono (by omega))
  have HV : Hid (∀ w', Below (w.heap.size + 1) W1 w' → NetI w' (.agg #[.int .i64 q.n, .slice ta q.tail.length tc, .slice na q.next.length nc, .slice ca q.cap.length cc]) q (.slice ta q.tail.length tc) (.slice na q.next.length nc) (.slice ca q.cap.length cc)) := hide fun w' hb => hv'.below (unhide HW _ hb)
  have hbr : Below (w.heap.size + 1) W1 W1 := Below.refl _ _
  have HC := hide (shared_any q _ _ _ _ s t W1 (unhide HV W1 hbr) hq hc hn0 hn1)
  rw [hs.sh] at HC
  have HMo := hide (fun w' (hb : Below (w.heap.size + 1) W1 w') => meshOf_any q _ _ _ _ w' (unhide HV w' hb) hq.nx hq.le hq.ev hq.pm)
  have HMr := hide (fun w' O (h : MeshI w' (.agg #[.int .i64 q.n, .slice ta q.tail.length tc, .slice na q.next.length nc, .slice ca q.cap.length cc, .slice (some ⟨O, 0, none⟩) q.tail.length q.tail.length, .int .i64 ((max (Sp.faces2 q).2 1 : Nat) : Int)]) q (Sp.faces2 q).1 (max (Sp.faces2 q).2 1) (.slice ta q.tail.length tc) (.slice na q.next.length nc) (.slice ca q.cap.length cc) (.slice (some ⟨O, 0, none⟩) q.tail.length q.tail.length)) => mround_any q _ O _ _ _ _ s t f d0 a jb w' h hq hw hs)
  have HFl := hide (Sp.faces2_len q)
  have hK60 : max (Sp.faces2 q).2 1 ≤ 1000 := by have := Sp.faces2_le q; have := hq.le; omega
  have HSl : Hid (Sp.splitL q f d0 a jb = Sp.splitAt (fun j => itf (Sp.fn (Sp.behindL q.next)) d0 (a + j)) ((max (Sp.faces2 q).2 1 : Nat) : Int) (f : Int) jb (Sp.faces2 q).1 (Sp.per (Sp.behindL q.next) d0)) := hide rfl
  have HG : Hid (∀ j, j < Sp.per (Sp.behindL q.next) d0 → (Sp.rounds (Sp.behindL q.next) (itf (Sp.fn (Sp.behindL q.next)) d0 a : Nat) (Sp.per (Sp.behindL q.next) d0)).getD j 0 = ((itf (Sp.fn (Sp.behindL q.next)) d0 (a + j) : Nat) : Int) ∧ itf (Sp.fn (Sp.behindL q.next)) d0 (a + j) < q.tail.length) := hide fun j hj => by
    refine ⟨?_, by have := hbm.fnP.it hdb (a + j); rw [hlb] at this; exact this⟩
    rw [Sp.getD_eq _ _ (by rw [Sp.rounds_len]; exact hj)]
    simp only [Sp.rounds, List.getElem_map, List.getElem_range]
    rw [hbm.nth_it (hbm.fnP.it hdb a) j, ← itf_add]
  have HLl : Hid ((Sp.rounds (Sp.behindL q.next) (itf (Sp.fn (Sp.behindL q.next)) d0 a : Nat) (Sp.per (Sp.behindL q.next) d0)).length = Sp.per (Sp.behindL q.next) d0) := hide (Sp.rounds_len _ _ _)
  have HBt : Hid (q.tail.getD (itf (Sp.fn (Sp.behindL q.next)) d0 (a + jb)) 0 = t) := hide hs.bt
  have HBm : Hid (∀ j, j < jb → q.tail.getD (itf (Sp.fn (Sp.behindL q.next)) d0 (a + j)) 0 ≠ t) := hide hs.bm
  have hjp := hs.bl
  generalize Sp.splitL q f d0 a jb = R at *
  generalize Sp.rounds (Sp.behindL q.next) (itf (Sp.fn (Sp.behindL q.next)) d0 a : Nat) (Sp.per (Sp.behindL q.next) d0) = LB at *
  generalize Sp.per (Sp.behindL q.next) d0 = p at *
  obtain ⟨x, hx⟩ : ∃ x : Nat → Nat, x = fun j => itf (Sp.fn (Sp.behindL q.next)) d0 (a + j) := ⟨_, rfl⟩
  have hx' : ∀ j, itf (Sp.fn (Sp.behindL q.next)) d0 (a + j) = x j := fun j => by rw [hx]
  simp only [hx'] at HG HBt HBm HSl
  clear hx hx'
  generalize (Sp.faces2 q).1 = F at *
  generalize max (Sp.faces2 q).2 1 = K at *
  have HST : Hid (∀ j, Sp.splitAt x (K : Int) (f : Int) jb F (j + 1) = (Sp.splitAt x (K : Int) (f : Int) jb F j).set (x j) (if jb ≤ j then (K : Int) else (f : Int))) := hide fun j => rfl
  have HSL := hide (fun j => Sp.splitAt_len x (K : Int) (f : Int) jb F j)
  have HS0 : Hid (Sp.splitAt x (K : Int) (f : Int) jb F 0 = F) := hide rfl
  generalize Sp.splitAt x (K : Int) (f : Int) jb F = sp at *
  obtain ⟨P, hP⟩ : ∃ P : Ending → World → Prop, P = fun e w' => ∃ O, e = .returned (.tuple #[.slice (some ⟨O, 0, none⟩) q.tail.length q.tail.length, .int .i64 ((K : Int) + 1), .int .i64 (f : Int), .int .i64 (K : Int), .bool true]) ∧ OwnI w' w.heap.size (.slice (some ⟨O, 0, none⟩) q.tail.length q.tail.length) R ∧ Below w.heap.size w w' := ⟨_, rfl⟩
  rw [← hP]
  have HP := hide hP
  have Hs1 := hide hs1
  obtain ⟨x0, x1, x2, x3, -⟩ := unhide HBX W1 hbr
  clear hv' hP hs1 hb1 hq hc hs hw hbm hlb hdb
  subst hW1
  go_enter Try.func38, Try.ntmps38
  go_wp2_with fail
  go_at_call 45
  refine (unhide HC).mono ?_
  clear HC x0 x1 x2 x3
  generalize w.alloc (.cells #[.int .i64 q.n, .slice ta q.tail.length tc, .slice na q.next.length nc, .slice ca q.cap.length cc] 25) = W1 at *
  rintro e w2 ⟨rfl, hb2⟩
  rw [unhide Hs1] at hb2
  obtain ⟨x0, x1, x2, x3, hsz2⟩ := unhide HBX w2 hb2
  go_wp2_with fail
  go_at_call 46
  refine (unhide HMo w2 hb2).mono ?_
  clear HMo x0 x1 x2 x3
  rintro e w4 ⟨O, rfl, hO, hb4⟩
  have hb4' : Below (w.heap.size + 1) W1 w4 := hb2.trans (hb4.mono hsz2)
  have hs4 : w.heap.size + 1 ≤ w4.heap.size := Nat.le_trans hsz2 hb4.size
  have hOge : w.heap.size + 1 ≤ O := Nat.le_trans hsz2 (hO.lt O rfl).1
  have hOlt : O < w4.heap.size := (hO.lt O rfl).2
  obtain ⟨W5, hW5⟩ : ∃ W5, W5 = w4.alloc (.cells #[.int .i64 q.n, .slice ta q.tail.length tc, .slice na q.next.length nc, .slice ca q.cap.length cc, .slice (some ⟨O, 0, none⟩) q.tail.length q.tail.length, .int .i64 (K : Int)] 74) := ⟨_, rfl⟩
  have hb45 : Below w4.heap.size w4 W5 := by rw [hW5]; exact (Below.refl _ w4).alloc (Nat.le_refl _) _
  have hs5 : W5.heap.size = w4.heap.size + 1 := by rw [hW5]; simp
  have HS : Hid (∀ w', Below W5.heap.size W5 w' → w'.cell? ⟨w4.heap.size, 0, none⟩ = some (.int .i64 q.n) ∧ w'.cell? ⟨w4.heap.size, 1, none⟩ = some (.slice ta q.tail.length tc) ∧ w'.cell? ⟨w4.heap.size, 2, none⟩ = some (.slice na q.next.length nc) ∧ w'.cell? ⟨w4.heap.size, 3, none⟩ = some (.slice ca q.cap.length cc) ∧ w'.cell? ⟨w4.heap.size, 4, none⟩ = some (.slice (some ⟨O, 0, none⟩) q.tail.length q.tail.length) ∧ w'.cell? ⟨w4.heap.size, 5, none⟩ = some (.int .i64 (K : Int))) := hide fun w' hb => by
    rw [hs5] at hb
    rw [hW5] at hb
    obtain ⟨e0, e1, e2, e3, e4, e5, -⟩ := mesh_new w4 q.n _ _ _ _ _ w' hb
    exact ⟨e0, e1, e2, e3, e4, e5⟩
  have HBl : Hid (∀ w', Below W5.heap.size W5 w' → Below (w.heap.size + 1) W1 w') := hide fun w' hb => (hb4'.trans (hb45.mono hs4)).trans (hb.mono (by omega))
  have HO5 : Hid (∀ w', Below W5.heap.size W5 w' → OwnI w' w.heap.size (.slice (some ⟨O, 0, none⟩) q.tail.length q.tail.length) F) := hide fun w' hb => own_base (own_below (own_below hO hb45) hb) (by omega)
  have HMI : Hid (∀ w', Below W5.heap.size W5 w' → MeshI w' (.agg #[.int .i64 q.n, .slice ta q.tail.length tc, .slice na q.next.length nc, .slice ca q.cap.length cc, .slice (some ⟨O, 0, none⟩) q.tail.length q.tail.length, .int .i64 (K : Int)]) q F K (.slice ta q.tail.length tc) (.slice na q.next.length nc) (.slice ca q.cap.length cc) (.slice (some ⟨O, 0, none⟩) q.tail.length q.tail.length)) := hide fun w' hb => by
    have h := unhide HV w' (unhide HBl w' hb)
    exact ⟨rfl, h.tail, h.next, h.cap, (unhide HO5 w' hb).ints⟩
  have HRd := hide (fun w' (hb : Below W5.heap.size W5 w') => unhide HMr w' O (unhide HMI w' hb))
  have HW5 := hide hW5
  have hb5 : Below W5.heap.size W5 W5 := Below.refl _ _
  have Hs5 := hide hs5
  have HO1 := hide (And.intro hOge hOlt)
  have HM4 : Hid (w4.heap.size < W5.heap.size) := hide (by omega)
  clear hW5 hs5 hb45 hO hb4 hb2 hb4' hs4 hsz2 HMr HMI hOge hOlt hbr
  obtain ⟨x0, x1, x2, x3, x4, x5⟩ := unhide HS W5 hb5
  go_upto_region 7 with fail
  rw [← unhide HW5]
  go_wp2_with fail
  go_at_call 47
  refine (unhide HRd W5 hb5).mono ?_
  clear x0 x1 x2 x3 x4 x5 HRd
  rintro e w7 ⟨lv, rfl, hl7, hb7⟩
  obtain ⟨lb, lo, lc, hve, hlg, -, -, hop⟩ := mine_open hl7 (by rw [unhide HLl]; omega)
  rw [unhide HLl] at hve
  subst hve
  have hcl : ∀ j, j < p → w7.cell? ⟨lb, lo + j, none⟩ = some (.int .i64 ((x j : Nat) : Int)) := fun j hj => by
    have h := hl7.ints.cellD j (by rw [unhide HLl]; exact hj)
    rw [(unhide HG j hj).1] at h
    exact h
  have hlO : lb ≠ O := by have := (unhide HO1).2; have := unhide HM4; omega
  have HCL : Hid (∀ wr j, ButRow O w7 wr → j < p → wr.cell? ⟨lb, lo + j, none⟩ = some (.int .i64 ((x j : Nat) : Int))) := hide fun wr j h hj => (h.cell (by exact hlO)).trans (hcl j hj)
  have HX : Hid (∀ wr, ButRow O w7 wr → wr.cell? ⟨w.heap.size, 1, none⟩ = some (.slice ta q.tail.length tc) ∧ wr.cell? ⟨w4.heap.size, 4, none⟩ = some (.slice (some ⟨O, 0, none⟩) q.tail.length q.tail.length) ∧ wr.cell? ⟨w4.heap.size, 5, none⟩ = some (.int .i64 (K : Int))) := hide fun wr h => by
    have o1 := (unhide HO1).1
    have o2 := (unhide HO1).2
    exact ⟨(h.cell (by show w.heap.size ≠ O; omega)).trans (unhide HBX w7 (unhide HBl w7 hb7)).2.1, (h.cell (by show w4.heap.size ≠ O; omega)).trans (unhide HS w7 hb7).2.2.2.2.1, (h.cell (by show w4.heap.size ≠ O; omega)).trans (unhide HS w7 hb7).2.2.2.2.2⟩
  have HTl : Hid (∀ wr k, ButRow O w7 wr → k < q.tail.length → ∃ tb to', ta = some ⟨tb, to', none⟩ ∧ wr.cell? ⟨tb, to' + k, none⟩ = some (.int .i64 (q.tail.getD k 0))) := hide fun wr k h hk => by
    obtain ⟨tb, to', e1, e2, e3⟩ := unhide HTa k hk
    have o1 := (unhide HO1).1
    exact ⟨tb, to', e1, (h.cell (by show tb ≠ O; omega)).trans (e3 w7 (unhide HW _ (unhide HBl w7 hb7)))⟩
  have HI0 : Hid (OwnI w7 w.heap.size (.slice (some ⟨O, 0, none⟩) q.tail.length q.tail.length) (sp 0) ∧ ButRow O w7 w7 ∧ Below w.heap.size w w7) := hide ⟨by rw [unhide HS0]; exact unhide HO5 w7 hb7, ButRow.refl _ _, unhide HW _ (unhide HBl w7 hb7)⟩
  have HOw : Hid (w.heap.size ≤ O) := hide (by have := (unhide HO1).1; omega)
  clear hl7 hb7 hop hcl hlg HTa HO5 HS HBl
  go_wp2
  go_loopg [12, 34] p (fun g s12 s34 wr => ∃ j : Nat, j + g = p ∧ s34 = .int .i64 (j : Int) ∧ s12 = .int .i64 (if jb < j then (K : Int) else (f : Int)) ∧ Hid (OwnI wr w.heap.size (.slice (some ⟨O, 0, none⟩) q.tail.length q.tail.length) (sp j) ∧ ButRow O w7 wr ∧ Below w.heap.size w wr))
  case atStart => exact ⟨0, by omega, rfl, by rw [if_neg (by omega)], HI0⟩
  case round =>
    clear HI0
    obtain ⟨j, hjg, rfl, rfl, HI⟩ := hrel
    obtain ⟨y1, y4, y5⟩ := unhide HX wr (unhide HI).2.1
    cases gk with
    | zero =>
      obtain rfl : j = p := by omega
      have HB := hide (unhide HI).2.2
      have HO := hide (unhide HI).1
      have hkw : IntKind.i64.wrap ((K : Int) + 1) = (K : Int) + 1 := by rw [IntKind.wrap_i64]; omega
      clear HI
      go_wp2
      go_quiet (fail)
      go_wp2
      refine bodyPost_ret (v := .tuple #[.slice (some ⟨O, 0, none⟩) q.tail.length q.tail.length, .int .i64 ((K : Int) + 1), .int .i64 (f : Int), .int .i64 (K : Int), .bool true]) (by simp [results, Try.results38, go_sem]) rfl ?_
      rw [unhide HP, unhide HSl]
      exact ⟨O, rfl, own_below (unhide HO) (below_dn (Below.refl _ _) _), below_dn (unhide HB) _⟩
    | succ g' =>
      have hlt : j < p := by omega
      have hltI : (j : Int) < (p : Int) := by omega
      have c1 := unhide HCL wr j (unhide HI).2.1 hlt
      have hxl := (unhide HG j hlt).2
      obtain ⟨tb, t0, rfl, c2⟩ := unhide HTl wr (x j) (unhide HI).2.1 hxl
      have c3 := own_cell (unhide HI).1 (x j) (by rw [unhide HSL j, unhide HFl]; exact hxl)
      have f3 := own_frozen (unhide HI).1 (x j)
      have hxI : ((x j : Nat) : Int) < (q.tail.length : Int) := by omega
      have HN : Hid (∀ v : Int, v = (if jb ≤ j then (K : Int) else (f : Int)) → OwnI (wr.setCell ⟨O, x j, none⟩ (.int .i64 v)) w.heap.size (.slice (some ⟨O, 0, none⟩) q.tail.length q.tail.length) (sp (j + 1)) ∧ ButRow O w7 (wr.setCell ⟨O, x j, none⟩ (.int .i64 v)) ∧ Below w.heap.size w (wr.setCell ⟨O, x j, none⟩ (.int .i64 v))) := hide fun v hv => by
        refine ⟨?_, (unhide HI).2.1.setCell _ _, (unhide HI).2.2.setCell (by exact unhide HOw) _⟩
        rw [unhide HST j, ← hv]
        exact own_setCell (unhide HI).1 (x j) v
      have hcase : jb < j ∨ jb = j ∨ j < jb := by omega
      generalize (sp j)[x j]'_ = z at *
      clear HI
      rcases hcase with h | h | h
      · rw [if_pos h]
        have HN2 := hide (unhide HN (K : Int) (by rw [if_pos (by omega)]))
        have hE : (if jb < j + 1 then (K : Int) else (f : Int)) = K := if_pos (by omega)
        generalize q.tail.getD (x j) 0 = tz at *
        by_cases ht : tz = t
        · subst ht
          have e1 : (tz == tz) = true := beq_self_eq_true _
          go_wp2
          go_roundg g'
          case rel => exact ⟨j + 1, by omega, by go_num, by rw [hE], HN2⟩
          case measure => omega
        · have e1 : (tz == t) = false := beq_eq_false_iff_ne.2 ht
          go_wp2
          go_roundg g'
          case rel => exact ⟨j + 1, by omega, by go_num, by rw [hE], HN2⟩
          case measure => omega
      · subst h
        rw [unhide HBt] at c2
        rw [if_neg (by omega)]
        have HN2 := hide (unhide HN (K : Int) (by rw [if_pos (by omega)]))
        have hE : (if jb < jb + 1 then (K : Int) else (f : Int)) = K := if_pos (by omega)
        have e1 : (t == t) = true := beq_self_eq_true _
        go_wp2
        go_roundg g'
        case rel => exact ⟨jb + 1, by omega, by go_num, by rw [hE], HN2⟩
        case measure => omega
      · rw [if_neg (by omega)]
        have HN2 := hide (unhide HN (f : Int) (by rw [if_neg (by omega)]))
        have hE : (if jb < j + 1 then (K : Int) else (f : Int)) = f := if_neg (by omega)
        have ht := unhide HBm j h
        generalize q.tail.getD (x j) 0 = tz at *
        have e1 : (tz == t) = false := beq_eq_false_iff_ne.2 ht
        go_wp2
        go_roundg g'
        case rel => exact ⟨j + 1, by omega, by go_num, by rw [hE], HN2⟩
        case measure => omega
end Go.Proofs.Ytoegjnolccabjaa


/- The reference's Split. -/
namespace Go.Proofs.Ytoegjnolccabjaa
open Go Go.RowKit

theorem ButRow.dn {g : Nat} {w w' : World} (h : ButRow g w w') (n : Nat) : ButRow g w (w'.drewN n) := ⟨h.os, h.tape, h.output, h.size, h.block⟩
set_option maxRecDepth 100000 in
set_option maxHeartbeats 2000000 in
theorem first_any (q : Sp.Net) (l : List Int) (v tv nv cv lv : Value) (x : Int) (n a : Nat) (w : World) (hv : NetI w v q tv nv cv) (hl : Ints w lv l) (hn : l.length = n) (h240 : n ≤ 1000) (hld : ∀ j, j < n → ∃ z : Nat, l.getD j 0 = (z : Int) ∧ z < q.tail.length)
    (ha : a < n) (ha1 : q.tail.getD (l.getD a 0).toNat 0 = x) (ha2 : ∀ j, j < a → q.tail.getD (l.getD j 0).toNat 0 ≠ x) :
    Calls Try.prog 35 #[v, lv, .int .i64 x] w fun e w' => e = .returned (.int .i64 (a : Int)) ∧ Below w.heap.size w w' := by
  obtain ⟨rfl, h1, h2, h3⟩ := hv
  obtain ⟨ta, tc, rfl, htc, htm, HT⟩ := h1.allG
  obtain ⟨na, nc, rfl, -, -⟩ := h2.form
  obtain ⟨ca, cc, rfl, -, -⟩ := h3.form
  obtain ⟨la, lc, rfl, -, -, HL⟩ := hl.allG
  rw [hn] at HL ⊢
  obtain ⟨W1, hW1⟩ : ∃ W1, W1 = w.alloc (.cells #[.int .i64 q.n, .slice ta q.tail.length tc, .slice na q.next.length nc, .slice ca q.cap.length cc] 25) := ⟨_, rfl⟩
  have HBX := hide (box_new w q.n (.slice ta q.tail.length tc) (.slice na q.next.length nc) (.slice ca q.cap.length cc))
  rw [← hW1] at HBX
  have hb1 : Below w.heap.size w W1 := by rw [hW1]; exact (Below.refl _ w).alloc (Nat.le_refl _) _
  have hs1 : W1.heap.size = w.heap.size + 1 := by rw [hW1]; simp
  have HW : Hid (∀ w', Below (w.heap.size + 1) W1 w' → Below w.heap.size w w') := hide fun w' hb => hb1.trans (hb.mono (by omega))
  have HA2 := hide ha2
  have HA1 := hide ha1
  have HLd := hide hld
  obtain ⟨P, hP⟩ : ∃ P : Ending → World → Prop, P = fun e w' => e = .returned (.int .i64 (a : Int)) ∧ Below w.heap.size w w' := ⟨_, rfl⟩
  rw [← hP]
  have HP := hide hP
  have HB0 : Hid (Below (w.heap.size + 1) W1 W1) := hide (Below.refl _ _)
  clear hP hl h1 h2 h3 hld ha1 ha2 hn hb1 hs1
  subst hW1
  go_enter Try.func35, Try.ntmps35
  go_wp2
  generalize w.alloc (.cells #[.int .i64 q.n, .slice ta q.tail.length tc, .slice na q.next.length nc, .slice ca q.cap.length cc] 25) = W1 at *
  go_loopg [7] a (fun g s7 wr => ∃ k : Nat, k + g = a ∧ s7 = .int .i64 (k : Int) ∧ Hid (Below (w.heap.size + 1) W1 wr))
  case atStart => exact ⟨0, by omega, rfl, HB0⟩
  case round =>
    clear HB0
    obtain ⟨k, hk, rfl, HB⟩ := hrel
    have hlt : k < n := by omega
    have hltI : (k : Int) < (n : Int) := by omega
    obtain ⟨b', o, rfl, -, hcx⟩ := unhide HL k hlt
    have c1 := hcx wr (unhide HW _ (unhide HB))
    obtain ⟨z, hz, hzl⟩ := unhide HLd k hlt
    rw [hz] at c1
    obtain ⟨tb, t0, rfl, -, hcy⟩ := unhide HT z hzl
    have c2 := hcy wr (unhide HW _ (unhide HB))
    have hzI : (z : Int) < (q.tail.length : Int) := by omega
    have HZ := hide hz
    obtain ⟨x0, x1, x2, x3, -⟩ := unhide HBX wr (unhide HB)
    have HB2 : Hid (∀ nq, Below (w.heap.size + 1) W1 (wr.drewN nq)) := hide fun nq => below_dn (unhide HB) nq
    clear hcx hcy hz x0 x2 x3 HB
    cases gk with
    | zero =>
      obtain rfl : k = a := by omega
      have hx : q.tail.getD z 0 = x := by
        have h := unhide HA1
        rw [unhide HZ, Int.toNat_natCast] at h
        exact h
      rw [hx] at c2
      have e1 : (x == x) = true := beq_self_eq_true _
      go_wp2
      go_quiet (fail)
      go_wp2
      rw [unhide HP]
      exact ⟨by rfl, unhide HW _ (unhide HB2 _)⟩
    | succ g' =>
      have hx : ¬ q.tail.getD z 0 = x := by
        have h := unhide HA2 k (by omega)
        rw [unhide HZ, Int.toNat_natCast] at h
        exact h
      generalize q.tail.getD z 0 = tz at *
      have e1 : (tz == x) = false := beq_eq_false_iff_ne.2 hx
      go_wp2
      go_quiet (fail)
      have HB3 := hide (unhide HB2 nq)
      clear c1 c2 x1 HB2
      generalize wr.drewN nq = wq at *
      go_wp2
      go_roundg g'
      case rel => exact ⟨k + 1, by omega, by go_num, HB3⟩
      case measure => omega
set_option maxRecDepth 100000 in
set_option maxHeartbeats 4000000 in
theorem split2None_any (q : Sp.Net) (v tv nv cv : Value) (s t : Int) (w : World) (hv : NetI w v q tv nv cv) (hq : Sp.LinkQ q) (hs : (Sp.shared q s t).2 = false) :
    Calls Try.prog 21 #[v, .int .i64 s, .int .i64 t] w fun e w' => e = .returned (.tuple #[.slice none 0 0, .int .i64 0, .int .i64 0, .int .i64 0, .bool false]) ∧ Below w.heap.size w w' := by
  have hv' := hv
  obtain ⟨rfl, h1, h2, h3⟩ := hv
  obtain ⟨ta, tc, rfl, htc, htm⟩ := h1.form
  obtain ⟨na, nc, rfl, -, -⟩ := h2.form
  obtain ⟨ca, cc, rfl, -, -⟩ := h3.form
  clear h1 h2 h3
  obtain ⟨W1, hW1⟩ : ∃ W1, W1 = w.alloc (.cells #[.int .i64 q.n, .slice ta q.tail.length tc, .slice na q.next.length nc, .slice ca q.cap.length cc] 25) := ⟨_, rfl⟩
  have HBX := hide (box_new w q.n (.slice ta q.tail.length tc) (.slice na q.next.length nc) (.slice ca q.cap.length cc))
  rw [← hW1] at HBX
  have hb1 : Below w.heap.size w W1 := by rw [hW1]; exact (Below.refl _ w).alloc (Nat.le_refl _) _
  have hs1 : W1.heap.size = w.heap.size + 1 := by rw [hW1]; simp
  have HC := hide (shared2_any q _ _ _ _ s t W1 (hv'.below hb1) hq)
  rw [hs] at HC
  generalize (Sp.shared q s t).1 = R at *
  have HB : Hid (∀ w', Below W1.heap.size W1 w' → Below w.heap.size w w') := hide fun w' hb => hb1.trans (hb.mono (by omega))
  obtain ⟨x0, x1, x2, x3, -⟩ := unhide HBX W1 (Below.refl _ _)
  obtain ⟨P, hP⟩ : ∃ P : Ending → World → Prop, P = fun e w' => e = .returned (.tuple #[.slice none 0 0, .int .i64 0, .int .i64 0, .int .i64 0, .bool false]) ∧ Below w.heap.size w w' := ⟨_, rfl⟩
  rw [← hP]
  have HP := hide hP
  clear hv' hq hs hb1 hs1 hP
  subst hW1
  go_enter Try.func21, Try.ntmps21
  go_wp2_with fail
  go_at_call 17
  refine (unhide HC).mono ?_
  rintro e w2 ⟨rfl, hb2⟩
  have HB2 := hide (unhide HB _ hb2)
  clear hb2 x0 x1 x2 x3 HC
  go_wp2
  refine bodyPost_ret (v := .tuple #[.slice none 0 0, .int .i64 0, .int .i64 0, .int .i64 0, .bool false]) (by simp [results, Try.results21, go_sem]) rfl ?_
  rw [unhide HP]
  exact ⟨by rfl, unhide HB2⟩
set_option maxRecDepth 100000 in
set_option maxHeartbeats 4000000 in
theorem split2_any (q : Sp.Net) (v tv nv cv : Value) (s t : Int) (f d0 a jb : Nat) (w : World) (hv : NetI w v q tv nv cv) (hq : Sp.LinkQ q) (hs : Sp.SplitQ q s t f d0 a jb) :
    Calls Try.prog 21 #[v, .int .i64 s, .int .i64 t] w fun e w' => ∃ O oc, e = .returned (.tuple #[.slice (some ⟨O, 0, none⟩) q.tail.length oc, .int .i64 (((max (Sp.faces2 q).2 1 : Nat) : Int) + 1), .int .i64 (f : Int), .int .i64 ((max (Sp.faces2 q).2 1 : Nat) : Int), .bool true]) ∧ OwnI w' w.heap.size (.slice (some ⟨O, 0, none⟩) q.tail.length oc) (Sp.splitL q f d0 a jb) ∧ Below w.heap.size w w' := by
  have hv' := hv
  obtain ⟨rfl, h1, h2, h3⟩ := hv
  obtain ⟨ta, tc, rfl, htc, htm, HTa⟩ := h1.allG
  obtain ⟨na, nc, rfl, -, -⟩ := h2.form
  obtain ⟨ca, cc, rfl, -, -⟩ := h3.form
  clear h1 h2 h3
  have hbm := hq.pm.behind (by rw [hq.nx]; exact hq.ev)
  have hlb : (Sp.behindL q.next).length = q.tail.length := by rw [Sp.behindL_len, hq.nx]
  have hdb : d0 < (Sp.behindL q.next).length := by rw [hlb]; exact hs.d0l
  have hdn : d0 < q.next.length := by rw [hq.nx]; exact hs.d0l
  obtain ⟨m1, m2, m3, m4⟩ := hbm.per hdb
  have hp60 : Sp.per (Sp.behindL q.next) d0 ≤ 60 := by rw [hlb] at m2; have := hq.le; omega
  have hp1 : 1 ≤ Sp.per (Sp.behindL q.next) d0 := m1
  have hd60 : d0 < 60 := by have := hs.d0l; have := hq.le; omega
  obtain ⟨W1, hW1⟩ : ∃ W1, W1 = w.alloc (.cells #[.int .i64 q.n, .slice ta q.tail.length tc, .slice na q.next.length nc, .slice ca q.cap.length cc] 25) := ⟨_, rfl⟩
  have HBX := hide (box_new w q.n (.slice ta q.tail.length tc) (.slice na q.next.length nc) (.slice ca q.cap.length cc))
  rw [← hW1] at HBX
  have hb1 : Below w.heap.size w W1 := by rw [hW1]; exact (Below.refl _ w).alloc (Nat.le_refl _) _
  have hs1 : W1.heap.size = w.heap.size + 1 := by rw [hW1]; simp
  have HW : Hid (∀ w', Below (w.heap.size + 1) W1 w' → Below w.heap.size w w') := hide fun w' hb => hb1.trans (hb.mono (by omega))
  have HV : Hid (∀ w', Below (w.heap.size + 1) W1 w' → NetI w' (.agg #[.int .i64 q.n, .slice ta q.tail.length tc, .slice na q.next.length nc, .slice ca q.cap.length cc]) q (.slice ta q.tail.length tc) (.slice na q.next.length nc) (.slice ca q.cap.length cc)) := hide fun w' hb => hv'.below (unhide HW _ hb)
  have hbr : Below (w.heap.size + 1) W1 W1 := Below.refl _ _
  have HC := hide (shared2_any q _ _ _ _ s t W1 (unhide HV W1 hbr) hq)
  rw [hs.sh] at HC
  have HFc := hide (fun w' (hb : Below (w.heap.size + 1) W1 w') => faces2_any q _ _ _ _ w' (unhide HV w' hb) hq.nx (by have := hq.le; omega) hq.ev hq.pm)
  have HFa := hide (fun w' (hb : Below (w.heap.size + 1) W1 w') => face2_any q _ _ _ _ d0 (Sp.per (Sp.behindL q.next) d0) w' (unhide HV w' hb) (by rw [hq.nx]; have := hq.le; omega) (by rw [hq.nx]; exact hq.ev) hq.pm.bd hdn m1 (by omega) m3 m4)
  have HG : Hid (∀ j, j < Sp.per (Sp.behindL q.next) d0 → (Sp.rounds (Sp.behindL q.next) d0 (Sp.per (Sp.behindL q.next) d0)).getD j 0 = ((itf (Sp.fn (Sp.behindL q.next)) d0 j : Nat) : Int) ∧ itf (Sp.fn (Sp.behindL q.next)) d0 j < q.tail.length) := hide fun j hj => by
    refine ⟨?_, by have := hbm.fnP.it hdb j; rw [hlb] at this; exact this⟩
    rw [Sp.getD_eq _ _ (by rw [Sp.rounds_len]; exact hj)]
    simp only [Sp.rounds, List.getElem_map, List.getElem_range]
    exact hbm.nth_it hdb j
  have HLl : Hid ((Sp.rounds (Sp.behindL q.next) d0 (Sp.per (Sp.behindL q.next) d0)).length = Sp.per (Sp.behindL q.next) d0) := hide (Sp.rounds_len _ _ _)
  have HFi := hide (fun w' lv (hb : Below (w.heap.size + 1) W1 w') (hl : Ints w' lv (Sp.rounds (Sp.behindL q.next) d0 (Sp.per (Sp.behindL q.next) d0))) => first_any q _ _ _ _ _ lv s (Sp.per (Sp.behindL q.next) d0) a w' (unhide HV w' hb) hl (unhide HLl) (by omega) (fun j hj => ⟨_, (unhide HG j hj).1, (unhide HG j hj).2⟩) hs.al (by rw [(unhide HG a hs.al).1, Int.toNat_natCast]; exact hs.at_) (fun j hj => by rw [(unhide HG j (by have := hs.al; omega)).1, Int.toNat_natCast]; exact hs.am j hj))
  have HFl := hide (Sp.faces2_len q)
  have hK60 : max (Sp.faces2 q).2 1 ≤ 1000 := by have := Sp.faces2_le q; have := hq.le; omega
  have HSl : Hid (Sp.splitL q f d0 a jb = Sp.splitAt (fun j => itf (Sp.fn (Sp.behindL q.next)) d0 (a + j)) ((max (Sp.faces2 q).2 1 : Nat) : Int) (f : Int) jb (Sp.faces2 q).1 (Sp.per (Sp.behindL q.next) d0)) := hide rfl
  have HLow : Hid (Sp.splitAt (fun j => itf (Sp.fn (Sp.behindL q.next)) d0 (a + j)) ((max (Sp.faces2 q).2 1 : Nat) : Int) (f : Int) jb (Sp.faces2 q).1 jb = (Sp.faces2 q).1) := hide (Sp.splitAt_low _ _ _ _ _ (fun j => by rw [unhide HFl]; have := hbm.fnP.it hdb (a + j); rw [hlb] at this; exact this) (fun j => by rw [Sp.faces_along hq hs.d0l, hs.d0f]) jb (Nat.le_refl _))
  have HMd : Hid (∀ j, (Sp.rounds (Sp.behindL q.next) d0 (Sp.per (Sp.behindL q.next) d0)).getD ((a + j) % Sp.per (Sp.behindL q.next) d0) 0 = ((itf (Sp.fn (Sp.behindL q.next)) d0 (a + j) : Nat) : Int) ∧ itf (Sp.fn (Sp.behindL q.next)) d0 (a + j) < q.tail.length) := hide fun j => by
    have hm : (a + j) % Sp.per (Sp.behindL q.next) d0 < Sp.per (Sp.behindL q.next) d0 := Nat.mod_lt _ (by omega)
    refine ⟨?_, by have := hbm.fnP.it hdb (a + j); rw [hlb] at this; exact this⟩
    rw [(unhide HG _ hm).1, itf_mod hbm hdb]
  have HBt : Hid (q.tail.getD (itf (Sp.fn (Sp.behindL q.next)) d0 (a + jb)) 0 = t) := hide hs.bt
  have HBm : Hid (∀ j, j < jb → q.tail.getD (itf (Sp.fn (Sp.behindL q.next)) d0 (a + j)) 0 ≠ t) := hide hs.bm
  have hjp := hs.bl
  have hj0 := hs.b0
  have hap := hs.al
  have hd0l := hs.d0l
  have HD0 : Hid ((Sp.faces2 q).1.getD d0 0 = (f : Int) ∧ ∀ j, j < d0 → (Sp.faces2 q).1.getD j 0 ≠ (f : Int)) := hide ⟨hs.d0f, hs.d0m⟩
  generalize Sp.splitL q f d0 a jb = R at *
  generalize Sp.rounds (Sp.behindL q.next) d0 (Sp.per (Sp.behindL q.next) d0) = LA at *
  generalize Sp.per (Sp.behindL q.next) d0 = p at *
  obtain ⟨x, hx⟩ : ∃ x : Nat → Nat, x = fun j => itf (Sp.fn (Sp.behindL q.next)) d0 (a + j) := ⟨_, rfl⟩
  have hx' : ∀ j, itf (Sp.fn (Sp.behindL q.next)) d0 (a + j) = x j := fun j => by rw [hx]
  simp only [hx'] at HMd HBt HBm HSl HLow
  clear hx hx' HG
  generalize (Sp.faces2 q).1 = F at *
  generalize max (Sp.faces2 q).2 1 = K at *
  have HST : Hid (∀ j, Sp.splitAt x (K : Int) (f : Int) jb F (j + 1) = (Sp.splitAt x (K : Int) (f : Int) jb F j).set (x j) (if jb ≤ j then (K : Int) else (f : Int))) := hide fun j => rfl
  have HSL := hide (fun j => Sp.splitAt_len x (K : Int) (f : Int) jb F j)
  generalize Sp.splitAt x (K : Int) (f : Int) jb F = sp at *
  obtain ⟨P, hP⟩ : ∃ P : Ending → World → Prop, P = fun e w' => ∃ O oc, e = .returned (.tuple #[.slice (some ⟨O, 0, none⟩) q.tail.length oc, .int .i64 ((K : Int) + 1), .int .i64 (f : Int), .int .i64 (K : Int), .bool true]) ∧ OwnI w' w.heap.size (.slice (some ⟨O, 0, none⟩) q.tail.length oc) R ∧ Below w.heap.size w w' := ⟨_, rfl⟩
  rw [← hP]
  have HP := hide hP
  have Hs1 := hide hs1
  have HNx : Hid (∀ j, IntKind.i64.wrap ((((a + j) % p : Nat) : Int) + 1) = (((a + j) % p : Nat) : Int) + 1 ∧ ((((a + j) % p : Nat) : Int) + 1).tmod (p : Int) = (((a + (j + 1)) % p : Nat) : Int)) := hide fun j => by
    have hm : (a + j) % p < p := Nat.mod_lt _ (by omega)
    refine ⟨by rw [IntKind.wrap_i64]; omega, ?_⟩
    rw [show ((((a + j) % p : Nat) : Int) + 1) = (((a + j) % p + 1 : Nat) : Int) by omega, ← Int.ofNat_tmod, Nat.mod_add_mod, Nat.add_assoc]
  have hpz : ¬ (p : Int) = 0 := by omega
  obtain ⟨x0, x1, x2, x3, -⟩ := unhide HBX W1 hbr
  clear hv' hP hs1 hb1 hq hs hbm hlb hdb hdn m1 m2 m3 m4
  subst hW1
  go_enter Try.func21, Try.ntmps21
  go_wp2_with fail
  go_at_call 17
  refine (unhide HC).mono ?_
  clear HC x0 x1 x2 x3
  generalize w.alloc (.cells #[.int .i64 q.n, .slice ta q.tail.length tc, .slice na q.next.length nc, .slice ca q.cap.length cc] 25) = W1 at *
  rintro e w2 ⟨rfl, hb2⟩
  rw [unhide Hs1] at hb2
  obtain ⟨x0, x1, x2, x3, hsz2⟩ := unhide HBX w2 hb2
  go_wp2_with fail
  go_at_call 25
  refine (unhide HFc w2 hb2).mono ?_
  clear HFc x0 x1 x2 x3
  rintro e w4 ⟨fv, rfl, hO, hb4⟩
  have hb4' : Below (w.heap.size + 1) W1 w4 := hb2.trans (hb4.mono hsz2)
  obtain ⟨O, oc, hve, hOge, hOlt, hoc, hom⟩ := own_form hO (by rw [unhide HFl]; omega)
  rw [unhide HFl] at hve
  subst hve
  have HO4 : Hid (∀ w', Below w4.heap.size w4 w' → OwnI w' w.heap.size (.slice (some ⟨O, 0, none⟩) q.tail.length oc) F) := hide fun w' hb => own_base (own_below hO hb) (by omega)
  have hs4 : w.heap.size + 1 ≤ w4.heap.size := Nat.le_trans hsz2 hb4.size
  have HBl : Hid (∀ w', Below w4.heap.size w4 w' → Below (w.heap.size + 1) W1 w') := hide fun w' hb => hb4'.trans (hb.mono hs4)
  have HO1 : Hid (w.heap.size + 1 ≤ O ∧ O < w4.heap.size) := hide ⟨by omega, hOlt⟩
  have hOc : ∀ k, k < q.tail.length → w4.cell? ⟨O, k, none⟩ = some (.int .i64 (F.getD k 0)) := fun k hk => by
    have h := own_cell hO k (by rw [unhide HFl]; exact hk)
    rw [← Sp.getD_eq] at h
    exact h
  have HOc := hide hOc
  have hb44 : Below w4.heap.size w4 w4 := Below.refl _ _
  clear hO hb4 hb2 hb4' hs4 hsz2 hOge hOlt hbr hoc hom hOc
  go_wp2
  go_loop [15] (fun s15 => ∃ k : Nat, k ≤ d0 ∧ s15 = .int .i64 (k : Int)) (fun s15 => d0 - (intOf s15).toNat)
  case atStart => exact ⟨0, by omega, rfl⟩
  case round =>
    obtain ⟨k, hk, rfl⟩ := hrel
    have hkl : k < q.tail.length := by omega
    have hkI : (k : Int) < (q.tail.length : Int) := by omega
    have c1 := unhide HOc k hkl
    by_cases hkd : k = d0
    · subst hkd
      rw [(unhide HD0).1] at c1
      have e1 : ((f : Int) != (f : Int)) = false := by simp
      obtain ⟨x0, x1, x2, x3, -⟩ := unhide HBX w4 (unhide HBl w4 hb44)
      go_wp2_with fail
      go_at_call 34
      refine (unhide HFa w4 (unhide HBl w4 hb44)).mono ?_
      clear x0 x1 x2 x3 c1
      rintro e w5 ⟨lv, rfl, hl5, hb5⟩
      obtain ⟨lb, lc, hve, hlg, hllt, -, -⟩ := own_form hl5 (by rw [unhide HLl]; omega)
      rw [unhide HLl] at hve
      subst hve
      obtain ⟨x0, x1, x2, x3, -⟩ := unhide HBX w5 (unhide HBl w5 hb5)
      go_wp2_with fail
      go_at_call 35
      refine (unhide HFi w5 _ (unhide HBl w5 hb5) hl5.ints).mono ?_
      clear x0 x1 x2 x3
      rintro e w7 ⟨rfl, hb57⟩
      have hb7 : Below w4.heap.size w4 w7 := hb5.trans (hb57.mono hb5.size)
      have hlO : lb ≠ O := by have := (unhide HO1).2; omega
      have hcl : ∀ j, j < p → w7.cell? ⟨lb, j, none⟩ = some (.int .i64 (LA.getD j 0)) := fun j hj => by
        have h := own_cell (own_below hl5 hb57) j (by rw [unhide HLl]; exact hj)
        rw [← Sp.getD_eq] at h
        exact h
      have HCL : Hid (∀ wr j, ButRow O w7 wr → wr.cell? ⟨lb, (a + j) % p, none⟩ = some (.int .i64 ((x j : Nat) : Int))) := hide fun wr j h => by
        have h2 := (h.cell (a := ⟨lb, (a + j) % p, none⟩) (by exact hlO)).trans (hcl ((a + j) % p) (Nat.mod_lt _ (by omega)))
        rw [(unhide HMd j).1] at h2
        exact h2
      have HX : Hid (∀ wr, ButRow O w7 wr → wr.cell? ⟨w.heap.size, 1, none⟩ = some (.slice ta q.tail.length tc)) := hide fun wr h => by
        have o1 := (unhide HO1).1
        exact (h.cell (by show w.heap.size ≠ O; omega)).trans (unhide HBX w7 (unhide HBl w7 hb7)).2.1
      have HTl : Hid (∀ wr k, ButRow O w7 wr → k < q.tail.length → ∃ tb to', ta = some ⟨tb, to', none⟩ ∧ wr.cell? ⟨tb, to' + k, none⟩ = some (.int .i64 (q.tail.getD k 0))) := hide fun wr k h hk => by
        obtain ⟨tb, to', e1, e2, e3⟩ := unhide HTa k hk
        have o1 := (unhide HO1).1
        exact ⟨tb, to', e1, (h.cell (by show tb ≠ O; omega)).trans (e3 w7 (unhide HW _ (unhide HBl w7 hb7)))⟩
      have HI0 : Hid (OwnI w7 w.heap.size (.slice (some ⟨O, 0, none⟩) q.tail.length oc) (sp jb) ∧ ButRow O w7 w7 ∧ Below w.heap.size w w7) := hide ⟨by rw [unhide HLow]; exact unhide HO4 w7 hb7, ButRow.refl _ _, unhide HW _ (unhide HBl w7 hb7)⟩
      have HDn : Hid (∀ wr nq, Hid (OwnI wr w.heap.size (.slice (some ⟨O, 0, none⟩) q.tail.length oc) (sp jb) ∧ ButRow O w7 wr ∧ Below w.heap.size w wr) → Hid (OwnI (World.drewN wr nq) w.heap.size (.slice (some ⟨O, 0, none⟩) q.tail.length oc) (sp jb) ∧ ButRow O w7 (World.drewN wr nq) ∧ Below w.heap.size w (World.drewN wr nq))) := hide fun wr nq h => hide ⟨own_below (unhide h).1 (below_dn (Below.refl _ _) nq), (unhide h).2.1.dn nq, below_dn (unhide h).2.2 nq⟩
      have HOw : Hid (w.heap.size ≤ O) := hide (by have := (unhide HO1).1; omega)
      have ha0 : Hid (((a : Nat) : Int) = (((a + 0) % p : Nat) : Int)) := hide (by rw [Nat.add_zero, Nat.mod_eq_of_lt hap])
      clear hl5 hb57 hb7 hb5 hcl hlg hllt HTa HO4 HBl HOc hb44 HFi HFa
      go_wp2
      go_loopg [18] jb (fun g s18 wr => ∃ j : Nat, j + g = jb ∧ s18 = .int .i64 (((a + j) % p : Nat) : Int) ∧ Hid (OwnI wr w.heap.size (.slice (some ⟨O, 0, none⟩) q.tail.length oc) (sp jb) ∧ ButRow O w7 wr ∧ Below w.heap.size w wr))
      case atStart => exact ⟨0, by omega, by rw [← unhide ha0], HI0⟩
      case round =>
        clear HI0
        obtain ⟨j, hjg, rfl, HI⟩ := hrel
        have y1 := unhide HX wr (unhide HI).2.1
        have c1 := unhide HCL wr j (unhide HI).2.1
        have hxl := (unhide HMd j).2
        obtain ⟨tb, t0, rfl, c2⟩ := unhide HTl wr (x j) (unhide HI).2.1 hxl
        have hxI : ((x j : Nat) : Int) < (q.tail.length : Int) := by omega
        have hml : (a + j) % p < p := Nat.mod_lt _ (by omega)
        have hmI : (((a + j) % p : Nat) : Int) < (p : Int) := by omega
        have HI2 := hide (fun nq => unhide HDn wr nq HI)
        obtain ⟨hw1, hw2⟩ := unhide HNx j
        clear HI
        cases gk with
        | succ g' =>
          have ht := unhide HBm j (by omega)
          generalize q.tail.getD (x j) 0 = tz at *
          have e1 : (tz != t) = true := by simpa using ht
          generalize (a + j) % p = bj at *
          go_wp2
          go_quiet (fail)
          have HI3 := unhide HI2 nq
          clear c1 c2 y1 HI2
          generalize wr.drewN nq = wq at *
          go_wp2
          go_roundg g'
          case rel => exact ⟨j + 1, by omega, by rfl, HI3⟩
          case measure => omega
        | zero =>
          obtain rfl : j = jb := by omega
          rw [unhide HBt] at c2
          have e1 : (t != t) = false := by simp
          generalize hbj : (a + j) % p = bj at *
          have Hbj := hide hbj
          clear hbj
          go_wp2
          go_quiet (fail)
          have HI3 := unhide HI2 nq
          clear c1 c2 y1 HI2
          generalize wr.drewN nq = wq at *
          go_wp2
          go_loopg [19] (p - j) (fun g s19 wr => ∃ i : Nat, i + g = p ∧ j ≤ i ∧ s19 = .int .i64 (((a + i) % p : Nat) : Int) ∧ Hid (OwnI wr w.heap.size (.slice (some ⟨O, 0, none⟩) q.tail.length oc) (sp i) ∧ ButRow O w7 wr ∧ Below w.heap.size w wr))
          case atStart => exact ⟨j, by omega, Nat.le_refl _, by rw [unhide Hbj], HI3⟩
          case round =>
            clear HI3
            obtain ⟨i, hig, hji, rfl, HI⟩ := hrel
            cases gk with
            | zero =>
              obtain rfl : i = p := by omega
              have hia : (a + i) % i = a := by rw [Nat.add_mod_right, Nat.mod_eq_of_lt hap]
              rw [hia]
              have e2 : ((a : Int) != (a : Int)) = false := by simp
              have hkw : IntKind.i64.wrap ((K : Int) + 1) = (K : Int) + 1 := by rw [IntKind.wrap_i64]; omega
              have HB := hide (unhide HI).2.2
              have HO := hide (unhide HI).1
              clear HI hia
              go_wp2
              refine bodyPost_ret (v := .tuple #[.slice (some ⟨O, 0, none⟩) q.tail.length oc, .int .i64 ((K : Int) + 1), .int .i64 (f : Int), .int .i64 (K : Int), .bool true]) (by simp [results, Try.results21, go_sem]) rfl ?_
              rw [unhide HP, unhide HSl]
              exact ⟨O, oc, rfl, unhide HO, unhide HB⟩
            | succ g' =>
              have hlt : i < p := by omega
              have hne : ¬ (a + i) % p = a := fun e => by
                rcases Nat.lt_or_ge (a + i) p with h | h
                · rw [Nat.mod_eq_of_lt h] at e; omega
                · rw [Nat.mod_eq_sub_mod h, Nat.mod_eq_of_lt (by omega)] at e; omega
              have hneI : ¬ (((a + i) % p : Nat) : Int) = (a : Int) := by omega
              have e2 : ((((a + i) % p : Nat) : Int) != (a : Int)) = true := by simpa using hneI
              have c1 := unhide HCL wr i (unhide HI).2.1
              have hxl2 := (unhide HMd i).2
              have c3 := own_cell (unhide HI).1 (x i) (by rw [unhide HSL i, unhide HFl]; exact hxl2)
              have f3 := own_frozen (unhide HI).1 (x i)
              have hxI2 : ((x i : Nat) : Int) < (q.tail.length : Int) := by omega
              have hml2 : (a + i) % p < p := Nat.mod_lt _ (by omega)
              have hmI2 : (((a + i) % p : Nat) : Int) < (p : Int) := by omega
              obtain ⟨hw3, hw4⟩ := unhide HNx i
              have HN : Hid (OwnI (wr.setCell ⟨O, x i, none⟩ (.int .i64 (K : Int))) w.heap.size (.slice (some ⟨O, 0, none⟩) q.tail.length oc) (sp (i + 1)) ∧ ButRow O w7 (wr.setCell ⟨O, x i, none⟩ (.int .i64 (K : Int))) ∧ Below w.heap.size w (wr.setCell ⟨O, x i, none⟩ (.int .i64 (K : Int)))) := hide (by
                refine ⟨?_, (unhide HI).2.1.setCell _ _, (unhide HI).2.2.setCell (by exact unhide HOw) _⟩
                rw [unhide HST i, if_pos hji]
                exact own_setCell (unhide HI).1 (x i) K)
              generalize (sp i)[x i]'_ = z at *
              generalize (a + i) % p = bi at *
              clear HI
              go_wp2
              go_roundg g'
              case rel => exact ⟨i + 1, by omega, by omega, by rfl, HN⟩
              case measure => omega
    · have hnf := (unhide HD0).2 k (by omega)
      generalize F.getD k 0 = z at *
      have e1 : (z != (f : Int)) = true := by simpa using hnf
      go_wp2
      go_round
      case rel => exact ⟨k + 1, by omega, by go_num⟩
      case measure => simp [intOf]; omega
end Go.Proofs.Ytoegjnolccabjaa


/- Package dual: the chapter's example and an edge, as the law has them. -/
namespace Go.Proofs.Ytoegjnolccabjaa
open Go Go.RowKit

theorem q0_link : Sp.LinkQ Sp.q0 := ⟨rfl, rfl, by decide, rfl, ⟨by decide, by
  intro i j hi hj e
  have hi' : i < 2 := hi
  have hj' : j < 2 := hj
  rcases (show i = 0 ∨ i = 1 by omega) with rfl | rfl <;> rcases (show j = 0 ∨ j = 1 by omega) with rfl | rfl <;> simp_all [Sp.q0]⟩⟩
theorem q1_link : Sp.LinkQ Sp.q1 := ⟨rfl, rfl, by decide, rfl, ⟨by decide, fun i j hi => absurd hi (Nat.not_lt_zero _)⟩⟩
theorem q0_faces2 : Sp.faces2 Sp.q0 = ([0, 0], 1) := by decide +kernel
theorem q0_per : Sp.per (Sp.behindL Sp.q0.next) 0 = 2 := by decide +kernel
theorem q0_shared : Sp.shared Sp.q0 0 1 = (0, true) := by
  unfold Sp.shared
  rw [if_neg (by decide), q0_faces2]
  show Sp.sharedGo [0, 1] [0, 0] 0 1 1 0 = _
  rw [Sp.sharedGo, if_pos ⟨Sp.meetsB_true ⟨0, by decide, rfl, rfl⟩, Sp.meetsB_true ⟨1, by decide, rfl, rfl⟩⟩]
  rfl
theorem q0_split : Sp.SplitQ Sp.q0 0 1 0 0 0 1 := ⟨q0_shared, by decide, by rw [q0_faces2]; rfl, fun j hj => by omega, by rw [q0_per]; omega, rfl, fun j hj => by omega, by rw [q0_per]; omega, by omega, by decide +kernel, fun j hj => by
  obtain rfl : j = 0 := by omega
  decide +kernel⟩
theorem q0_splitL : Sp.splitL Sp.q0 0 0 0 1 = [0, 1] := by decide +kernel
end Go.Proofs.Ytoegjnolccabjaa


/- What the program's Parts tells: labels numbered by their first ones, that tell the pieces apart. -/
namespace Go.Proofs.Ytoegjnolccabjaa
open Go Go.RowKit

/-- Labels laid so far, by whatever tells places apart. -/
structure Sp.NSt (L : Nat) (E : Nat → Nat → Prop) (d : Nat) (of : List Int) (k : Nat) : Prop where
  len : of.length = L
  bd : ∀ i, i < L → of.getD i 0 = -1 ∨ (0 ≤ of.getD i 0 ∧ of.getD i 0 < (k : Int))
  done : ∀ i, i < d → 0 ≤ of.getD i 0
  inv : ∀ i j, i < L → j < L → E i j → of.getD i 0 = of.getD j 0
  sep : ∀ i j, i < L → j < L → 0 ≤ of.getD i 0 → of.getD i 0 = of.getD j 0 → E i j
  rg : ∀ i, i < d → ∀ c, 0 ≤ c → c < of.getD i 0 → ∃ j, j < i ∧ of.getD j 0 = c
  on : ∀ c : Nat, c < k → ∃ i, i < d ∧ of.getD i 0 = (c : Int)
theorem Sp.NSt.first (L : Nat) (E : Nat → Nat → Prop) : Sp.NSt L E 0 (List.replicate L (-1)) 0 := by
  refine ⟨by simp, fun i hi => .inl (getD_rep _ _ _ hi), fun i hi => by omega, fun i j hi hj _ => by rw [getD_rep _ _ _ hi, getD_rep _ _ _ hj], fun i j hi hj h => ?_, fun i hi => by omega, fun c hc => by omega⟩
  rw [getD_rep _ _ _ hi] at h
  omega
theorem Sp.NSt.old {L : Nat} {E : Nat → Nat → Prop} {d k : Nat} {of : List Int} (h : Sp.NSt L E d of k) (hd : d < L) (h0 : of.getD d 0 ≠ -1) : Sp.NSt L E (d + 1) of k := by
  have h0' : 0 ≤ of.getD d 0 ∧ of.getD d 0 < (k : Int) := by
    rcases h.bd d hd with e | e
    · exact absurd e h0
    · exact e
  refine ⟨h.len, h.bd, fun i hi => ?_, h.inv, h.sep, fun i hi c c0 c1 => ?_, fun c hc => ?_⟩
  · rcases Nat.lt_or_ge i d with h1 | h1
    · exact h.done i h1
    · rw [show i = d by omega]; exact h0'.1
  · rcases Nat.lt_or_ge i d with h1 | h1
    · exact h.rg i h1 c c0 c1
    · rw [show i = d by omega] at c1 ⊢
      obtain ⟨j, h2, h3⟩ := h.on c.toNat (by omega)
      exact ⟨j, h2, by rw [h3]; omega⟩
  · obtain ⟨i, h1, h2⟩ := h.on c hc
    exact ⟨i, by omega, h2⟩
theorem Sp.NSt.new {L : Nat} {E : Nat → Nat → Prop} {d k : Nat} {of of' : List Int} (h : Sp.NSt L E d of k) (hr : ∀ i, E i i) (hs : ∀ i j, i < L → j < L → E i j → E j i) (ht : ∀ i j l, E i j → E j l → E i l) (hd : d < L) (h0 : of.getD d 0 = -1) (hl : of'.length = L)
    (hE : ∀ i, i < L → E d i → of'.getD i 0 = (k : Int)) (hN : ∀ i, i < L → ¬ E d i → of'.getD i 0 = of.getD i 0) : Sp.NSt L E (d + 1) of' (k + 1) := by
  have hget : ∀ i, i < L → (E d i ∧ of'.getD i 0 = (k : Int) ∧ of.getD i 0 = -1) ∨ (¬ E d i ∧ of'.getD i 0 = of.getD i 0) := by
    intro i hi
    by_cases ho : E d i
    · exact .inl ⟨ho, hE i hi ho, by rw [← h.inv d i hd hi ho]; exact h0⟩
    · exact .inr ⟨ho, hN i hi ho⟩
  have hdk : of'.getD d 0 = (k : Int) := hE d hd (hr d)
  refine ⟨hl, fun i hi => ?_, fun i hi => ?_, fun i j hi hj e => ?_, fun i j hi hj hn e => ?_, fun i hi c c0 c1 => ?_, fun c hc => ?_⟩
  · rcases hget i hi with ⟨-, e, -⟩ | ⟨-, e⟩
    · right; rw [e]; omega
    · rw [e]; rcases h.bd i hi with e1 | e1
      · exact .inl e1
      · exact .inr ⟨e1.1, by omega⟩
  · rcases Nat.lt_or_ge i d with h1 | h1
    · rcases hget i (by omega) with ⟨-, e, -⟩ | ⟨-, e⟩
      · rw [e]; omega
      · rw [e]; exact h.done i h1
    · rw [show i = d by omega, hdk]; omega
  · rcases hget i hi with ⟨o, e1, -⟩ | ⟨o, e1⟩ <;> rcases hget j hj with ⟨o', e2, -⟩ | ⟨o', e2⟩
    · rw [e1, e2]
    · exact absurd (ht _ _ _ o e) o'
    · exact absurd (ht _ _ _ o' (hs i j hi hj e)) o
    · rw [e1, e2]; exact h.inv i j hi hj e
  · rcases hget i hi with ⟨o, e1, -⟩ | ⟨o, e1⟩ <;> rcases hget j hj with ⟨o', e2, -⟩ | ⟨o', e2⟩
    · exact ht _ _ _ (hs d i hd hi o) o'
    · rw [e1, e2] at e
      rcases h.bd j hj with e3 | e3 <;> omega
    · rw [e1, e2] at e
      rcases h.bd i hi with e3 | e3 <;> omega
    · rw [e1, e2] at e
      rw [e1] at hn
      exact h.sep i j hi hj hn e
  · rcases Nat.lt_or_ge i d with h1 | h1
    · rcases hget i (by omega) with ⟨-, -, e⟩ | ⟨-, e⟩
      · have := h.done i h1; omega
      · rw [e] at c1
        obtain ⟨j, h2, h3⟩ := h.rg i h1 c c0 c1
        refine ⟨j, h2, ?_⟩
        rcases hget j (by omega) with ⟨-, -, e'⟩ | ⟨-, e'⟩
        · omega
        · rw [e', h3]
    · rw [show i = d by omega] at c1 ⊢
      rw [hdk] at c1
      obtain ⟨j, h2, h3⟩ := h.on c.toNat (by omega)
      refine ⟨j, h2, ?_⟩
      rcases hget j (by omega) with ⟨-, -, e'⟩ | ⟨-, e'⟩
      · omega
      · rw [e', h3]; omega
  · by_cases hk : c = k
    · exact ⟨d, by omega, by rw [hdk, hk]⟩
    · obtain ⟨i, h1, h2⟩ := h.on c (by omega)
      refine ⟨i, by omega, ?_⟩
      rcases hget i (by omega) with ⟨-, -, e'⟩ | ⟨-, e'⟩
      · omega
      · rw [e', h2]
theorem Sp.NSt.num {L : Nat} {E : Nat → Nat → Prop} {of : List Int} {k : Nat} (h : Sp.NSt L E L of k) : Sp.Num of k := by
  refine ⟨⟨fun i hi => h.done i (by rw [← h.len]; exact hi), fun i hi => h.rg i (by rw [← h.len]; exact hi)⟩, fun i hi => ?_, fun c hc => ?_⟩
  · rw [h.len] at hi
    have := h.done i hi
    rcases h.bd i hi with e | e <;> omega
  · obtain ⟨i, h1, h2⟩ := h.on c hc
    exact ⟨i, by rw [h.len]; exact h1, h2⟩
theorem Sp.NSt.uniq {L : Nat} {E : Nat → Nat → Prop} {of of' : List Int} {k k' : Nat} (h : Sp.NSt L E L of k) (h' : Sp.NSt L E L of' k') : of = of' ∧ k = k' := by
  have e : of = of' := Sp.RG.uniq h.num.rg h'.num.rg (by rw [h.len, h'.len]) (fun i j hi hj => by
    rw [h.len] at hi hj
    constructor
    · intro e; exact h'.inv i j hi hj (h.sep i j hi hj (h.done i hi) e)
    · intro e; exact h.inv i j hi hj (h'.sep i j hi hj (h'.done i hi) e))
  refine ⟨e, ?_⟩
  subst e
  exact h.num.count h'.num
theorem Sp.Reach.trans {tl : List Int} {u v z : Int} (h : Sp.Reach tl u v) (h' : Sp.Reach tl v z) : Sp.Reach tl u z :=
  h'.ind (p := fun z => Sp.Reach tl u z) h (fun _ hd _ ih => ih.step hd)
theorem Sp.Reach.symm {tl : List Int} (hev : tl.length % 2 = 0) {u v : Int} (h : Sp.Reach tl u v) : Sp.Reach tl v u := by
  refine h.ind (p := fun v => Sp.Reach tl v u) (.refl _) (fun d hd _ ih => ?_)
  have ho := oth_lt hd hev
  have h1 : Sp.Reach tl (tl.getD (Sp.oth d) 0) (tl.getD (Sp.oth (Sp.oth d)) 0) := (Sp.Reach.refl _).step ho
  rw [oth_oth] at h1
  exact h1.trans ih
theorem Sp.Reach.bd {tl : List Int} {n : Int} (ht : ∀ x ∈ tl, 0 ≤ x ∧ x < n) (hev : tl.length % 2 = 0) {u v : Int} (hu : 0 ≤ u ∧ u < n) (h : Sp.Reach tl u v) : 0 ≤ v ∧ v < n :=
  h.ind (p := fun v => 0 ≤ v ∧ v < n) hu (fun _ hd _ _ => ht _ (Sp.getD_mem (oth_lt hd hev)))
/-- One piece on the way: who was found. -/
structure Sp.FI (tl of0 : List Int) (N : Nat) (v p : Int) (of fd : List Int) : Prop where
  len : of.length = N
  fit : RFit N fd
  lab : ∀ w : Nat, w < N → of.getD w 0 = if (w : Int) ∈ fd then p else of0.getD w 0
  rch : ∀ x ∈ fd, Sp.Reach tl v x
theorem Sp.FI.stay {tl of0 : List Int} {N : Nat} {v p : Int} {of fd of' fd' : List Int} (h : Sp.FI tl of0 N v p of fd) (h' : Sp.FI tl of0 N v p of' fd') (hp : p ≠ -1) (hs : ∀ x ∈ fd, x ∈ fd') {w : Nat} (hw : w < N) (hn : of.getD w 0 ≠ -1) : of'.getD w 0 ≠ -1 := by
  rw [h'.lab w hw]
  split
  · exact hp
  · rename_i hm
    rw [h.lab w hw, if_neg (fun h2 => hm (hs _ h2))] at hn
    exact hn
theorem Sp.spread_ok {tl of0 : List Int} {N : Nat} {v p : Int} (hp : p ≠ -1) (ht : ∀ x ∈ tl, 0 ≤ x ∧ x < (N : Int)) (hev : tl.length % 2 = 0) (f : Int) :
    ∀ c d of fd, d + c = tl.length → Sp.FI tl of0 N v p of fd → f ∈ fd →
      Sp.FI tl of0 N v p (Sp.spreadGo tl f p c d of fd).1 (Sp.spreadGo tl f p c d of fd).2 ∧ (∃ m, (Sp.spreadGo tl f p c d of fd).2 = fd ++ m) ∧ ∀ d', d ≤ d' → d' < tl.length → tl.getD d' 0 = f → (Sp.spreadGo tl f p c d of fd).1.getD (tl.getD (Sp.oth d') 0).toNat 0 ≠ -1
  | 0, d, of, fd, hd, h, _ => ⟨h, ⟨[], by simp [Sp.spreadGo]⟩, fun d' h1 h2 => by omega⟩
  | c + 1, d, of, fd, hd, h, hf => by
    have hdl : d < tl.length := by omega
    have hh := ht _ (Sp.getD_mem (oth_lt hdl hev))
    have hhN : (tl.getD (Sp.oth d) 0).toNat < N := by omega
    have hcast : (((tl.getD (Sp.oth d) 0).toNat : Nat) : Int) = tl.getD (Sp.oth d) 0 := by omega
    rw [Sp.spreadGo]
    by_cases hc : tl.getD d 0 = f ∧ of.getD (tl.getD (Sp.oth d) 0).toNat 0 = -1
    · rw [if_pos hc]
      have hnm : ¬ tl.getD (Sp.oth d) 0 ∈ fd := fun hm => by
        have e := h.lab _ hhN
        rw [hcast, if_pos hm, hc.2] at e
        exact hp e.symm
      have hfit := h.fit.snoc (tl.getD (Sp.oth d) 0).toNat hhN (by rw [hcast]; exact hnm)
      rw [hcast] at hfit
      have h' : Sp.FI tl of0 N v p (of.set (tl.getD (Sp.oth d) 0).toNat p) (fd ++ [tl.getD (Sp.oth d) 0]) := by
        refine ⟨by rw [List.length_set]; exact h.len, hfit, fun w hw => ?_, fun x hx => ?_⟩
        · rw [getD_set_eq _ _ _ _ (by rw [h.len]; exact hhN)]
          by_cases e : w = (tl.getD (Sp.oth d) 0).toNat
          · rw [if_pos e, if_pos (List.mem_append_right _ (by rw [e, hcast]; simp))]
          · rw [if_neg e, h.lab w hw]
            by_cases hm : (w : Int) ∈ fd
            · rw [if_pos hm, if_pos (List.mem_append_left _ hm)]
            · rw [if_neg hm, if_neg (fun h2 => by
                rcases List.mem_append.1 h2 with h3 | h3
                · exact hm h3
                · rw [List.mem_singleton] at h3
                  omega)]
        · rcases List.mem_append.1 hx with h3 | h3
          · exact h.rch x h3
          · rw [List.mem_singleton] at h3
            rw [h3]
            refine Sp.Reach.step ?_ hdl
            rw [hc.1]
            exact h.rch f hf
      obtain ⟨r1, ⟨m, r2⟩, r3⟩ := Sp.spread_ok hp ht hev f c (d + 1) _ _ (by omega) h' (List.mem_append_left _ hf)
      refine ⟨r1, ⟨[tl.getD (Sp.oth d) 0] ++ m, by rw [r2, List.append_assoc]⟩, fun d' h1 h2 h3 => ?_⟩
      rcases Nat.lt_or_ge d d' with h4 | h4
      · exact r3 d' (by omega) h2 h3
      · rw [show d' = d by omega]
        rw [r1.lab _ hhN, if_pos (by rw [r2, hcast]; exact List.mem_append_left _ (List.mem_append_right _ (by simp)))]
        exact hp
    · rw [if_neg hc]
      obtain ⟨r1, ⟨m, r2⟩, r3⟩ := Sp.spread_ok hp ht hev f c (d + 1) of fd (by omega) h hf
      refine ⟨r1, ⟨m, r2⟩, fun d' h1 h2 h3 => ?_⟩
      rcases Nat.lt_or_ge d d' with h4 | h4
      · exact r3 d' (by omega) h2 h3
      · rw [show d' = d by omega] at h3 ⊢
        exact h.stay r1 hp (fun x hx => by rw [r2]; exact List.mem_append_left _ hx) hhN (fun e => hc ⟨h3, e⟩)
theorem Sp.flood_ok {tl of0 : List Int} {N : Nat} {v p : Int} (hp : p ≠ -1) (ht : ∀ x ∈ tl, 0 ≤ x ∧ x < (N : Int)) (hev : tl.length % 2 = 0) :
    ∀ g i of fd, i + g = N + 1 → i ≤ fd.length → Sp.FI tl of0 N v p of fd → (∀ j, j < i → ∀ d, d < tl.length → tl.getD d 0 = fd.getD j 0 → of.getD (tl.getD (Sp.oth d) 0).toNat 0 ≠ -1) →
      ∃ fd', Sp.FI tl of0 N v p (Sp.floodGo tl p g i of fd) fd' ∧ (∀ x ∈ fd, x ∈ fd') ∧ ∀ x ∈ fd', ∀ d, d < tl.length → tl.getD d 0 = x → (Sp.floodGo tl p g i of fd).getD (tl.getD (Sp.oth d) 0).toNat 0 ≠ -1
  | 0, i, of, fd, hi, hl, h, _ => by have := h.fit.le; omega
  | g + 1, i, of, fd, hi, hl, h, hd => by
    rw [Sp.floodGo]
    by_cases hc : i < fd.length
    · rw [if_pos hc]
      obtain ⟨r1, ⟨m, r2⟩, r3⟩ := Sp.spread_ok hp ht hev (fd.getD i 0) tl.length 0 of fd (by omega) h (Sp.getD_mem hc)
      obtain ⟨fd', s1, s2, s3⟩ := Sp.flood_ok hp ht hev g (i + 1) _ _ (by omega) (by rw [r2, List.length_append]; omega) r1 (fun j hj d hdl e => by
        have hg : (Sp.spreadGo tl (fd.getD i 0) p tl.length 0 of fd).2.getD j 0 = fd.getD j 0 := by
          rw [r2, List.getD_eq_getElem?_getD, List.getElem?_append_left (by omega), ← List.getD_eq_getElem?_getD]
        rw [hg] at e
        rcases Nat.lt_or_ge j i with h1 | h1
        · refine h.stay r1 hp (fun x hx => by rw [r2]; exact List.mem_append_left _ hx) ?_ (hd j h1 d hdl e)
          have := ht _ (Sp.getD_mem (oth_lt hdl hev))
          omega
        · rw [show j = i by omega] at e
          exact r3 d (Nat.zero_le _) hdl e)
      exact ⟨fd', s1, fun x hx => s2 x (by rw [r2]; exact List.mem_append_left _ hx), s3⟩
    · rw [if_neg hc]
      refine ⟨fd, h, fun _ hx => hx, fun x hx d hdl e => ?_⟩
      obtain ⟨j, hj, ej⟩ := List.mem_iff_getElem.1 hx
      exact hd j (by omega) d hdl (by rw [e, Sp.getD_eq _ _ hj, ej])
/-- One piece whole. -/
theorem Sp.flood_all {tl of0 : List Int} {N : Nat} {v : Nat} {p : Int} (hp : p ≠ -1) (ht : ∀ x ∈ tl, 0 ≤ x ∧ x < (N : Int)) (hev : tl.length % 2 = 0) (hl : of0.length = N) (hv : v < N) (h0 : of0.getD v 0 = -1)
    (hin : ∀ i j : Nat, i < N → j < N → Sp.Reach tl i j → of0.getD i 0 = of0.getD j 0) :
    (Sp.floodGo tl p (N + 1) 0 (of0.set v p) [(v : Int)]).length = N ∧ ∀ w : Nat, w < N → (Sp.Reach tl v w → (Sp.floodGo tl p (N + 1) 0 (of0.set v p) [(v : Int)]).getD w 0 = p) ∧ (¬ Sp.Reach tl v w → (Sp.floodGo tl p (N + 1) 0 (of0.set v p) [(v : Int)]).getD w 0 = of0.getD w 0) := by
  have hfi : Sp.FI tl of0 N v p (of0.set v p) [(v : Int)] := by
    refine ⟨by rw [List.length_set]; exact hl, ⟨by simp, fun x hx => by rw [List.mem_singleton] at hx; omega⟩, fun w hw => ?_, fun x hx => by rw [List.mem_singleton] at hx; rw [hx]; exact .refl _⟩
    rw [getD_set_eq _ _ _ _ (by omega)]
    by_cases e : w = v
    · rw [if_pos e, if_pos (by rw [e]; simp)]
    · rw [if_neg e, if_neg (by rw [List.mem_singleton]; omega)]
  obtain ⟨fd', s1, s2, s3⟩ := Sp.flood_ok hp ht hev (N + 1) 0 (of0.set v p) [(v : Int)] (by omega) (by simp) hfi (fun j hj => by omega)
  generalize Sp.floodGo tl p (N + 1) 0 (of0.set v p) [(v : Int)] = R at *
  have hmem : ∀ x, Sp.Reach tl v x → x ∈ fd' := fun x hx => by
    refine hx.ind (p := fun x => x ∈ fd') (s2 _ (by simp)) (fun d hd hr ih => ?_)
    have hb := ht _ (Sp.getD_mem (oth_lt hd hev))
    have hne := s3 _ ih d hd rfl
    have hN : (tl.getD (Sp.oth d) 0).toNat < N := by omega
    have hcast : (((tl.getD (Sp.oth d) 0).toNat : Nat) : Int) = tl.getD (Sp.oth d) 0 := by omega
    rw [s1.lab _ hN, hcast] at hne
    by_cases hm : tl.getD (Sp.oth d) 0 ∈ fd'
    · exact hm
    · rw [if_neg hm] at hne
      have e := hin v _ hv hN (by rw [hcast]; exact hr.step hd)
      exact absurd (by rw [← e]; exact h0) hne
  refine ⟨s1.len, fun w hw => ⟨fun hr => ?_, fun hr => ?_⟩⟩
  · rw [s1.lab w hw, if_pos (hmem _ hr)]
  · rw [s1.lab w hw, if_neg (fun hm => hr (s1.rch _ hm))]
theorem Sp.partsGo_st {tl : List Int} {N : Nat} (ht : ∀ x ∈ tl, 0 ≤ x ∧ x < (N : Int)) (hev : tl.length % 2 = 0) : ∀ c v of p, v + c = N → Sp.NSt N (fun i j => Sp.Reach tl i j) v of p → Sp.NSt N (fun i j => Sp.Reach tl i j) N (Sp.partsGo tl N c v of p).1 (Sp.partsGo tl N c v of p).2
  | 0, v, of, p, hv, h => by have e : N = v := by omega
                             subst e; exact h
  | c + 1, v, of, p, hv, h => by
    rw [Sp.partsGo]
    by_cases h0 : of.getD v 0 = -1
    · rw [if_pos h0]
      obtain ⟨f1, f2⟩ := Sp.flood_all (p := (p : Int)) (by omega) ht hev h.len (show v < N by omega) h0 h.inv
      exact Sp.partsGo_st ht hev c (v + 1) _ (p + 1) (by omega) (h.new (fun i => .refl _) (fun i j _ _ hr => hr.symm hev) (fun i j l h1 h2 => h1.trans h2) (by omega) h0 f1 (fun i hi hr => (f2 i hi).1 hr) (fun i hi hr => (f2 i hi).2 hr))
    · rw [if_neg h0]
      exact Sp.partsGo_st ht hev c (v + 1) of p (by omega) (h.old (by omega) h0)
/-- What Parts tells. -/
theorem Sp.pieces_st {q : Sp.Net} (hn : 0 ≤ q.n) (ht : ∀ x ∈ q.tail, 0 ≤ x ∧ x < q.n) (hev : q.tail.length % 2 = 0) : Sp.NSt q.n.toNat (fun i j => Sp.Reach q.tail i j) q.n.toNat (Sp.pieces q).1 (Sp.pieces q).2 := by
  unfold Sp.pieces
  exact Sp.partsGo_st (fun x hx => by have := ht x hx; omega) hev _ 0 _ 0 (by omega) (Sp.NSt.first _ _)
theorem Sp.pieces_one {q : Sp.Net} (hn : 1 ≤ q.n) (ht : ∀ x ∈ q.tail, 0 ≤ x ∧ x < q.n) (hev : q.tail.length % 2 = 0) (hc : ∀ v, 0 ≤ v → v < q.n → Sp.Reach q.tail 0 v) : (Sp.pieces q).2 = 1 := by
  have h := Sp.pieces_st (by omega) ht hev
  generalize (Sp.pieces q).1 = of at h
  generalize (Sp.pieces q).2 = k at h ⊢
  have e0 : of.getD 0 0 = 0 := by
    have h1 := h.num.rg.nn 0 (by rw [h.len]; omega)
    rcases Int.lt_or_le 0 (of.getD 0 0) with h2 | h2
    · obtain ⟨j, h3, -⟩ := h.num.rg.sm 0 (by rw [h.len]; omega) 0 (Int.le_refl _) h2
      omega
    · omega
  have hpos : 0 < k := by
    have := h.num.lt 0 (by rw [h.len]; omega)
    omega
  rcases Nat.lt_or_ge 1 k with h1 | h1
  · obtain ⟨i, h2, h3⟩ := h.num.on 1 h1
    rw [h.len] at h2
    have h4 := h.inv 0 i (by omega) h2 (hc i (by omega) (by omega))
    omega
  · omega
end Go.Proofs.Ytoegjnolccabjaa


