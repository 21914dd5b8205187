/- What the proof needs, part 9. -/
import Derived.Test.YtoegjnolccabjabL8
/- Package dual: Split. -/
namespace Go.Proofs.Ytoegjnolccabjab
open Go Go.RowKit

/-- The row of the faces of a face that was split. -/
def Sp.splitL (q : Sp.Net) (f d0 a jb : Nat) : List Int := Sp.splitAt (fun j => itf (Sp.fn (Sp.behindL q.next)) d0 (a + j)) ((max (Sp.faces2 q).2 1 : Nat) : Int) (f : Int) jb (Sp.faces2 q).1 (Sp.per (Sp.behindL q.next) d0)
set_option maxRecDepth 100000 in
set_option maxHeartbeats 4000000 in
theorem splitNone_any (q : Sp.Net) (v tv nv cv : Value) (s t : Int) (w : World) (hv : NetI w v q tv nv cv) (hq : Sp.LinkQ q) (hc : Sp.checkI q = 0) (hn0 : -9223372036854775808 ≤ q.n) (hn1 : q.n ≤ 9223372036854775807) (hs : (Sp.shared q s t).2 = false) :
    Calls Try.prog 30 #[v, .int .i64 s, .int .i64 t] w fun e w' => e = .returned (.tuple #[.slice none 0 0, .int .i64 0, .int .i64 0, .int .i64 0, .bool false]) ∧ Below w.heap.size w w' := by
  have hv' := hv
  obtain ⟨rfl, h1, h2, h3⟩ := hv
  obtain ⟨ta, tc, rfl, htc, htm⟩ := h1.form
  obtain ⟨na, nc, rfl, -, -⟩ := h2.form
  obtain ⟨ca, cc, rfl, -, -⟩ := h3.form
  clear h1 h2 h3
  obtain ⟨W1, hW1⟩ : ∃ W1, W1 = w.alloc (.cells #[.int .i64 q.n, .slice ta q.tail.length tc, .slice na q.next.length nc, .slice ca q.cap.length cc] 26) := ⟨_, rfl⟩
  have HBX := hide (box_new w q.n (.slice ta q.tail.length tc) (.slice na q.next.length nc) (.slice ca q.cap.length cc))
  rw [← hW1] at HBX
  have hb1 : Below w.heap.size w W1 := by rw [hW1]; exact (Below.refl _ w).alloc (Nat.le_refl _) _
  have hs1 : W1.heap.size = w.heap.size + 1 := by rw [hW1]; simp
  have HC := hide (shared_any q _ _ _ _ s t W1 (hv'.below hb1) hq hc hn0 hn1)
  rw [hs] at HC
  generalize (Sp.shared q s t).1 = R at *
  have HB : Hid (∀ w', Below W1.heap.size W1 w' → Below w.heap.size w w') := hide fun w' hb => hb1.trans (hb.mono (by omega))
  obtain ⟨x0, x1, x2, x3, -⟩ := unhide HBX W1 (Below.refl _ _)
  obtain ⟨P, hP⟩ : ∃ P : Ending → World → Prop, P = fun e w' => e = .returned (.tuple #[.slice none 0 0, .int .i64 0, .int .i64 0, .int .i64 0, .bool false]) ∧ Below w.heap.size w w' := ⟨_, rfl⟩
  rw [← hP]
  have HP := hide hP
  clear hv' hq hc hs hb1 hs1 hP
  subst hW1
  go_enter Try.func30, Try.ntmps30
  go_wp2_with fail
  go_at_call 40
  refine (unhide HC).mono ?_
  rintro e w2 ⟨rfl, hb2⟩
  have HB2 := hide (unhide HB _ hb2)
  clear hb2 x0 x1 x2 x3 HC
  go_wp2
  refine bodyPost_ret (v := .tuple #[.slice none 0 0, .int .i64 0, .int .i64 0, .int .i64 0, .bool false]) (by simp [results, Try.results30, go_sem]) rfl ?_
  rw [unhide HP]
  exact ⟨by rfl, unhide HB2⟩
set_option maxRecDepth 100000 in
set_option maxHeartbeats 4000000 in
theorem dsplit_any (q : Sp.Net) (v tv nv cv : Value) (s t : Int) (f d0 a jb : Nat) (w : World) (hv : NetI w v q tv nv cv) (hq : Sp.LinkQ q) (hw : Sp.walkB q = true) (hc : Sp.checkI q = 0) (hn0 : -9223372036854775808 ≤ q.n) (hn1 : q.n ≤ 9223372036854775807) (hs : Sp.SplitQ q s t f d0 a jb) :
    Calls Try.prog 30 #[v, .int .i64 s, .int .i64 t] w fun e w' => ∃ O, e = .returned (.tuple #[.slice (some ⟨O, 0, none⟩) q.tail.length q.tail.length, .int .i64 (((max (Sp.faces2 q).2 1 : Nat) : Int) + 1), .int .i64 (f : Int), .int .i64 ((max (Sp.faces2 q).2 1 : Nat) : Int), .bool true]) ∧ OwnI w' w.heap.size (.slice (some ⟨O, 0, none⟩) q.tail.length q.tail.length) (Sp.splitL q f d0 a jb) ∧ Below w.heap.size w w' := by
  have hv' := hv
  obtain ⟨rfl, h1, h2, h3⟩ := hv
  obtain ⟨ta, tc, rfl, htc, htm, HTa⟩ := h1.allG
  obtain ⟨na, nc, rfl, -, -⟩ := h2.form
  obtain ⟨ca, cc, rfl, -, -⟩ := h3.form
  clear h1 h2 h3
  have hbm := hq.pm.behind (by rw [hq.nx]; exact hq.ev)
  have hlb : (Sp.behindL q.next).length = q.tail.length := by rw [Sp.behindL_len, hq.nx]
  have hdb : d0 < (Sp.behindL q.next).length := by rw [hlb]; exact hs.d0l
  have hp60 : Sp.per (Sp.behindL q.next) d0 ≤ 60 := by have := (hbm.per hdb).2.1; rw [hlb] at this; have := hq.le; omega
  have hp1 : 1 ≤ Sp.per (Sp.behindL q.next) d0 := (hbm.per hdb).1
  obtain ⟨W1, hW1⟩ : ∃ W1, W1 = w.alloc (.cells #[.int .i64 q.n, .slice ta q.tail.length tc, .slice na q.next.length nc, .slice ca q.cap.length cc] 26) := ⟨_, rfl⟩
  have HBX := hide (box_new w q.n (.slice ta q.tail.length tc) (.slice na q.next.length nc) (.slice ca q.cap.length cc))
  rw [← hW1] at HBX
  have hb1 : Below w.heap.size w W1 := by rw [hW1]; exact (Below.refl _ w).alloc (Nat.le_refl _) _
  have hs1 : W1.heap.size = w.heap.size + 1 := by rw [hW1]; simp
  have HW : Hid (∀ w', Below (w.heap.size + 1) W1 w' → Below w.heap.size w w') := hide fun w' hb => hb1.trans (hb.mono (by omega))
  have HV : Hid (∀ w', Below (w.heap.size + 1) W1 w' → NetI w' (.agg #[.int .i64 q.n, .slice ta q.tail.length tc, .slice na q.next.length nc, .slice ca q.cap.length cc]) q (.slice ta q.tail.length tc) (.slice na q.next.length nc) (.slice ca q.cap.length cc)) := hide fun w' hb => hv'.below (unhide HW _ hb)
  have hbr : Below (w.heap.size + 1) W1 W1 := Below.refl _ _
  have HC := hide (shared_any q _ _ _ _ s t W1 (unhide HV W1 hbr) hq hc hn0 hn1)
  rw [hs.sh] at HC
  have HMo := hide (fun w' (hb : Below (w.heap.size + 1) W1 w') => meshOf_any q _ _ _ _ w' (unhide HV w' hb) hq.nx hq.le hq.ev hq.pm)
  have HMr := hide (fun w' O (h : MeshI w' (.agg #[.int .i64 q.n, .slice ta q.tail.length tc, .slice na q.next.length nc, .slice ca q.cap.length cc, .slice (some ⟨O, 0, none⟩) q.tail.length q.tail.length, .int .i64 ((max (Sp.faces2 q).2 1 : Nat) : Int)]) q (Sp.faces2 q).1 (max (Sp.faces2 q).2 1) (.slice ta q.tail.length tc) (.slice na q.next.length nc) (.slice ca q.cap.length cc) (.slice (some ⟨O, 0, none⟩) q.tail.length q.tail.length)) => mround_any q _ O _ _ _ _ s t f d0 a jb w' h hq hw hs)
  have HFl := hide (Sp.faces2_len q)
  have hK60 : max (Sp.faces2 q).2 1 ≤ 1000 := by have := Sp.faces2_le q; have := hq.le; omega
  have HSl : Hid (Sp.splitL q f d0 a jb = Sp.splitAt (fun j => itf (Sp.fn (Sp.behindL q.next)) d0 (a + j)) ((max (Sp.faces2 q).2 1 : Nat) : Int) (f : Int) jb (Sp.faces2 q).1 (Sp.per (Sp.behindL q.next) d0)) := hide rfl
  have HG : Hid (∀ j, j < Sp.per (Sp.behindL q.next) d0 → (Sp.rounds (Sp.behindL q.next) (itf (Sp.fn (Sp.behindL q.next)) d0 a : Nat) (Sp.per (Sp.behindL q.next) d0)).getD j 0 = ((itf (Sp.fn (Sp.behindL q.next)) d0 (a + j) : Nat) : Int) ∧ itf (Sp.fn (Sp.behindL q.next)) d0 (a + j) < q.tail.length) := hide fun j hj => by
    refine ⟨?_, by have := hbm.fnP.it hdb (a + j); rw [hlb] at this; exact this⟩
    rw [Sp.getD_eq _ _ (by rw [Sp.rounds_len]; exact hj)]
    simp only [Sp.rounds, List.getElem_map, List.getElem_range]
    rw [hbm.nth_it (hbm.fnP.it hdb a) j, ← itf_add]
  have HLl : Hid ((Sp.rounds (Sp.behindL q.next) (itf (Sp.fn (Sp.behindL q.next)) d0 a : Nat) (Sp.per (Sp.behindL q.next) d0)).length = Sp.per (Sp.behindL q.next) d0) := hide (Sp.rounds_len _ _ _)
  have HBt : Hid (q.tail.getD (itf (Sp.fn (Sp.behindL q.next)) d0 (a + jb)) 0 = t) := hide hs.bt
  have HBm : Hid (∀ j, j < jb → q.tail.getD (itf (Sp.fn (Sp.behindL q.next)) d0 (a + j)) 0 ≠ t) := hide hs.bm
  have hjp := hs.bl
  generalize Sp.splitL q f d0 a jb = R at *
  generalize Sp.rounds (Sp.behindL q.next) (itf (Sp.fn (Sp.behindL q.next)) d0 a : Nat) (Sp.per (Sp.behindL q.next) d0) = LB at *
  generalize Sp.per (Sp.behindL q.next) d0 = p at *
  obtain ⟨x, hx⟩ : ∃ x : Nat → Nat, x = fun j => itf (Sp.fn (Sp.behindL q.next)) d0 (a + j) := ⟨_, rfl⟩
  have hx' : ∀ j, itf (Sp.fn (Sp.behindL q.next)) d0 (a + j) = x j := fun j => by rw [hx]
  simp only [hx'] at HG HBt HBm HSl
  clear hx hx'
  generalize (Sp.faces2 q).1 = F at *
  generalize max (Sp.faces2 q).2 1 = K at *
  have HST : Hid (∀ j, Sp.splitAt x (K : Int) (f : Int) jb F (j + 1) = (Sp.splitAt x (K : Int) (f : Int) jb F j).set (x j) (if jb ≤ j then (K : Int) else (f : Int))) := hide fun j => rfl
  have HSL := hide (fun j => Sp.splitAt_len x (K : Int) (f : Int) jb F j)
  have HS0 : Hid (Sp.splitAt x (K : Int) (f : Int) jb F 0 = F) := hide rfl
  generalize Sp.splitAt x (K : Int) (f : Int) jb F = sp at *
  obtain ⟨P, hP⟩ : ∃ P : Ending → World → Prop, P = fun e w' => ∃ O, e = .returned (.tuple #[.slice (some ⟨O, 0, none⟩) q.tail.length q.tail.length, .int .i64 ((K : Int) + 1), .int .i64 (f : Int), .int .i64 (K : Int), .bool true]) ∧ OwnI w' w.heap.size (.slice (some ⟨O, 0, none⟩) q.tail.length q.tail.length) R ∧ Below w.heap.size w w' := ⟨_, rfl⟩
  rw [← hP]
  have HP := hide hP
  have Hs1 := hide hs1
  obtain ⟨x0, x1, x2, x3, -⟩ := unhide HBX W1 hbr
  clear hv' hP hs1 hb1 hq hc hs hw hbm hlb hdb
  subst hW1
  go_enter Try.func30, Try.ntmps30
  go_wp2_with fail
  go_at_call 40
  refine (unhide HC).mono ?_
  clear HC x0 x1 x2 x3
  generalize w.alloc (.cells #[.int .i64 q.n, .slice ta q.tail.length tc, .slice na q.next.length nc, .slice ca q.cap.length cc] 26) = W1 at *
  rintro e w2 ⟨rfl, hb2⟩
  rw [unhide Hs1] at hb2
  obtain ⟨x0, x1, x2, x3, hsz2⟩ := unhide HBX w2 hb2
  go_wp2_with fail
  go_at_call 41
  refine (unhide HMo w2 hb2).mono ?_
  clear HMo x0 x1 x2 x3
  rintro e w4 ⟨O, rfl, hO, hb4⟩
  have hb4' : Below (w.heap.size + 1) W1 w4 := hb2.trans (hb4.mono hsz2)
  have hs4 : w.heap.size + 1 ≤ w4.heap.size := Nat.le_trans hsz2 hb4.size
  have hOge : w.heap.size + 1 ≤ O := Nat.le_trans hsz2 (hO.lt O rfl).1
  have hOlt : O < w4.heap.size := (hO.lt O rfl).2
  obtain ⟨W5, hW5⟩ : ∃ W5, W5 = w4.alloc (.cells #[.int .i64 q.n, .slice ta q.tail.length tc, .slice na q.next.length nc, .slice ca q.cap.length cc, .slice (some ⟨O, 0, none⟩) q.tail.length q.tail.length, .int .i64 (K : Int)] 68) := ⟨_, rfl⟩
  have hb45 : Below w4.heap.size w4 W5 := by rw [hW5]; exact (Below.refl _ w4).alloc (Nat.le_refl _) _
  have hs5 : W5.heap.size = w4.heap.size + 1 := by rw [hW5]; simp
  have HS : Hid (∀ w', Below W5.heap.size W5 w' → w'.cell? ⟨w4.heap.size, 0, none⟩ = some (.int .i64 q.n) ∧ w'.cell? ⟨w4.heap.size, 1, none⟩ = some (.slice ta q.tail.length tc) ∧ w'.cell? ⟨w4.heap.size, 2, none⟩ = some (.slice na q.next.length nc) ∧ w'.cell? ⟨w4.heap.size, 3, none⟩ = some (.slice ca q.cap.length cc) ∧ w'.cell? ⟨w4.heap.size, 4, none⟩ = some (.slice (some ⟨O, 0, none⟩) q.tail.length q.tail.length) ∧ w'.cell? ⟨w4.heap.size, 5, none⟩ = some (.int .i64 (K : Int))) := hide fun w' hb => by
    rw [hs5] at hb
    rw [hW5] at hb
    obtain ⟨e0, e1, e2, e3, e4, e5, -⟩ := mesh_new w4 q.n _ _ _ _ _ w' hb
    exact ⟨e0, e1, e2, e3, e4, e5⟩
  have HBl : Hid (∀ w', Below W5.heap.size W5 w' → Below (w.heap.size + 1) W1 w') := hide fun w' hb => (hb4'.trans (hb45.mono hs4)).trans (hb.mono (by omega))
  have HO5 : Hid (∀ w', Below W5.heap.size W5 w' → OwnI w' w.heap.size (.slice (some ⟨O, 0, none⟩) q.tail.length q.tail.length) F) := hide fun w' hb => own_base (own_below (own_below hO hb45) hb) (by omega)
  have HMI : Hid (∀ w', Below W5.heap.size W5 w' → MeshI w' (.agg #[.int .i64 q.n, .slice ta q.tail.length tc, .slice na q.next.length nc, .slice ca q.cap.length cc, .slice (some ⟨O, 0, none⟩) q.tail.length q.tail.length, .int .i64 (K : Int)]) q F K (.slice ta q.tail.length tc) (.slice na q.next.length nc) (.slice ca q.cap.length cc) (.slice (some ⟨O, 0, none⟩) q.tail.length q.tail.length)) := hide fun w' hb => by
    have h := unhide HV w' (unhide HBl w' hb)
    exact ⟨rfl, h.tail, h.next, h.cap, (unhide HO5 w' hb).ints⟩
  have HRd := hide (fun w' (hb : Below W5.heap.size W5 w') => unhide HMr w' O (unhide HMI w' hb))
  have HW5 := hide hW5
  have hb5 : Below W5.heap.size W5 W5 := Below.refl _ _
  have Hs5 := hide hs5
  have HO1 := hide (And.intro hOge hOlt)
  have HM4 : Hid (w4.heap.size < W5.heap.size) := hide (by omega)
  clear hW5 hs5 hb45 hO hb4 hb2 hb4' hs4 hsz2 HMr HMI hOge hOlt hbr
  obtain ⟨x0, x1, x2, x3, x4, x5⟩ := unhide HS W5 hb5
  go_upto_region 7 with fail
  rw [← unhide HW5]
  go_wp2_with fail
  go_at_call 42
  refine (unhide HRd W5 hb5).mono ?_
  clear x0 x1 x2 x3 x4 x5 HRd
  rintro e w7 ⟨lv, rfl, hl7, hb7⟩
  obtain ⟨lb, lo, lc, hve, hlg, -, -, hop⟩ := mine_open hl7 (by rw [unhide HLl]; omega)
  rw [unhide HLl] at hve
  subst hve
  have hcl : ∀ j, j < p → w7.cell? ⟨lb, lo + j, none⟩ = some (.int .i64 ((x j : Nat) : Int)) := fun j hj => by
    have h := hl7.ints.cellD j (by rw [unhide HLl]; exact hj)
    rw [(unhide HG j hj).1] at h
    exact h
  have hlO : lb ≠ O := by have := (unhide HO1).2; have := unhide HM4; omega
  have HCL : Hid (∀ wr j, ButRow O w7 wr → j < p → wr.cell? ⟨lb, lo + j, none⟩ = some (.int .i64 ((x j : Nat) : Int))) := hide fun wr j h hj => (h.cell (by exact hlO)).trans (hcl j hj)
  have HX : Hid (∀ wr, ButRow O w7 wr → wr.cell? ⟨w.heap.size, 1, none⟩ = some (.slice ta q.tail.length tc) ∧ wr.cell? ⟨w4.heap.size, 4, none⟩ = some (.slice (some ⟨O, 0, none⟩) q.tail.length q.tail.length) ∧ wr.cell? ⟨w4.heap.size, 5, none⟩ = some (.int .i64 (K : Int))) := hide fun wr h => by
    have o1 := (unhide HO1).1
    have o2 := (unhide HO1).2
    exact ⟨(h.cell (by show w.heap.size ≠ O; omega)).trans (unhide HBX w7 (unhide HBl w7 hb7)).2.1, (h.cell (by show w4.heap.size ≠ O; omega)).trans (unhide HS w7 hb7).2.2.2.2.1, (h.cell (by show w4.heap.size ≠ O; omega)).trans (unhide HS w7 hb7).2.2.2.2.2⟩
  have HTl : Hid (∀ wr k, ButRow O w7 wr → k < q.tail.length → ∃ tb to', ta = some ⟨tb, to', none⟩ ∧ wr.cell? ⟨tb, to' + k, none⟩ = some (.int .i64 (q.tail.getD k 0))) := hide fun wr k h hk => by
    obtain ⟨tb, to', e1, e2, e3⟩ := unhide HTa k hk
    have o1 := (unhide HO1).1
    exact ⟨tb, to', e1, (h.cell (by show tb ≠ O; omega)).trans (e3 w7 (unhide HW _ (unhide HBl w7 hb7)))⟩
  have HI0 : Hid (OwnI w7 w.heap.size (.slice (some ⟨O, 0, none⟩) q.tail.length q.tail.length) (sp 0) ∧ ButRow O w7 w7 ∧ Below w.heap.size w w7) := hide ⟨by rw [unhide HS0]; exact unhide HO5 w7 hb7, ButRow.refl _ _, unhide HW _ (unhide HBl w7 hb7)⟩
  have HOw : Hid (w.heap.size ≤ O) := hide (by have := (unhide HO1).1; omega)
  clear hl7 hb7 hop hcl hlg HTa HO5 HS HBl
  go_wp2
  go_loopg [12, 34] p (fun g s12 s34 wr => ∃ j : Nat, j + g = p ∧ s34 = .int .i64 (j : Int) ∧ s12 = .int .i64 (if jb < j then (K : Int) else (f : Int)) ∧ Hid (OwnI wr w.heap.size (.slice (some ⟨O, 0, none⟩) q.tail.length q.tail.length) (sp j) ∧ ButRow O w7 wr ∧ Below w.heap.size w wr))
  case atStart => exact ⟨0, by omega, rfl, by rw [if_neg (by omega)], HI0⟩
  case round =>
    clear HI0
    obtain ⟨j, hjg, rfl, rfl, HI⟩ := hrel
    obtain ⟨y1, y4, y5⟩ := unhide HX wr (unhide HI).2.1
    cases gk with
    | zero =>
      obtain rfl : j = p := by omega
      have HB := hide (unhide HI).2.2
      have HO := hide (unhide HI).1
      have hkw : IntKind.i64.wrap ((K : Int) + 1) = (K : Int) + 1 := by rw [IntKind.wrap_i64]; omega
      clear HI
      go_wp2
      go_quiet (fail)
      go_wp2
      refine bodyPost_ret (v := .tuple #[.slice (some ⟨O, 0, none⟩) q.tail.length q.tail.length, .int .i64 ((K : Int) + 1), .int .i64 (f : Int), .int .i64 (K : Int), .bool true]) (by simp [results, Try.results30, go_sem]) rfl ?_
      rw [unhide HP, unhide HSl]
      exact ⟨O, rfl, own_below (unhide HO) (below_dn (Below.refl _ _) _), below_dn (unhide HB) _⟩
    | succ g' =>
      have hlt : j < p := by omega
      have hltI : (j : Int) < (p : Int) := by omega
      have c1 := unhide HCL wr j (unhide HI).2.1 hlt
      have hxl := (unhide HG j hlt).2
      obtain ⟨tb, t0, rfl, c2⟩ := unhide HTl wr (x j) (unhide HI).2.1 hxl
      have c3 := own_cell (unhide HI).1 (x j) (by rw [unhide HSL j, unhide HFl]; exact hxl)
      have f3 := own_frozen (unhide HI).1 (x j)
      have hxI : ((x j : Nat) : Int) < (q.tail.length : Int) := by omega
      have HN : Hid (∀ v : Int, v = (if jb ≤ j then (K : Int) else (f : Int)) → OwnI (wr.setCell ⟨O, x j, none⟩ (.int .i64 v)) w.heap.size (.slice (some ⟨O, 0, none⟩) q.tail.length q.tail.length) (sp (j + 1)) ∧ ButRow O w7 (wr.setCell ⟨O, x j, none⟩ (.int .i64 v)) ∧ Below w.heap.size w (wr.setCell ⟨O, x j, none⟩ (.int .i64 v))) := hide fun v hv => by
        refine ⟨?_, (unhide HI).2.1.setCell _ _, (unhide HI).2.2.setCell (by exact unhide HOw) _⟩
        rw [unhide HST j, ← hv]
        exact own_setCell (unhide HI).1 (x j) v
      have hcase : jb < j ∨ jb = j ∨ j < jb := by omega
      generalize (sp j)[x j]'_ = z at *
      clear HI
      rcases hcase with h | h | h
      · rw [if_pos h]
        have HN2 := hide (unhide HN (K : Int) (by rw [if_pos (by omega)]))
        have hE : (if jb < j + 1 then (K : Int) else (f : Int)) = K := if_pos (by omega)
        generalize q.tail.getD (x j) 0 = tz at *
        by_cases ht : tz = t
        · subst ht
          have e1 : (tz == tz) = true := beq_self_eq_true _
          go_wp2
          go_roundg g'
          case rel => exact ⟨j + 1, by omega, by go_num, by rw [hE], HN2⟩
          case measure => omega
        · have e1 : (tz == t) = false := beq_eq_false_iff_ne.2 ht
          go_wp2
          go_roundg g'
          case rel => exact ⟨j + 1, by omega, by go_num, by rw [hE], HN2⟩
          case measure => omega
      · subst h
        rw [unhide HBt] at c2
        rw [if_neg (by omega)]
        have HN2 := hide (unhide HN (K : Int) (by rw [if_pos (by omega)]))
        have hE : (if jb < jb + 1 then (K : Int) else (f : Int)) = K := if_pos (by omega)
        have e1 : (t == t) = true := beq_self_eq_true _
        go_wp2
        go_roundg g'
        case rel => exact ⟨jb + 1, by omega, by go_num, by rw [hE], HN2⟩
        case measure => omega
      · rw [if_neg (by omega)]
        have HN2 := hide (unhide HN (f : Int) (by rw [if_neg (by omega)]))
        have hE : (if jb < j + 1 then (K : Int) else (f : Int)) = f := if_neg (by omega)
        have ht := unhide HBm j h
        generalize q.tail.getD (x j) 0 = tz at *
        have e1 : (tz == t) = false := beq_eq_false_iff_ne.2 ht
        go_wp2
        go_roundg g'
        case rel => exact ⟨j + 1, by omega, by go_num, by rw [hE], HN2⟩
        case measure => omega
end Go.Proofs.Ytoegjnolccabjab


/- The reference's Split. -/
namespace Go.Proofs.Ytoegjnolccabjab
open Go Go.RowKit

theorem ButRow.dn {g : Nat} {w w' : World} (h : ButRow g w w') (n : Nat) : ButRow g w (w'.drewN n) := ⟨h.os, h.tape, h.output, h.size, h.block⟩
end Go.Proofs.Ytoegjnolccabjab


/- Package dual: the chapter's example and an edge, as the law has them. -/
namespace Go.Proofs.Ytoegjnolccabjab
open Go Go.RowKit

theorem q0_link : Sp.LinkQ Sp.q0 := ⟨rfl, rfl, by decide, rfl, ⟨by decide, by
  intro i j hi hj e
  have hi' : i < 2 := hi
  have hj' : j < 2 := hj
  rcases (show i = 0 ∨ i = 1 by omega) with rfl | rfl <;> rcases (show j = 0 ∨ j = 1 by omega) with rfl | rfl <;> simp_all [Sp.q0]⟩⟩
theorem q1_link : Sp.LinkQ Sp.q1 := ⟨rfl, rfl, by decide, rfl, ⟨by decide, fun i j hi => absurd hi (Nat.not_lt_zero _)⟩⟩
theorem q0_faces2 : Sp.faces2 Sp.q0 = ([0, 0], 1) := by decide +kernel
theorem q0_per : Sp.per (Sp.behindL Sp.q0.next) 0 = 2 := by decide +kernel
theorem q0_shared : Sp.shared Sp.q0 0 1 = (0, true) := by
  unfold Sp.shared
  rw [if_neg (by decide), q0_faces2]
  show Sp.sharedGo [0, 1] [0, 0] 0 1 1 0 = _
  rw [Sp.sharedGo, if_pos ⟨Sp.meetsB_true ⟨0, by decide, rfl, rfl⟩, Sp.meetsB_true ⟨1, by decide, rfl, rfl⟩⟩]
  rfl
theorem q0_split : Sp.SplitQ Sp.q0 0 1 0 0 0 1 := ⟨q0_shared, by decide, by rw [q0_faces2]; rfl, fun j hj => by omega, by rw [q0_per]; omega, rfl, fun j hj => by omega, by rw [q0_per]; omega, by omega, by decide +kernel, fun j hj => by
  obtain rfl : j = 0 := by omega
  decide +kernel⟩
theorem q0_splitL : Sp.splitL Sp.q0 0 0 0 1 = [0, 1] := by decide +kernel
end Go.Proofs.Ytoegjnolccabjab


/- What the program's Parts tells: labels numbered by their first ones, that tell the pieces apart. -/
namespace Go.Proofs.Ytoegjnolccabjab
open Go Go.RowKit

/-- Labels laid so far, by whatever tells places apart. -/
structure Sp.NSt (L : Nat) (E : Nat → Nat → Prop) (d : Nat) (of : List Int) (k : Nat) : Prop where
  len : of.length = L
  bd : ∀ i, i < L → of.getD i 0 = -1 ∨ (0 ≤ of.getD i 0 ∧ of.getD i 0 < (k : Int))
  done : ∀ i, i < d → 0 ≤ of.getD i 0
  inv : ∀ i j, i < L → j < L → E i j → of.getD i 0 = of.getD j 0
  sep : ∀ i j, i < L → j < L → 0 ≤ of.getD i 0 → of.getD i 0 = of.getD j 0 → E i j
  rg : ∀ i, i < d → ∀ c, 0 ≤ c → c < of.getD i 0 → ∃ j, j < i ∧ of.getD j 0 = c
  on : ∀ c : Nat, c < k → ∃ i, i < d ∧ of.getD i 0 = (c : Int)
theorem Sp.NSt.first (L : Nat) (E : Nat → Nat → Prop) : Sp.NSt L E 0 (List.replicate L (-1)) 0 := by
  refine ⟨by simp, fun i hi => .inl (getD_rep _ _ _ hi), fun i hi => by omega, fun i j hi hj _ => by rw [getD_rep _ _ _ hi, getD_rep _ _ _ hj], fun i j hi hj h => ?_, fun i hi => by omega, fun c hc => by omega⟩
  rw [getD_rep _ _ _ hi] at h
  omega
theorem Sp.NSt.old {L : Nat} {E : Nat → Nat → Prop} {d k : Nat} {of : List Int} (h : Sp.NSt L E d of k) (hd : d < L) (h0 : of.getD d 0 ≠ -1) : Sp.NSt L E (d + 1) of k := by
  have h0' : 0 ≤ of.getD d 0 ∧ of.getD d 0 < (k : Int) := by
    rcases h.bd d hd with e | e
    · exact absurd e h0
    · exact e
  refine ⟨h.len, h.bd, fun i hi => ?_, h.inv, h.sep, fun i hi c c0 c1 => ?_, fun c hc => ?_⟩
  · rcases Nat.lt_or_ge i d with h1 | h1
    · exact h.done i h1
    · rw [show i = d by omega]; exact h0'.1
  · rcases Nat.lt_or_ge i d with h1 | h1
    · exact h.rg i h1 c c0 c1
    · rw [show i = d by omega] at c1 ⊢
      obtain ⟨j, h2, h3⟩ := h.on c.toNat (by omega)
      exact ⟨j, h2, by rw [h3]; omega⟩
  · obtain ⟨i, h1, h2⟩ := h.on c hc
    exact ⟨i, by omega, h2⟩
theorem Sp.NSt.new {L : Nat} {E : Nat → Nat → Prop} {d k : Nat} {of of' : List Int} (h : Sp.NSt L E d of k) (hr : ∀ i, E i i) (hs : ∀ i j, i < L → j < L → E i j → E j i) (ht : ∀ i j l, E i j → E j l → E i l) (hd : d < L) (h0 : of.getD d 0 = -1) (hl : of'.length = L)
    (hE : ∀ i, i < L → E d i → of'.getD i 0 = (k : Int)) (hN : ∀ i, i < L → ¬ E d i → of'.getD i 0 = of.getD i 0) : Sp.NSt L E (d + 1) of' (k + 1) := by
  have hget : ∀ i, i < L → (E d i ∧ of'.getD i 0 = (k : Int) ∧ of.getD i 0 = -1) ∨ (¬ E d i ∧ of'.getD i 0 = of.getD i 0) := by
    intro i hi
    by_cases ho : E d i
    · exact .inl ⟨ho, hE i hi ho, by rw [← h.inv d i hd hi ho]; exact h0⟩
    · exact .inr ⟨ho, hN i hi ho⟩
  have hdk : of'.getD d 0 = (k : Int) := hE d hd (hr d)
  refine ⟨hl, fun i hi => ?_, fun i hi => ?_, fun i j hi hj e => ?_, fun i j hi hj hn e => ?_, fun i hi c c0 c1 => ?_, fun c hc => ?_⟩
  · rcases hget i hi with ⟨-, e, -⟩ | ⟨-, e⟩
    · right; rw [e]; omega
    · rw [e]; rcases h.bd i hi with e1 | e1
      · exact .inl e1
      · exact .inr ⟨e1.1, by omega⟩
  · rcases Nat.lt_or_ge i d with h1 | h1
    · rcases hget i (by omega) with ⟨-, e, -⟩ | ⟨-, e⟩
      · rw [e]; omega
      · rw [e]; exact h.done i h1
    · rw [show i = d by omega, hdk]; omega
  · rcases hget i hi with ⟨o, e1, -⟩ | ⟨o, e1⟩ <;> rcases hget j hj with ⟨o', e2, -⟩ | ⟨o', e2⟩
    · rw [e1, e2]
    · exact absurd (ht _ _ _ o e) o'
    · exact absurd (ht _ _ _ o' (hs i j hi hj e)) o
    · rw [e1, e2]; exact h.inv i j hi hj e
  · rcases hget i hi with ⟨o, e1, -⟩ | ⟨o, e1⟩ <;> rcases hget j hj with ⟨o', e2, -⟩ | ⟨o', e2⟩
    · exact ht _ _ _ (hs d i hd hi o) o'
    · rw [e1, e2] at e
      rcases h.bd j hj with e3 | e3 <;> omega
    · rw [e1, e2] at e
      rcases h.bd i hi with e3 | e3 <;> omega
    · rw [e1, e2] at e
      rw [e1] at hn
      exact h.sep i j hi hj hn e
  · rcases Nat.lt_or_ge i d with h1 | h1
    · rcases hget i (by omega) with ⟨-, -, e⟩ | ⟨-, e⟩
      · have := h.done i h1; omega
      · rw [e] at c1
        obtain ⟨j, h2, h3⟩ := h.rg i h1 c c0 c1
        refine ⟨j, h2, ?_⟩
        rcases hget j (by omega) with ⟨-, -, e'⟩ | ⟨-, e'⟩
        · omega
        · rw [e', h3]
    · rw [show i = d by omega] at c1 ⊢
      rw [hdk] at c1
      obtain ⟨j, h2, h3⟩ := h.on c.toNat (by omega)
      refine ⟨j, h2, ?_⟩
      rcases hget j (by omega) with ⟨-, -, e'⟩ | ⟨-, e'⟩
      · omega
      · rw [e', h3]; omega
  · by_cases hk : c = k
    · exact ⟨d, by omega, by rw [hdk, hk]⟩
    · obtain ⟨i, h1, h2⟩ := h.on c (by omega)
      refine ⟨i, by omega, ?_⟩
      rcases hget i (by omega) with ⟨-, -, e'⟩ | ⟨-, e'⟩
      · omega
      · rw [e', h2]
theorem Sp.NSt.num {L : Nat} {E : Nat → Nat → Prop} {of : List Int} {k : Nat} (h : Sp.NSt L E L of k) : Sp.Num of k := by
  refine ⟨⟨fun i hi => h.done i (by rw [← h.len]; exact hi), fun i hi => h.rg i (by rw [← h.len]; exact hi)⟩, fun i hi => ?_, fun c hc => ?_⟩
  · rw [h.len] at hi
    have := h.done i hi
    rcases h.bd i hi with e | e <;> omega
  · obtain ⟨i, h1, h2⟩ := h.on c hc
    exact ⟨i, by rw [h.len]; exact h1, h2⟩
theorem Sp.NSt.uniq {L : Nat} {E : Nat → Nat → Prop} {of of' : List Int} {k k' : Nat} (h : Sp.NSt L E L of k) (h' : Sp.NSt L E L of' k') : of = of' ∧ k = k' := by
  have e : of = of' := Sp.RG.uniq h.num.rg h'.num.rg (by rw [h.len, h'.len]) (fun i j hi hj => by
    rw [h.len] at hi hj
    constructor
    · intro e; exact h'.inv i j hi hj (h.sep i j hi hj (h.done i hi) e)
    · intro e; exact h.inv i j hi hj (h'.sep i j hi hj (h'.done i hi) e))
  refine ⟨e, ?_⟩
  subst e
  exact h.num.count h'.num
theorem Sp.Reach.trans {tl : List Int} {u v z : Int} (h : Sp.Reach tl u v) (h' : Sp.Reach tl v z) : Sp.Reach tl u z :=
  h'.ind (p := fun z => Sp.Reach tl u z) h (fun _ hd _ ih => ih.step hd)
theorem Sp.Reach.symm {tl : List Int} (hev : tl.length % 2 = 0) {u v : Int} (h : Sp.Reach tl u v) : Sp.Reach tl v u := by
  refine h.ind (p := fun v => Sp.Reach tl v u) (.refl _) (fun d hd _ ih => ?_)
  have ho := oth_lt hd hev
  have h1 : Sp.Reach tl (tl.getD (Sp.oth d) 0) (tl.getD (Sp.oth (Sp.oth d)) 0) := (Sp.Reach.refl _).step ho
  rw [oth_oth] at h1
  exact h1.trans ih
theorem Sp.Reach.bd {tl : List Int} {n : Int} (ht : ∀ x ∈ tl, 0 ≤ x ∧ x < n) (hev : tl.length % 2 = 0) {u v : Int} (hu : 0 ≤ u ∧ u < n) (h : Sp.Reach tl u v) : 0 ≤ v ∧ v < n :=
  h.ind (p := fun v => 0 ≤ v ∧ v < n) hu (fun _ hd _ _ => ht _ (Sp.getD_mem (oth_lt hd hev)))
/-- One piece on the way: who was found. -/
structure Sp.FI (tl of0 : List Int) (N : Nat) (v p : Int) (of fd : List Int) : Prop where
  len : of.length = N
  fit : RFit N fd
  lab : ∀ w : Nat, w < N → of.getD w 0 = if (w : Int) ∈ fd then p else of0.getD w 0
  rch : ∀ x ∈ fd, Sp.Reach tl v x
theorem Sp.FI.stay {tl of0 : List Int} {N : Nat} {v p : Int} {of fd of' fd' : List Int} (h : Sp.FI tl of0 N v p of fd) (h' : Sp.FI tl of0 N v p of' fd') (hp : p ≠ -1) (hs : ∀ x ∈ fd, x ∈ fd') {w : Nat} (hw : w < N) (hn : of.getD w 0 ≠ -1) : of'.getD w 0 ≠ -1 := by
  rw [h'.lab w hw]
  split
  · exact hp
  · rename_i hm
    rw [h.lab w hw, if_neg (fun h2 => hm (hs _ h2))] at hn
    exact hn
theorem Sp.spread_ok {tl of0 : List Int} {N : Nat} {v p : Int} (hp : p ≠ -1) (ht : ∀ x ∈ tl, 0 ≤ x ∧ x < (N : Int)) (hev : tl.length % 2 = 0) (f : Int) :
    ∀ c d of fd, d + c = tl.length → Sp.FI tl of0 N v p of fd → f ∈ fd →
      Sp.FI tl of0 N v p (Sp.spreadGo tl f p c d of fd).1 (Sp.spreadGo tl f p c d of fd).2 ∧ (∃ m, (Sp.spreadGo tl f p c d of fd).2 = fd ++ m) ∧ ∀ d', d ≤ d' → d' < tl.length → tl.getD d' 0 = f → (Sp.spreadGo tl f p c d of fd).1.getD (tl.getD (Sp.oth d') 0).toNat 0 ≠ -1
  | 0, d, of, fd, hd, h, _ => ⟨h, ⟨[], by simp [Sp.spreadGo]⟩, fun d' h1 h2 => by omega⟩
  | c + 1, d, of, fd, hd, h, hf => by
    have hdl : d < tl.length := by omega
    have hh := ht _ (Sp.getD_mem (oth_lt hdl hev))
    have hhN : (tl.getD (Sp.oth d) 0).toNat < N := by omega
    have hcast : (((tl.getD (Sp.oth d) 0).toNat : Nat) : Int) = tl.getD (Sp.oth d) 0 := by omega
    rw [Sp.spreadGo]
    by_cases hc : tl.getD d 0 = f ∧ of.getD (tl.getD (Sp.oth d) 0).toNat 0 = -1
    · rw [if_pos hc]
      have hnm : ¬ tl.getD (Sp.oth d) 0 ∈ fd := fun hm => by
        have e := h.lab _ hhN
        rw [hcast, if_pos hm, hc.2] at e
        exact hp e.symm
      have hfit := h.fit.snoc (tl.getD (Sp.oth d) 0).toNat hhN (by rw [hcast]; exact hnm)
      rw [hcast] at hfit
      have h' : Sp.FI tl of0 N v p (of.set (tl.getD (Sp.oth d) 0).toNat p) (fd ++ [tl.getD (Sp.oth d) 0]) := by
        refine ⟨by rw [List.length_set]; exact h.len, hfit, fun w hw => ?_, fun x hx => ?_⟩
        · rw [getD_set_eq _ _ _ _ (by rw [h.len]; exact hhN)]
          by_cases e : w = (tl.getD (Sp.oth d) 0).toNat
          · rw [if_pos e, if_pos (List.mem_append_right _ (by rw [e, hcast]; simp))]
          · rw [if_neg e, h.lab w hw]
            by_cases hm : (w : Int) ∈ fd
            · rw [if_pos hm, if_pos (List.mem_append_left _ hm)]
            · rw [if_neg hm, if_neg (fun h2 => by
                rcases List.mem_append.1 h2 with h3 | h3
                · exact hm h3
                · rw [List.mem_singleton] at h3
                  omega)]
        · rcases List.mem_append.1 hx with h3 | h3
          · exact h.rch x h3
          · rw [List.mem_singleton] at h3
            rw [h3]
            refine Sp.Reach.step ?_ hdl
            rw [hc.1]
            exact h.rch f hf
      obtain ⟨r1, ⟨m, r2⟩, r3⟩ := Sp.spread_ok hp ht hev f c (d + 1) _ _ (by omega) h' (List.mem_append_left _ hf)
      refine ⟨r1, ⟨[tl.getD (Sp.oth d) 0] ++ m, by rw [r2, List.append_assoc]⟩, fun d' h1 h2 h3 => ?_⟩
      rcases Nat.lt_or_ge d d' with h4 | h4
      · exact r3 d' (by omega) h2 h3
      · rw [show d' = d by omega]
        rw [r1.lab _ hhN, if_pos (by rw [r2, hcast]; exact List.mem_append_left _ (List.mem_append_right _ (by simp)))]
        exact hp
    · rw [if_neg hc]
      obtain ⟨r1, ⟨m, r2⟩, r3⟩ := Sp.spread_ok hp ht hev f c (d + 1) of fd (by omega) h hf
      refine ⟨r1, ⟨m, r2⟩, fun d' h1 h2 h3 => ?_⟩
      rcases Nat.lt_or_ge d d' with h4 | h4
      · exact r3 d' (by omega) h2 h3
      · rw [show d' = d by omega] at h3 ⊢
        exact h.stay r1 hp (fun x hx => by rw [r2]; exact List.mem_append_left _ hx) hhN (fun e => hc ⟨h3, e⟩)
theorem Sp.flood_ok {tl of0 : List Int} {N : Nat} {v p : Int} (hp : p ≠ -1) (ht : ∀ x ∈ tl, 0 ≤ x ∧ x < (N : Int)) (hev : tl.length % 2 = 0) :
    ∀ g i of fd, i + g = N + 1 → i ≤ fd.length → Sp.FI tl of0 N v p of fd → (∀ j, j < i → ∀ d, d < tl.length → tl.getD d 0 = fd.getD j 0 → of.getD (tl.getD (Sp.oth d) 0).toNat 0 ≠ -1) →
      ∃ fd', Sp.FI tl of0 N v p (Sp.floodGo tl p g i of fd) fd' ∧ (∀ x ∈ fd, x ∈ fd') ∧ ∀ x ∈ fd', ∀ d, d < tl.length → tl.getD d 0 = x → (Sp.floodGo tl p g i of fd).getD (tl.getD (Sp.oth d) 0).toNat 0 ≠ -1
  | 0, i, of, fd, hi, hl, h, _ => by have := h.fit.le; omega
  | g + 1, i, of, fd, hi, hl, h, hd => by
    rw [Sp.floodGo]
    by_cases hc : i < fd.length
    · rw [if_pos hc]
      obtain ⟨r1, ⟨m, r2⟩, r3⟩ := Sp.spread_ok hp ht hev (fd.getD i 0) tl.length 0 of fd (by omega) h (Sp.getD_mem hc)
      obtain ⟨fd', s1, s2, s3⟩ := Sp.flood_ok hp ht hev g (i + 1) _ _ (by omega) (by rw [r2, List.length_append]; omega) r1 (fun j hj d hdl e => by
        have hg : (Sp.spreadGo tl (fd.getD i 0) p tl.length 0 of fd).2.getD j 0 = fd.getD j 0 := by
          rw [r2, List.getD_eq_getElem?_getD, List.getElem?_append_left (by omega), ← List.getD_eq_getElem?_getD]
        rw [hg] at e
        rcases Nat.lt_or_ge j i with h1 | h1
        · refine h.stay r1 hp (fun x hx => by rw [r2]; exact List.mem_append_left _ hx) ?_ (hd j h1 d hdl e)
          have := ht _ (Sp.getD_mem (oth_lt hdl hev))
          omega
        · rw [show j = i by omega] at e
          exact r3 d (Nat.zero_le _) hdl e)
      exact ⟨fd', s1, fun x hx => s2 x (by rw [r2]; exact List.mem_append_left _ hx), s3⟩
    · rw [if_neg hc]
      refine ⟨fd, h, fun _ hx => hx, fun x hx d hdl e => ?_⟩
      obtain ⟨j, hj, ej⟩ := List.mem_iff_getElem.1 hx
      exact hd j (by omega) d hdl (by rw [e, Sp.getD_eq _ _ hj, ej])
/-- One piece whole. -/
theorem Sp.flood_all {tl of0 : List Int} {N : Nat} {v : Nat} {p : Int} (hp : p ≠ -1) (ht : ∀ x ∈ tl, 0 ≤ x ∧ x < (N : Int)) (hev : tl.length % 2 = 0) (hl : of0.length = N) (hv : v < N) (h0 : of0.getD v 0 = -1)
    (hin : ∀ i j : Nat, i < N → j < N → Sp.Reach tl i j → of0.getD i 0 = of0.getD j 0) :
    (Sp.floodGo tl p (N + 1) 0 (of0.set v p) [(v : Int)]).length = N ∧ ∀ w : Nat, w < N → (Sp.Reach tl v w → (Sp.floodGo tl p (N + 1) 0 (of0.set v p) [(v : Int)]).getD w 0 = p) ∧ (¬ Sp.Reach tl v w → (Sp.floodGo tl p (N + 1) 0 (of0.set v p) [(v : Int)]).getD w 0 = of0.getD w 0) := by
  have hfi : Sp.FI tl of0 N v p (of0.set v p) [(v : Int)] := by
    refine ⟨by rw [List.length_set]; exact hl, ⟨by simp, fun x hx => by rw [List.mem_singleton] at hx; omega⟩, fun w hw => ?_, fun x hx => by rw [List.mem_singleton] at hx; rw [hx]; exact .refl _⟩
    rw [getD_set_eq _ _ _ _ (by omega)]
    by_cases e : w = v
    · rw [if_pos e, if_pos (by rw [e]; simp)]
    · rw [if_neg e, if_neg (by rw [List.mem_singleton]; omega)]
  obtain ⟨fd', s1, s2, s3⟩ := Sp.flood_ok hp ht hev (N + 1) 0 (of0.set v p) [(v : Int)] (by omega) (by simp) hfi (fun j hj => by omega)
  generalize Sp.floodGo tl p (N + 1) 0 (of0.set v p) [(v : Int)] = R at *
  have hmem : ∀ x, Sp.Reach tl v x → x ∈ fd' := fun x hx => by
    refine hx.ind (p := fun x => x ∈ fd') (s2 _ (by simp)) (fun d hd hr ih => ?_)
    have hb := ht _ (Sp.getD_mem (oth_lt hd hev))
    have hne := s3 _ ih d hd rfl
    have hN : (tl.getD (Sp.oth d) 0).toNat < N := by omega
    have hcast : (((tl.getD (Sp.oth d) 0).toNat : Nat) : Int) = tl.getD (Sp.oth d) 0 := by omega
    rw [s1.lab _ hN, hcast] at hne
    by_cases hm : tl.getD (Sp.oth d) 0 ∈ fd'
    · exact hm
    · rw [if_neg hm] at hne
      have e := hin v _ hv hN (by rw [hcast]; exact hr.step hd)
      exact absurd (by rw [← e]; exact h0) hne
  refine ⟨s1.len, fun w hw => ⟨fun hr => ?_, fun hr => ?_⟩⟩
  · rw [s1.lab w hw, if_pos (hmem _ hr)]
  · rw [s1.lab w hw, if_neg (fun hm => hr (s1.rch _ hm))]
theorem Sp.partsGo_st {tl : List Int} {N : Nat} (ht : ∀ x ∈ tl, 0 ≤ x ∧ x < (N : Int)) (hev : tl.length % 2 = 0) : ∀ c v of p, v + c = N → Sp.NSt N (fun i j => Sp.Reach tl i j) v of p → Sp.NSt N (fun i j => Sp.Reach tl i j) N (Sp.partsGo tl N c v of p).1 (Sp.partsGo tl N c v of p).2
  | 0, v, of, p, hv, h => by have e : N = v := by omega
                             subst e; exact h
  | c + 1, v, of, p, hv, h => by
    rw [Sp.partsGo]
    by_cases h0 : of.getD v 0 = -1
    · rw [if_pos h0]
      obtain ⟨f1, f2⟩ := Sp.flood_all (p := (p : Int)) (by omega) ht hev h.len (show v < N by omega) h0 h.inv
      exact Sp.partsGo_st ht hev c (v + 1) _ (p + 1) (by omega) (h.new (fun i => .refl _) (fun i j _ _ hr => hr.symm hev) (fun i j l h1 h2 => h1.trans h2) (by omega) h0 f1 (fun i hi hr => (f2 i hi).1 hr) (fun i hi hr => (f2 i hi).2 hr))
    · rw [if_neg h0]
      exact Sp.partsGo_st ht hev c (v + 1) of p (by omega) (h.old (by omega) h0)
/-- What Parts tells. -/
theorem Sp.pieces_st {q : Sp.Net} (hn : 0 ≤ q.n) (ht : ∀ x ∈ q.tail, 0 ≤ x ∧ x < q.n) (hev : q.tail.length % 2 = 0) : Sp.NSt q.n.toNat (fun i j => Sp.Reach q.tail i j) q.n.toNat (Sp.pieces q).1 (Sp.pieces q).2 := by
  unfold Sp.pieces
  exact Sp.partsGo_st (fun x hx => by have := ht x hx; omega) hev _ 0 _ 0 (by omega) (Sp.NSt.first _ _)
theorem Sp.pieces_one {q : Sp.Net} (hn : 1 ≤ q.n) (ht : ∀ x ∈ q.tail, 0 ≤ x ∧ x < q.n) (hev : q.tail.length % 2 = 0) (hc : ∀ v, 0 ≤ v → v < q.n → Sp.Reach q.tail 0 v) : (Sp.pieces q).2 = 1 := by
  have h := Sp.pieces_st (by omega) ht hev
  generalize (Sp.pieces q).1 = of at h
  generalize (Sp.pieces q).2 = k at h ⊢
  have e0 : of.getD 0 0 = 0 := by
    have h1 := h.num.rg.nn 0 (by rw [h.len]; omega)
    rcases Int.lt_or_le 0 (of.getD 0 0) with h2 | h2
    · obtain ⟨j, h3, -⟩ := h.num.rg.sm 0 (by rw [h.len]; omega) 0 (Int.le_refl _) h2
      omega
    · omega
  have hpos : 0 < k := by
    have := h.num.lt 0 (by rw [h.len]; omega)
    omega
  rcases Nat.lt_or_ge 1 k with h1 | h1
  · obtain ⟨i, h2, h3⟩ := h.num.on 1 h1
    rw [h.len] at h2
    have h4 := h.inv 0 i (by omega) h2 (hc i (by omega) (by omega))
    omega
  · omega
end Go.Proofs.Ytoegjnolccabjab


/- A plane net is told so; a plane net turned is plane. -/
namespace Go.Proofs.Ytoegjnolccabjab
open Go Go.RowKit

def Sp.turnC (tl : List Int) : List (List Int) → List Int → Bool
  | [], _ => true
  | r :: c, bg => if tl.getD (r.getD 0 0).toNat 0 ∈ bg then false
      else if r.all (fun d => tl.getD d.toNat 0 == tl.getD (r.getD 0 0).toNat 0) then Sp.turnC tl c (bg ++ [tl.getD (r.getD 0 0).toNat 0]) else false
theorem Sp.turnGo_cyc (tl : List Int) : ∀ (c : List (List Int)) (a bg : List Int), (∀ r ∈ c, r ≠ []) → Sp.turnGo tl (a ++ c.flatten) (Sp.offs a.length c) bg = Sp.turnC tl c bg
  | [], _, _, _ => rfl
  | r :: c, a, bg, h => by
    have e : a ++ (r :: c).flatten = a ++ (r ++ c.flatten) := by simp
    have hr := h r (by simp)
    have hg : (a ++ (r ++ c.flatten)).getD a.length 0 = r.getD 0 0 := by
      rw [List.getD_eq_getElem?_getD, List.getElem?_append_right (Nat.le_refl _), Nat.sub_self]
      cases r with
      | nil => exact absurd rfl hr
      | cons x r => rfl
    show (if tl.getD ((a ++ (r :: c).flatten).getD a.length 0).toNat 0 ∈ bg then false
      else if (Sp.piece (a ++ (r :: c).flatten) (a.length, a.length + r.length)).all (fun d => tl.getD d.toNat 0 == tl.getD ((a ++ (r :: c).flatten).getD a.length 0).toNat 0) then Sp.turnGo tl (a ++ (r :: c).flatten) (Sp.offs (a.length + r.length) c) (bg ++ [tl.getD ((a ++ (r :: c).flatten).getD a.length 0).toNat 0]) else false) = _
    rw [e, Sp.piece_at, hg]
    have ih := Sp.turnGo_cyc tl c (a ++ r) (bg ++ [tl.getD (r.getD 0 0).toNat 0]) (fun r' hr' => h r' (by simp [hr']))
    rw [List.length_append, List.append_assoc] at ih
    rw [ih]
    rfl
theorem rounds_head {st : List Int} (hp : Sp.Perm st) {d : Nat} (hd : d < st.length) : (Sp.rounds st d (Sp.per st d)).getD 0 0 = (d : Int) ∧ Sp.rounds st d (Sp.per st d) ≠ [] := by
  have h1 := (hp.per hd).1
  constructor
  · rw [Sp.getD_eq _ _ (by rw [Sp.rounds_len]; omega)]
    simp [Sp.rounds, Sp.nth]
  · intro e
    have := congrArg List.length e
    rw [Sp.rounds_len] at this
    simp at this
    omega
theorem Sp.turnC_of {st tl : List Int} (hp : Sp.Perm st) (hT : ∀ i, i < st.length → tl.getD (Sp.fn st i) 0 = tl.getD i 0) (hS : ∀ i j, i < st.length → j < st.length → tl.getD i 0 = tl.getD j 0 → OrbF (Sp.fn st) i j) :
    ∀ f d row bg, d + f = st.length → Sp.Shut st row → (∀ b ∈ bg, ∃ i : Nat, i < st.length ∧ (i : Int) ∈ row ∧ tl.getD i 0 = b) → Sp.turnC tl (Sp.cyc st f d row) bg = true
  | 0, _, _, _, _, _, _ => rfl
  | f + 1, d, row, bg, hd, hs, hb => by
    have hdl : d < st.length := by omega
    rw [Sp.cyc]
    by_cases hm : (d : Int) ∈ row
    · rw [if_pos hm]
      exact Sp.turnC_of hp hT hS f (d + 1) row bg (by omega) hs hb
    · rw [if_neg hm, Sp.turnC, (rounds_head hp hdl).1, Int.toNat_natCast]
      have hnb : ¬ tl.getD d 0 ∈ bg := fun h => by
        obtain ⟨i, h1, h2, h3⟩ := hb _ h
        exact hm (hs.orb hp h1 h2 (hS i d h1 hdl h3))
      have hall : (Sp.rounds st d (Sp.per st d)).all (fun x => tl.getD x.toNat 0 == tl.getD d 0) = true := by
        rw [List.all_eq_true]
        intro x hx
        obtain ⟨j, rfl, m, rfl⟩ := (hp.mem_rounds hdl x).1 hx
        rw [Int.toNat_natCast, beq_iff_eq]
        clear hx
        induction m with
        | zero => rfl
        | succ m ih => exact (hT _ (hp.fnP.it hdl m)).trans ih
      rw [if_neg hnb, if_pos hall]
      refine Sp.turnC_of hp hT hS f (d + 1) _ _ (by omega) (hs.add hp hdl) (fun b hb' => ?_)
      rcases List.mem_append.1 hb' with h1 | h1
      · obtain ⟨i, h2, h3, h4⟩ := hb b h1
        exact ⟨i, h2, List.mem_append_left _ h3, h4⟩
      · rw [List.mem_singleton] at h1
        exact ⟨d, hdl, List.mem_append_right _ ((hp.mem_rounds hdl _).2 ⟨d, rfl, OrbF.refl _ _⟩), h1.symm⟩
theorem Sp.turning_of {q : Sp.Net} (hp : Sp.Perm q.next) (hT : ∀ i, i < q.next.length → q.tail.getD (Sp.fn q.next i) 0 = q.tail.getD i 0) (hS : ∀ i j, i < q.next.length → j < q.next.length → q.tail.getD i 0 = q.tail.getD j 0 → OrbF (Sp.fn q.next) i j) : Sp.turningB q = true := by
  unfold Sp.turningB
  rw [Sp.rndsD_cyc hp, Sp.rnds_cyc hp]
  have h := Sp.turnGo_cyc q.tail (Sp.cycs q.next) [] [] (fun r hr => by
    obtain ⟨e, he, rfl⟩ := Sp.cyc_pos hp _ 0 [] (by omega) r hr
    exact (rounds_head hp he).2)
  rw [List.nil_append] at h
  have h2 := Sp.turnC_of hp hT hS q.next.length 0 [] [] (by omega) (fun i _ h => by simp at h) (fun b hb => by simp at hb)
  show (Sp.turnGo q.tail (Sp.cycs q.next).flatten (Sp.offs ([] : List Int).length (Sp.cycs q.next)) [] && true) = true
  rw [h, Bool.and_true]
  exact h2
theorem toNat_inj' {a b : Int} (ha : 0 ≤ a) (hb : 0 ≤ b) (h : a.toNat = b.toNat) : a = b := by omega
/-- The vertices' rounds, as the program asks for them. -/
theorem Sp.turning_cls {q : Sp.Net} (hp : Sp.Perm q.next) (hl : q.next.length = q.tail.length) (ht : ∀ x ∈ q.tail, 0 ≤ x ∧ x < q.n) (hv : Cls q.tail.length (Sp.fn q.next) (fun i => (q.tail.getD i 0).toNat) q.n.toNat) : Sp.turningB q = true := by
  have hb : ∀ i, i < q.tail.length → 0 ≤ q.tail.getD i 0 := fun i hi => (ht _ (Sp.getD_mem hi)).1
  have hmp : ∀ i, i < q.tail.length → Sp.fn q.next i < q.tail.length := fun i hi => by have := hp.fnP.mp i (by rw [hl]; exact hi); rw [hl] at this; exact this
  refine Sp.turning_of hp (fun i hi => ?_) (fun i j hi hj e => ?_)
  · rw [hl] at hi
    exact toNat_inj' (hb _ (hmp i hi)) (hb i hi) (hv.inv i hi)
  · rw [hl] at hi hj
    exact hv.sep i j hi hj (by show (q.tail.getD i 0).toNat = _; rw [e])
/-- A plane net that has darts is told so. -/
theorem Sp.check_plain {q : Sp.Net} (hw : Sp.walkB q = true) (hn : 1 ≤ q.n) (hp : Sp.Perm q.next) (hc : ∀ x ∈ q.cap, 0 ≤ x ∧ x ≤ 2147483648) (hl0 : 0 < q.tail.length) (h : Sp.Plain q) : Sp.checkI q = 0 := by
  have hq := walkQ hw
  have hw' := hw
  simp only [Sp.walkB, Bool.and_eq_true] at hw'
  obtain ⟨w1, w2, w3⟩ := hw'
  have hheld : Sp.heldB q = true := by
    unfold Sp.heldB Sp.capB
    rw [List.all_eq_true]
    intro x hx
    have := hc x hx
    simp [this]
  have htu := Sp.turning_cls hp hq.nx hq.tb h.vert
  have hpc := Sp.pieces_one hn hq.tb hq.ev h.conn
  obtain ⟨lab, F, hf, hE⟩ := h.face
  have hst := (Sp.faces2_st hp hq.nx hq.ev).cls
  rw [Sp.behindL_len, hq.nx] at hst
  have hmp : ∀ i, i < q.tail.length → Sp.fn (Sp.behindL q.next) i < q.tail.length := fun i hi => by
    have := (hp.behind (by rw [hq.nx]; exact hq.ev)).fnP.mp i (by rw [Sp.behindL_len, hq.nx]; exact hi)
    rw [Sp.behindL_len, hq.nx] at this; exact this
  have hK := hst.count hmp hf
  have hF0 : 0 < F := by have := hf.lt 0 hl0; omega
  have hfn : Sp.facesN q = F := by rw [(Sp.faces_eq hp hq.nx hq.ev).2, hK]; omega
  unfold Sp.checkI
  rw [if_neg (by rw [w1]; decide), if_neg (by rw [w2]; decide), if_neg (by omega), if_neg (by rw [w3]; decide), if_neg (by rw [htu]; decide), if_neg (by rw [hheld]; decide), if_neg (by rw [hpc]; decide), if_neg (by rw [hfn, hE]; decide)]
/-- The net seen from behind. -/
def Sp.seen (q : Sp.Net) : Sp.Net := ⟨q.n, q.tail, Sp.turnL q.next, q.cap⟩
theorem fn_tb {nx : List Int} (hp : Sp.Perm nx) (hev : nx.length % 2 = 0) {x : Nat} (hx : x < nx.length) : Sp.fn (Sp.behindL (Sp.turnL nx)) (Sp.oth (Sp.fn (Sp.behindL nx) x)) = Sp.oth x ∧ Sp.oth (Sp.fn (Sp.behindL nx) x) < nx.length := by
  have ho := oth_lt hx hev
  have h1 : Sp.fn (Sp.behindL nx) x = Sp.fn nx (Sp.oth x) := fn_behind nx x hx
  have h2 := hp.fnP.mp _ ho
  have h3 : Sp.oth (Sp.fn (Sp.behindL nx) x) < nx.length := by rw [h1]; exact oth_lt h2 hev
  refine ⟨?_, h3⟩
  rw [fn_behind _ _ (by rw [Sp.turnL_len]; exact h3), oth_oth, h1, Sp.fn_turn hp ho]
theorem orb_turn {st : List Int} (hp : Sp.Perm st) {g : Nat → Nat} (hg : ∀ x, x < st.length → g (Sp.oth (Sp.fn st x)) = Sp.oth x) {i : Nat} (hi : i < st.length) : ∀ m, OrbF g (Sp.oth (itf (Sp.fn st) i m)) (Sp.oth i)
  | 0 => OrbF.refl _ _
  | m + 1 => OrbF.trans ⟨1, hg _ (hp.fnP.it hi m)⟩ (orb_turn hp hg hi m)
theorem Sp.Plain.seen {q : Sp.Net} (hp : Sp.Perm q.next) (hl : q.next.length = q.tail.length) (hev : q.tail.length % 2 = 0) (h : Sp.Plain q) : Sp.Plain (Sp.seen q) := by
  have hmp : ∀ i, i < q.tail.length → Sp.fn q.next i < q.tail.length := fun i hi => by have := hp.fnP.mp i (by rw [hl]; exact hi); rw [hl] at this; exact this
  have hmpt : ∀ i, i < q.tail.length → Sp.fn (Sp.turnL q.next) i < q.tail.length := fun i hi => by have := hp.turn.fnP.mp i (by rw [Sp.turnL_len, hl]; exact hi); rw [Sp.turnL_len, hl] at this; exact this
  have hback : ∀ i, i < q.tail.length → ∀ m, OrbF (Sp.fn (Sp.turnL q.next)) (itf (Sp.fn q.next) i m) i := by
    intro i hi m
    induction m with
    | zero => exact OrbF.refl _ _
    | succ m ih =>
      have hb : itf (Sp.fn q.next) i m < q.next.length := hp.fnP.it (by rw [hl]; exact hi) m
      exact OrbF.trans ⟨1, Sp.fn_turn hp hb⟩ ih
  refine ⟨?_, ?_, h.conn⟩
  · show Cls q.tail.length (Sp.fn (Sp.turnL q.next)) (fun i => (q.tail.getD i 0).toNat) q.n.toNat
    refine ⟨h.vert.lt, h.vert.on, fun i hi => ?_, fun i j hi hj e => ?_⟩
    · have h1 := h.vert.inv _ (hmpt i hi)
      rw [Sp.fn_turn' hp (by rw [hl]; exact hi)] at h1
      exact h1.symm
    · obtain ⟨m, hm⟩ := h.vert.sep j i hj hi e.symm
      have := hback j hj m
      rw [hm] at this
      exact this
  · obtain ⟨lab, F, hf, hE⟩ := h.face
    have hbp := hp.behind (by rw [hl]; exact hev)
    have hbl : (Sp.behindL q.next).length = q.tail.length := by rw [Sp.behindL_len, hl]
    refine ⟨fun x => lab (Sp.oth x), F, ?_, hE⟩
    show Cls q.tail.length (Sp.fn (Sp.behindL (Sp.turnL q.next))) (fun x => lab (Sp.oth x)) F
    have hg : ∀ x, x < q.tail.length → Sp.fn (Sp.behindL (Sp.turnL q.next)) (Sp.oth (Sp.fn (Sp.behindL q.next) x)) = Sp.oth x := fun x hx => (fn_tb hp (by rw [hl]; exact hev) (by rw [hl]; exact hx)).1
    refine ⟨fun i hi => hf.lt _ (oth_lt hi hev), fun c hc => ?_, fun i hi => ?_, fun i j hi hj e => ?_⟩
    · obtain ⟨i, h1, h2⟩ := hf.on c hc
      exact ⟨Sp.oth i, oth_lt h1 hev, by show lab (Sp.oth (Sp.oth i)) = c; rw [oth_oth]; exact h2⟩
    · -- i is the other of what comes behind some dart
      obtain ⟨y, hy, ey⟩ := hbp.onto (j := Sp.oth i) (by rw [hbl]; exact oth_lt hi hev)
      rw [hbl] at hy
      have ei : i = Sp.oth (Sp.fn (Sp.behindL q.next) y) := by rw [ey, oth_oth]
      show lab (Sp.oth (Sp.fn (Sp.behindL (Sp.turnL q.next)) i)) = lab (Sp.oth i)
      rw [ei, hg y hy, oth_oth, oth_oth, hf.inv y hy]
    · obtain ⟨m, hm⟩ := hf.sep (Sp.oth j) (Sp.oth i) (oth_lt hj hev) (oth_lt hi hev) (show lab (Sp.oth j) = lab (Sp.oth i) from e.symm)
      have := orb_turn hbp (g := Sp.fn (Sp.behindL (Sp.turnL q.next))) (fun x hx => hg x (by rw [← hbl]; exact hx)) (i := Sp.oth j) (by rw [hbl]; exact oth_lt hj hev) m
      rw [hm, oth_oth, oth_oth] at this
      exact this
end Go.Proofs.Ytoegjnolccabjab


/- The dual of a plane net is plane. -/
namespace Go.Proofs.Ytoegjnolccabjab
open Go Go.RowKit

theorem Sp.behind_twice {nx : List Int} (hev : nx.length % 2 = 0) : Sp.behindL (Sp.behindL nx) = nx := by
  have hl : (Sp.behindL (Sp.behindL nx)).length = nx.length := by rw [Sp.behindL_len, Sp.behindL_len]
  refine List.ext_getElem hl fun i h1 h2 => ?_
  have ho := oth_lt h2 hev
  have e : (Sp.behindL (Sp.behindL nx)).getD i 0 = nx.getD i 0 := by
    rw [Sp.behindL_get _ _ (by rw [Sp.behindL_len]; exact h2), Sp.behindL_get _ _ ho, oth_oth]
  rw [Sp.getD_eq _ _ h1, Sp.getD_eq _ _ h2] at e
  exact e
/-- What is asked of a plane net, small enough for its dual to be one. -/
structure Sp.DualQ (q : Sp.Net) : Prop where
  link : Sp.LinkQ q
  le : q.tail.length ≤ 48
  l0 : 0 < q.tail.length
  n0 : 1 ≤ q.n
  n1 : q.n ≤ 60
  tb : ∀ x ∈ q.tail, 0 ≤ x ∧ x < q.n
  cb : ∀ x ∈ q.cap, 0 ≤ x ∧ x ≤ 2147483648
  pl : Sp.Plain q
theorem Sp.DualQ.fp {q : Sp.Net} (h : Sp.DualQ q) : Sp.Perm (Sp.behindL q.next) := h.link.pm.behind (by rw [h.link.nx]; exact h.link.ev)
theorem Sp.DualQ.bl {q : Sp.Net} (h : Sp.DualQ q) : (Sp.behindL q.next).length = q.tail.length := by rw [Sp.behindL_len, h.link.nx]
theorem Sp.DualQ.cls {q : Sp.Net} (h : Sp.DualQ q) : Cls q.tail.length (Sp.fn (Sp.behindL q.next)) (fun i => ((Sp.faces2 q).1.getD i 0).toNat) (Sp.faces2 q).2 := by
  have hst := (Sp.faces2_st h.link.pm h.link.nx h.link.ev).cls
  rw [h.bl] at hst
  exact hst
theorem Sp.DualQ.mp {q : Sp.Net} (h : Sp.DualQ q) : ∀ i, i < q.tail.length → Sp.fn (Sp.behindL q.next) i < q.tail.length := fun i hi => by
  have := h.fp.fnP.mp i (by rw [h.bl]; exact hi)
  rw [h.bl] at this; exact this
theorem Sp.DualQ.mpN {q : Sp.Net} (h : Sp.DualQ q) : ∀ i, i < q.tail.length → Sp.fn q.next i < q.tail.length := fun i hi => by
  have := h.link.pm.fnP.mp i (by rw [h.link.nx]; exact hi)
  rw [h.link.nx] at this; exact this
theorem Sp.DualQ.k1 {q : Sp.Net} (h : Sp.DualQ q) : 1 ≤ (Sp.faces2 q).2 := by have := h.cls.lt 0 h.l0; omega
theorem Sp.DualQ.euler {q : Sp.Net} (h : Sp.DualQ q) : q.n - ((q.tail.length / 2 : Nat) : Int) + (((Sp.faces2 q).2 : Nat) : Int) = 2 := by
  obtain ⟨lab, F, hf, hE⟩ := h.pl.face
  rw [h.cls.count h.mp hf]
  exact hE
/-- Labels, as numbers. -/
theorem Sp.DualQ.fb {q : Sp.Net} (h : Sp.DualQ q) {i : Nat} (hi : i < q.tail.length) : 0 ≤ (Sp.faces2 q).1.getD i 0 ∧ (Sp.faces2 q).1.getD i 0 < ((Sp.faces2 q).2 : Int) := by
  have hst := Sp.faces2_st h.link.pm h.link.nx h.link.ev
  have h1 := hst.done i (by rw [h.bl]; exact hi)
  have h2 := h.cls.lt i hi
  omega
theorem Sp.DualQ.turn {q : Sp.Net} (h : Sp.DualQ q) {d : Nat} (hd : d < q.tail.length) : (Sp.faces2 q).1.getD (Sp.fn q.next d) 0 = (Sp.faces2 q).1.getD (Sp.oth d) 0 := by
  have ho := oth_lt hd h.link.ev
  have e : Sp.fn (Sp.behindL q.next) (Sp.oth d) = Sp.fn q.next d := by
    unfold Sp.fn
    rw [Sp.behindL_get _ _ (by rw [h.link.nx]; exact ho), oth_oth]
  have h1 := h.cls.inv _ ho
  rw [e] at h1
  have h2 := h.fb (h.mpN d hd)
  have h3 := h.fb ho
  omega
theorem Sp.DualQ.about {q : Sp.Net} (h : Sp.DualQ q) {d : Nat} (hd : d < q.tail.length) (m : Nat) : Sp.Reach (Sp.faces2 q).1 ((Sp.faces2 q).1.getD d 0) ((Sp.faces2 q).1.getD (itf (Sp.fn q.next) d m) 0) := by
  have hF := Sp.faces2_len q
  have hb : ∀ m, itf (Sp.fn q.next) d m < q.tail.length := fun m => by
    have := h.link.pm.fnP.it (by rw [h.link.nx]; exact hd) m
    rw [h.link.nx] at this; exact this
  induction m with
  | zero => exact .refl _
  | succ m ih =>
    show Sp.Reach _ _ ((Sp.faces2 q).1.getD (Sp.fn q.next (itf (Sp.fn q.next) d m)) 0)
    rw [h.turn (hb m)]
    exact ih.step (by rw [hF]; exact hb m)
theorem Sp.DualQ.same {q : Sp.Net} (h : Sp.DualQ q) {d e : Nat} (hd : d < q.tail.length) (he : e < q.tail.length) (ht : q.tail.getD d 0 = q.tail.getD e 0) : Sp.Reach (Sp.faces2 q).1 ((Sp.faces2 q).1.getD d 0) ((Sp.faces2 q).1.getD e 0) := by
  obtain ⟨m, rfl⟩ := h.pl.vert.sep d e hd he (by show (q.tail.getD d 0).toNat = (q.tail.getD e 0).toNat; rw [ht])
  exact h.about hd m
theorem Sp.DualQ.all {q : Sp.Net} (h : Sp.DualQ q) {d : Nat} (hd : d < q.tail.length) {v : Int} (hr : Sp.Reach q.tail (q.tail.getD d 0) v) : ∀ e, e < q.tail.length → q.tail.getD e 0 = v → Sp.Reach (Sp.faces2 q).1 ((Sp.faces2 q).1.getD d 0) ((Sp.faces2 q).1.getD e 0) := by
  have hF := Sp.faces2_len q
  refine hr.ind (p := fun v => ∀ e, e < q.tail.length → q.tail.getD e 0 = v → Sp.Reach (Sp.faces2 q).1 ((Sp.faces2 q).1.getD d 0) ((Sp.faces2 q).1.getD e 0)) (fun e he hv => h.same hd he hv.symm) fun c hc _ ih e he hv => ?_
  have ho := oth_lt hc h.link.ev
  have h1 := (ih c hc rfl).step (by rw [hF]; exact hc)
  exact h1.trans (h.same ho he hv.symm)
theorem Sp.DualQ.plain {q : Sp.Net} (h : Sp.DualQ q) : Sp.Plain (Sp.dual q) := by
  have hF := Sp.faces2_len q
  have hk := h.k1
  have hn : (Sp.dual q).n = (((Sp.faces2 q).2 : Nat) : Int) := by show ((max (Sp.faces2 q).2 1 : Nat) : Int) = _; omega
  have ht : (Sp.dual q).tail = (Sp.faces2 q).1 := rfl
  have hx : (Sp.dual q).next = Sp.behindL q.next := rfl
  refine ⟨?_, ⟨fun i => (q.tail.getD i 0).toNat, q.n.toNat, ?_, ?_⟩, fun v h0 h1 => ?_⟩
  · rw [ht, hF, hx, hn, Int.toNat_natCast]
    exact h.cls
  · rw [ht, hF, hx, Sp.behind_twice (by rw [h.link.nx]; exact h.link.ev)]
    exact h.pl.vert
  · rw [hn, ht, hF]
    have := h.euler
    have := h.n0
    omega
  · rw [ht]
    rw [hn] at h1
    obtain ⟨x, hx1, hx2⟩ := h.cls.on 0 (by omega)
    obtain ⟨y, hy1, hy2⟩ := h.cls.on v.toNat (by omega)

    have bx := h.fb hx1
    have bY := h.fb hy1
    have ex : (Sp.faces2 q).1.getD x 0 = 0 := by omega
    have ey : (Sp.faces2 q).1.getD y 0 = v := by omega
    have tx := h.tb _ (Sp.getD_mem (l := q.tail) hx1)
    have ty := h.tb _ (Sp.getD_mem (l := q.tail) hy1)
    have r := ((h.pl.conn _ tx.1 tx.2).symm h.link.ev).trans (h.pl.conn _ ty.1 ty.2)
    have := h.all hx1 r y hy1 rfl
    rw [ex, ey] at this
    exact this
theorem Sp.DualQ.half {q : Sp.Net} (h : Sp.DualQ q) : (Sp.faces2 q).2 ≤ 48 := by have := Sp.faces2_le q; have := h.le; omega
theorem Sp.DualQ.dlink {q : Sp.Net} (h : Sp.DualQ q) : Sp.LinkQ (Sp.dual q) := by
  have hF := Sp.faces2_len q
  refine ⟨?_, ?_, ?_, ?_, h.fp⟩
  · show (Sp.behindL q.next).length = (Sp.faces2 q).1.length; rw [hF, h.bl]
  · show q.cap.length = (Sp.faces2 q).1.length; rw [hF, h.link.cp]
  · show (Sp.faces2 q).1.length ≤ 60; rw [hF]; exact h.link.le
  · show (Sp.faces2 q).1.length % 2 = 0; rw [hF]; exact h.link.ev
theorem Sp.DualQ.dtb {q : Sp.Net} (h : Sp.DualQ q) : ∀ x ∈ (Sp.dual q).tail, 0 ≤ x ∧ x < (Sp.dual q).n := by
  have hF := Sp.faces2_len q
  have hk := h.k1
  have hn : (Sp.dual q).n = (((Sp.faces2 q).2 : Nat) : Int) := by show ((max (Sp.faces2 q).2 1 : Nat) : Int) = _; omega
  intro x hx
  rw [hn]
  have hx' : x ∈ (Sp.faces2 q).1 := hx
  obtain ⟨i, hi, rfl⟩ := List.getElem_of_mem hx'
  have := h.fb (i := i) (by rw [← hF]; exact hi)
  rw [Sp.getD_eq _ _ hi] at this
  exact this
theorem Sp.DualQ.dn {q : Sp.Net} (h : Sp.DualQ q) : (Sp.dual q).n = (((Sp.faces2 q).2 : Nat) : Int) := by
  have hk := h.k1
  show ((max (Sp.faces2 q).2 1 : Nat) : Int) = _
  omega
theorem Sp.DualQ.dualQ {q : Sp.Net} (h : Sp.DualQ q) : Sp.DualQ (Sp.dual q) := by
  have hF := Sp.faces2_len q
  have hk := h.k1
  have hh := h.half
  refine ⟨h.dlink, ?_, ?_, ?_, ?_, h.dtb, h.cb, h.plain⟩
  · show (Sp.faces2 q).1.length ≤ 48; rw [hF]; exact h.le
  · show 0 < (Sp.faces2 q).1.length; rw [hF]; exact h.l0
  · rw [h.dn]; omega
  · rw [h.dn]; omega
theorem Sp.DualQ.walk {q : Sp.Net} (h : Sp.DualQ q) : Sp.walkB q = true :=
  walkB_of ⟨h.n1, by have := h.n0; omega, by have := h.le; omega, h.link.ev, h.link.nx, h.link.cp, h.link.pm.bd, h.tb⟩
/-- The dual's faces are as many as the vertices. -/
theorem Sp.DualQ.count {q : Sp.Net} (h : Sp.DualQ q) : ((max (Sp.faces2 (Sp.dual q)).2 1 : Nat) : Int) = q.n := by
  have e1 := h.euler
  have e2 := h.dualQ.euler
  rw [h.dn] at e2
  have hl : (Sp.dual q).tail.length = q.tail.length := Sp.faces2_len q
  rw [hl] at e2
  have := h.n0
  omega
end Go.Proofs.Ytoegjnolccabjab


/- What a split face's halves are. -/
namespace Go.Proofs.Ytoegjnolccabjab
open Go Go.RowKit

theorem getD_set0 (l : List Int) (i k : Nat) (v : Int) (hi : i < l.length) : (l.set i v).getD k 0 = if i = k then v else l.getD k 0 := by
  rw [List.getD_eq_getElem?_getD, List.getElem?_set, List.getD_eq_getElem?_getD]
  by_cases h : i = k
  · subst h
    rw [if_pos rfl, if_pos hi, if_pos rfl]
    rfl
  · rw [if_neg h, if_neg h]
theorem Sp.splitAt_in {x : Nat → Nat} {K f : Int} {jb : Nat} {F : List Int} {p : Nat} (hx : ∀ m, x m < F.length) (hi : ∀ m n, m < p → n < p → x m = x n → m = n) : ∀ j, j ≤ p → ∀ m, m < j → (Sp.splitAt x K f jb F j).getD (x m) 0 = if jb ≤ m then K else f
  | 0, _, m, h => by omega
  | j + 1, hj, m, h => by
    rw [Sp.splitAt, getD_set0 _ _ _ _ (by rw [Sp.splitAt_len]; exact hx j)]
    by_cases e : x j = x m
    · obtain rfl := hi j m (by omega) (by omega) e
      rw [if_pos rfl]
    · rw [if_neg e]
      refine Sp.splitAt_in hx hi j (by omega) m ?_
      rcases Nat.lt_or_ge m j with h1 | h1
      · exact h1
      · exact absurd (by rw [show m = j by omega]) e
theorem Sp.splitAt_out {x : Nat → Nat} {K f : Int} {jb : Nat} {F : List Int} (hx : ∀ m, x m < F.length) {i : Nat} : ∀ j, (∀ m, m < j → x m ≠ i) → (Sp.splitAt x K f jb F j).getD i 0 = F.getD i 0
  | 0, _ => rfl
  | j + 1, h => by
    rw [Sp.splitAt, getD_set0 _ _ _ _ (by rw [Sp.splitAt_len]; exact hx j), if_neg (h j (by omega))]
    exact Sp.splitAt_out hx j fun m hm => h m (by omega)
theorem cnt_two (p : Nat → Bool) {u v : Nat} (huv : u ≠ v) : ∀ n, (∀ i, i < n → (p i = true ↔ i = u ∨ i = v)) → Sp.cnt p n = (if u < n then 1 else 0) + (if v < n then 1 else 0)
  | 0, _ => by rw [if_neg (by omega), if_neg (by omega)]; rfl
  | n + 1, h => by
    have ih := cnt_two p huv n fun i hi => h i (by omega)
    rw [Sp.cnt_succ, ih]
    have hn := h n (by omega)
    by_cases hp : p n = true
    · rw [if_pos hp]
      have hc := hn.1 hp
      split <;> split <;> split <;> split <;> omega
    · rw [if_neg hp]
      have h1 : n ≠ u := fun e => hp (hn.2 (.inl e))
      have h2 : n ≠ v := fun e => hp (hn.2 (.inr e))
      split <;> split <;> split <;> split <;> omega
/-- The halves of a face that is split between s and t. -/
structure Sp.HalfQ (q : Sp.Net) (s t : Int) (f K : Nat) (L : List Int) : Prop where
  len : L.length = q.tail.length
  out : ∀ i, i < q.tail.length → (Sp.faces2 q).1.getD i 0 ≠ (f : Int) → L.getD i 0 = (Sp.faces2 q).1.getD i 0
  inn : ∀ i, i < q.tail.length → (Sp.faces2 q).1.getD i 0 = (f : Int) → L.getD i 0 = (f : Int) ∨ L.getD i 0 = (K : Int)
  fK : f < K
  lt : ∀ i, i < q.tail.length → (Sp.faces2 q).1.getD i 0 < (K : Int)
  has1 : ∃ i, i < q.tail.length ∧ L.getD i 0 = (f : Int)
  has2 : ∃ i, i < q.tail.length ∧ L.getD i 0 = (K : Int)
  step : ∀ d, d < q.tail.length → L.getD d 0 = L.getD (Sp.fn (Sp.behindL q.next) d) 0 ∨ (L.getD (Sp.fn (Sp.behindL q.next) d) 0 = (K : Int) ∧ q.tail.getD (Sp.fn (Sp.behindL q.next) d) 0 = t) ∨ (L.getD (Sp.fn (Sp.behindL q.next) d) 0 = (f : Int) ∧ q.tail.getD (Sp.fn (Sp.behindL q.next) d) 0 = s)
  turns : Sp.cnt (fun d => L.getD d 0 != L.getD (Sp.fn (Sp.behindL q.next) d) 0) q.tail.length = 2
theorem Sp.DualQ.halves {q : Sp.Net} (h : Sp.DualQ q) {s t : Int} {f d0 a jb : Nat} (hs : Sp.SplitQ q s t f d0 a jb) : Sp.HalfQ q s t f (max (Sp.faces2 q).2 1) (Sp.splitL q f d0 a jb) := by
  have hF := Sp.faces2_len q
  have hb := h.fp
  have hlb := h.bl
  have hdb : d0 < (Sp.behindL q.next).length := by rw [hlb]; exact hs.d0l
  have hk := h.k1
  have hK : max (Sp.faces2 q).2 1 = (Sp.faces2 q).2 := by omega
  have hxa : itf (Sp.fn (Sp.behindL q.next)) d0 a < (Sp.behindL q.next).length := hb.fnP.it hdb a
  have hper := per_along hb hdb a
  have hxl : ∀ m, itf (Sp.fn (Sp.behindL q.next)) d0 (a + m) < q.tail.length := fun m => by have := hb.fnP.it hdb (a + m); rw [hlb] at this; exact this
  have hxF : ∀ m, itf (Sp.fn (Sp.behindL q.next)) d0 (a + m) < (Sp.faces2 q).1.length := fun m => by rw [hF]; exact hxl m
  have hfa : ∀ m, (Sp.faces2 q).1.getD (itf (Sp.fn (Sp.behindL q.next)) d0 (a + m)) 0 = (f : Int) := fun m => by rw [Sp.faces_along h.link hs.d0l, hs.d0f]
  have hinj : ∀ m n, m < Sp.per (Sp.behindL q.next) d0 → n < Sp.per (Sp.behindL q.next) d0 → itf (Sp.fn (Sp.behindL q.next)) d0 (a + m) = itf (Sp.fn (Sp.behindL q.next)) d0 (a + n) → m = n := fun m n hm hn e => by
    rw [itf_add, itf_add] at e
    rcases Nat.lt_trichotomy m n with h1 | h1 | h1
    · exact absurd e (itf_apart hb hxa h1 (by rw [hper]; exact hn))
    · exact h1
    · exact absurd e.symm (itf_apart hb hxa h1 (by rw [hper]; exact hm))
  have hcov : ∀ i, i < q.tail.length → (Sp.faces2 q).1.getD i 0 = (f : Int) → ∃ m, m < Sp.per (Sp.behindL q.next) d0 ∧ itf (Sp.fn (Sp.behindL q.next)) d0 (a + m) = i := fun i hi e => by
    obtain ⟨m, h1, h2⟩ := Sp.faces_orb h.link (d := itf (Sp.fn (Sp.behindL q.next)) d0 a) (by rw [← hlb]; exact hxa) hi (by rw [e, ← hfa 0, Nat.add_zero])
    rw [hper] at h1
    exact ⟨m, h1, by rw [itf_add]; exact h2⟩
  have hin : ∀ m, m < Sp.per (Sp.behindL q.next) d0 → (Sp.splitL q f d0 a jb).getD (itf (Sp.fn (Sp.behindL q.next)) d0 (a + m)) 0 = if jb ≤ m then ((max (Sp.faces2 q).2 1 : Nat) : Int) else (f : Int) := fun m hm =>
    Sp.splitAt_in (x := fun j => itf (Sp.fn (Sp.behindL q.next)) d0 (a + j)) hxF hinj _ (Nat.le_refl _) m hm
  have hout : ∀ i, i < q.tail.length → (Sp.faces2 q).1.getD i 0 ≠ (f : Int) → (Sp.splitL q f d0 a jb).getD i 0 = (Sp.faces2 q).1.getD i 0 := fun i hi e =>
    Sp.splitAt_out (x := fun j => itf (Sp.fn (Sp.behindL q.next)) d0 (a + j)) hxF _ fun m _ e2 => e (by rw [← e2]; exact hfa m)
  have hper0 : itf (Sp.fn (Sp.behindL q.next)) d0 (a + Sp.per (Sp.behindL q.next) d0) = itf (Sp.fn (Sp.behindL q.next)) d0 (a + 0) := by
    have := itf_mod hb hdb (a + Sp.per (Sp.behindL q.next) d0)
    rw [← this, Nat.add_mod_right, itf_mod hb hdb, Nat.add_zero]
  have hfn : ∀ m, Sp.fn (Sp.behindL q.next) (itf (Sp.fn (Sp.behindL q.next)) d0 (a + m)) = itf (Sp.fn (Sp.behindL q.next)) d0 (a + (m + 1)) := fun m => rfl
  have hlF : ∀ i, i < q.tail.length → (Sp.faces2 q).1.getD i 0 < ((max (Sp.faces2 q).2 1 : Nat) : Int) := fun i hi => by rw [hK]; exact (h.fb hi).2
  have hfK : f < max (Sp.faces2 q).2 1 := by have := hlF d0 hs.d0l; rw [hs.d0f] at this; omega
  have b0 := hs.b0
  have bl := hs.bl
  have hdiff : ∀ d, d < q.tail.length → ((Sp.splitL q f d0 a jb).getD d 0 = (Sp.splitL q f d0 a jb).getD (Sp.fn (Sp.behindL q.next) d) 0 ∧ d ≠ itf (Sp.fn (Sp.behindL q.next)) d0 (a + (jb - 1)) ∧ d ≠ itf (Sp.fn (Sp.behindL q.next)) d0 (a + (Sp.per (Sp.behindL q.next) d0 - 1))) ∨ (d = itf (Sp.fn (Sp.behindL q.next)) d0 (a + (jb - 1)) ∧ (Sp.splitL q f d0 a jb).getD d 0 = (f : Int) ∧ (Sp.splitL q f d0 a jb).getD (Sp.fn (Sp.behindL q.next) d) 0 = ((max (Sp.faces2 q).2 1 : Nat) : Int) ∧ q.tail.getD (Sp.fn (Sp.behindL q.next) d) 0 = t) ∨ (d = itf (Sp.fn (Sp.behindL q.next)) d0 (a + (Sp.per (Sp.behindL q.next) d0 - 1)) ∧ (Sp.splitL q f d0 a jb).getD d 0 = ((max (Sp.faces2 q).2 1 : Nat) : Int) ∧ (Sp.splitL q f d0 a jb).getD (Sp.fn (Sp.behindL q.next) d) 0 = (f : Int) ∧ q.tail.getD (Sp.fn (Sp.behindL q.next) d) 0 = s) := by
    intro d hd
    by_cases e : (Sp.faces2 q).1.getD d 0 = (f : Int)
    · obtain ⟨m, hm, rfl⟩ := hcov d hd e
      rw [hfn]
      by_cases h1 : m + 1 = Sp.per (Sp.behindL q.next) d0
      · refine .inr (.inr ⟨by rw [show m = Sp.per (Sp.behindL q.next) d0 - 1 by omega], ?_, ?_, ?_⟩)
        · rw [hin m hm, if_pos (by omega)]
        · rw [h1, hper0, hin 0 (by omega), if_neg (by omega)]
        · rw [h1, hper0, Nat.add_zero]; exact hs.at_
      · by_cases h2 : m + 1 = jb
        · refine .inr (.inl ⟨by rw [show m = jb - 1 by omega], ?_, ?_, ?_⟩)
          · rw [hin m hm, if_neg (by omega)]
          · rw [h2, hin jb bl, if_pos (by omega)]
          · rw [h2]; exact hs.bt
        · refine .inl ⟨?_, fun e2 => ?_, fun e2 => ?_⟩
          · rw [hin m hm, hin (m + 1) (by omega)]
            by_cases h3 : jb ≤ m
            · rw [if_pos h3, if_pos (by omega)]
            · rw [if_neg h3, if_neg (by omega)]
          · have := hinj m (jb - 1) hm (by omega) e2; omega
          · have := hinj m _ hm (by omega) e2; omega
    · have he : (Sp.faces2 q).1.getD (Sp.fn (Sp.behindL q.next) d) 0 = (Sp.faces2 q).1.getD d 0 := Sp.faces_along h.link hd 1
      refine .inl ⟨?_, fun e2 => e (by rw [e2]; exact hfa _), fun e2 => e (by rw [e2]; exact hfa _)⟩
      rw [hout d hd e, hout _ (h.mp d hd) (by rw [he]; exact e), he]
  refine ⟨?_, hout, fun i hi e => ?_, hfK, hlF, ⟨_, hxl 0, by rw [hin 0 (by omega), if_neg (by omega)]⟩, ⟨_, hxl jb, by rw [hin jb bl, if_pos (by omega)]⟩, fun d hd => ?_, ?_⟩
  · unfold Sp.splitL
    rw [Sp.splitAt_len, hF]
  · obtain ⟨m, hm, rfl⟩ := hcov i hi e
    rw [hin m hm]
    by_cases h3 : jb ≤ m
    · rw [if_pos h3]; exact .inr rfl
    · rw [if_neg h3]; exact .inl rfl
  · rcases hdiff d hd with e | e | e
    · exact .inl e.1
    · exact .inr (.inl e.2.2)
    · exact .inr (.inr e.2.2)
  · have hne : itf (Sp.fn (Sp.behindL q.next)) d0 (a + (jb - 1)) ≠ itf (Sp.fn (Sp.behindL q.next)) d0 (a + (Sp.per (Sp.behindL q.next) d0 - 1)) := fun e => by
      have := hinj (jb - 1) _ (by omega) (by omega) e
      omega
    rw [cnt_two _ hne q.tail.length fun i hi => ?_, if_pos (hxl _), if_pos (hxl _)]
    rcases hdiff i hi with e | e | e
    · rw [bne_iff_ne]
      refine ⟨fun h1 => absurd e.1 h1, fun h1 => ?_⟩
      rcases h1 with h1 | h1
      · exact absurd h1 e.2.1
      · exact absurd h1 e.2.2
    · rw [bne_iff_ne, e.2.1, e.2.2.1]
      exact ⟨fun _ => .inl e.1, fun _ h2 => by omega⟩
    · rw [bne_iff_ne, e.2.1, e.2.2.1]
      exact ⟨fun _ => .inr e.1, fun _ h2 => by omega⟩
end Go.Proofs.Ytoegjnolccabjab


