/- What the proof needs, part 14. -/
import Derived.Test.YtoegjnolccabjabL13
/- Package path: spread. -/
namespace Go.Proofs.Ytoegjnolccabjab
open Go Go.RowKit

theorem cost_set {w : World} {b : Nat} {a c : Value} (h : w.heap[b]? = some (.cells #[a, c] 76)) (u v : Value) : ((w.setCell ⟨b, 0, none⟩ u).setCell ⟨b, 1, none⟩ v).heap[b]? = some (.cells #[u, v] 76) := by
  simp only [World.setCell, Array.getElem?_modify, if_pos, h]; rfl
theorem item_set {w : World} {b : Nat} {a c : Value} (h : w.heap[b]? = some (.cells #[a, c] 98)) (u v : Value) : ((w.setCell ⟨b, 0, none⟩ u).setCell ⟨b, 1, none⟩ v).heap[b]? = some (.cells #[u, v] 98) := by
  simp only [World.setCell, Array.getElem?_modify, if_pos, h]; rfl
/-- What lies in the world along spread: costs in gB, the heap in block hb (the first behind w4), x in bx. -/
structure SpW (w4 wr : World) (gB bx n2 : Nat) (y : Nat → Int) (k r : Int) (M : Nat → Option Int) : Prop where
  bt : Bt (fun b => b = gB) w4 wr
  co : CoAt wr gB n2 y
  hp : HpIs wr w4.heap.size M
  x : wr.heap[bx]? = some (.cells #[.int .i64 k, .int .i64 r] 98)
theorem SpW.lt {w4 wr : World} {gB bx n2 : Nat} {y : Nat → Int} {k r : Int} {M : Nat → Option Int} (h : SpW w4 wr gB bx n2 y k r M) : bx < wr.heap.size := (Array.getElem?_eq_some_iff.1 h.x).1
theorem SpW.below {w4 wr w' : World} {gB bx n2 : Nat} {y : Nat → Int} {k r : Int} {M : Nat → Option Int} (h : SpW w4 wr gB bx n2 y k r M) (hb : Below wr.heap.size wr w') : SpW w4 w' gB bx n2 y k r M :=
  ⟨h.bt.trans (Bt.of hb), h.co.below hb, h.hp.below hb, (hb.block bx h.lt).trans h.x⟩
theorem SpW.store {w4 wr : World} {gB bx n2 : Nat} {y : Nat → Int} {k r : Int} {M : Nat → Option Int} (h : SpW w4 wr gB bx n2 y k r M) {t : Nat} (X A : Int) (_ht : t * 2 + 1 < n2) (hgB : gB < w4.heap.size) (hbx : bx ≠ gB) : SpW w4 ((wr.setCell ⟨gB, t * 2, none⟩ (.int .i64 X)).setCell ⟨gB, t * 2 + 1, none⟩ (.int .i64 A)) gB bx n2 (Sp.upd (Sp.upd y (t * 2) X) (t * 2 + 1) A) k r M :=
  ⟨(h.bt.set (.inl rfl) _ _ _).set (.inl rfl) _ _ _, (h.co.set _ _).set _ _, h.hp.of_block (by rw [Below.heap_setCell _ _ _ _ (by show w4.heap.size ≠ gB; omega), Below.heap_setCell _ _ _ _ (by show w4.heap.size ≠ gB; omega)]), by rw [Below.heap_setCell _ _ _ _ hbx, Below.heap_setCell _ _ _ _ hbx]; exact h.x⟩
theorem SpW.put {w4 wr w' : World} {gB bx n2 : Nat} {y : Nat → Int} {k r : Int} {M M' : Nat → Option Int} (h : SpW w4 wr gB bx n2 y k r M) (hb : But w4.heap.size wr w') (hp : HpIs w' w4.heap.size M') (hgB : gB < w4.heap.size) (hbx : w4.heap.size < bx) : SpW w4 w' gB bx n2 y k r M' :=
  ⟨⟨hb.os.trans h.bt.os, hb.tape.trans h.bt.tape, hb.output.trans h.bt.output, Nat.le_trans h.bt.size hb.size, fun i hi hn => (hb.block i (Nat.lt_of_lt_of_le hi h.bt.size) (by omega)).trans (h.bt.block i hi hn)⟩, h.co.of_block (hb.block _ h.co.lt (by omega)), hp, (hb.block bx h.lt (by omega)).trans h.x⟩
theorem SpW.xset {w4 wr : World} {gB bx n2 : Nat} {y : Nat → Int} {k r : Int} {M : Nat → Option Int} (h : SpW w4 wr gB bx n2 y k r M) (k' r' : Int) (hgB : gB < bx) (hbx : w4.heap.size < bx) : SpW w4 ((wr.setCell ⟨bx, 0, none⟩ (.int .i64 k')).setCell ⟨bx, 1, none⟩ (.int .i64 r')) gB bx n2 y k' r' M :=
  ⟨(h.bt.set (.inr (by omega)) _ _ _).set (.inr (by omega)) _ _ _, (h.co.set_ne (by omega) _ _ _).set_ne (by omega) _ _ _, h.hp.of_block (by rw [Below.heap_setCell _ _ _ _ (by show w4.heap.size ≠ bx; omega), Below.heap_setCell _ _ _ _ (by show w4.heap.size ≠ bx; omega)]), item_set h.x _ _⟩
theorem cost_at {w : World} {b : Nat} {u v : Value} (h : w.heap[b]? = some (.cells #[u, v] 76)) : w.cell? ⟨b, 0, none⟩ = some u ∧ w.cell? ⟨b, 1, none⟩ = some v := by
  constructor <;> simp only [World.cell?, h] <;> rfl
theorem Sp.SpX.imp {L : List Sp.Arc} {s n x c : Nat} {y : Nat → Int} {M : Nat → Option Int} {S : Nat → Bool} {P Q : Sp.Arc → Prop} (h : Sp.SpX L s n x c y M S P) (hq : ∀ b, Q b → P b) : Sp.SpX L s n x c y M S Q :=
  ⟨⟨h.djx.at_, h.djx.got, h.djx.shut, h.djx.below, h.djx.above, h.djx.xg, fun b hb hbx hQ => h.djx.done b hb hbx (hq b hQ)⟩, h.bd, h.bx, h.hp, h.hn⟩
set_option maxRecDepth 100000 in
set_option maxHeartbeats 16000000 in
theorem spread_any (N : Nat) (L : List Sp.Arc) (s : Nat) (lv : Value) (w : World) (hl : ArcsI w lv L) (hS : Sp.Snd N L) (hpos : ∀ a ∈ L, 0 ≤ a.l) (hs : s < N) (hN : N ≤ 60) :
    Calls Try.prog 45 #[.int .i64 (N : Int), lv, .int .i64 (s : Int)] w fun e w' => ∃ y, e = .returned (.slice (some ⟨w.heap.size + 1, 0, none⟩) N N) ∧ CoAt w' (w.heap.size + 1) (N * 2) y ∧ Below w.heap.size w w' ∧ Sp.Short 345876451382054092800 (Sp.pairL 300 L) s N (Sp.rk y) ∧ Sp.Bd N N y := by
  have hsI : (s : Int) < (N : Int) := by omega
  obtain ⟨W1, hW1⟩ : ∃ W1, W1 = w.alloc (.cells #[.int .i64 1152921504606846976, .int .i64 0] 76) := ⟨_, rfl⟩
  obtain ⟨x0, x1⟩ := cost_new w (.int .i64 1152921504606846976) (.int .i64 0)
  rw [← hW1] at x0 x1
  have hs1 : W1.heap.size = w.heap.size + 1 := by rw [hW1]; simp
  have hb1 : Below w.heap.size w W1 := by rw [hW1]; exact (Below.refl _ w).alloc (Nat.le_refl _) _
  have hC1 := repeatC_any 1152921504606846976 0 w.heap.size N W1 (by omega) hN x0 x1 (by omega)
  rw [hs1] at hC1
  have HC1 := hide hC1
  have HL : Hid (∀ w', Below w.heap.size w w' → Calls Try.prog 64 #[.int .i64 (N : Int), lv] w' fun e w'' => ∃ rv, e = .returned (.slice (some ⟨w'.heap.size, 0, none⟩) N N) ∧ OutA w'' w'.heap.size N rv (Sp.outs L) ∧ Below w'.heap.size w' w'') := hide fun w' hb => leaving_any N L lv w' (hl.below hb) hS (by omega) (by omega)
  have HH0 := hide (And.intro hS (And.intro hpos hs))
  have HI0 : Hid (Sp.SpI L s N (Sp.y0 s) (Sp.putK (fun _ => none) (s : Int) 0) (fun _ => false)) := hide ((Sp.SpI.start L hs).resolve_right (by omega))
  have HB1 := hide (And.intro hb1 hs1)
  obtain ⟨la, lc, rfl, -⟩ := hl.form
  obtain ⟨P, hP⟩ : ∃ P : Ending → World → Prop, P = fun e w' => ∃ y, e = .returned (.slice (some ⟨w.heap.size + 1, 0, none⟩) N N) ∧ CoAt w' (w.heap.size + 1) (N * 2) y ∧ Below w.heap.size w w' ∧ Sp.Short 345876451382054092800 (Sp.pairL 300 L) s N (Sp.rk y) ∧ Sp.Bd N N y := ⟨_, rfl⟩
  rw [← hP]
  have HP := hide hP
  clear hP hl hS hpos hC1 x0 x1 hb1 hs1
  subst hW1
  go_enter Try.func45, Try.ntmps45
  go_wp2_with fail
  go_at_call 63
  generalize w.alloc (.cells #[.int .i64 1152921504606846976, .int .i64 0] 76) = W1 at *
  refine (unhide HC1).mono ?_
  rintro e w2 ⟨rfl, hc2, hb2⟩
  have q0 := hc2.cell (j := s * 2) (by omega)
  have q1 := hc2.cell (j := s * 2 + 1) (by omega)
  have qf := fun i => hc2.frozen i none
  have q1' := fun v : Value => show (w2.setCell ⟨w.heap.size + 1, s * 2, none⟩ v).cell? ⟨w.heap.size + 1, s * 2 + 1, none⟩ = some _ by rw [cell_set_ne (by omega)]; exact q1
  obtain ⟨w3, hw3⟩ : ∃ w3, w3 = (w2.setCell ⟨w.heap.size + 1, s * 2, none⟩ (.int .i64 0)).setCell ⟨w.heap.size + 1, s * 2 + 1, none⟩ (.int .i64 0) := ⟨_, rfl⟩
  have hb3 : Below w.heap.size w w3 := by
    rw [hw3]
    have hb12 := (unhide HB1).1.trans (hb2.mono (by omega))
    exact (hb12.setCell (p := ⟨w.heap.size + 1, s * 2, none⟩) (by show _ ≤ w.heap.size + 1; omega) _).setCell (p := ⟨w.heap.size + 1, s * 2 + 1, none⟩) (by show _ ≤ w.heap.size + 1; omega) _
  have hc3 : CoAt w3 (w.heap.size + 1) (N * 2) (Sp.y0 s) := by
    rw [hw3]
    refine ((hc2.set _ _).set _ _).congr fun i hi => ?_
    unfold Sp.y0 Sp.upd Sp.repC
    rw [if_pos hi]
  have HL3 := hide (unhide HL w3 hb3)
  have HQ3 := hide (And.intro hb3 hc3)
  clear q1 hc2 hb2 hb3 hc3 HC1 HL
  go_wp2_with fail
  rw [← hw3]
  clear hw3 q0 qf q1'
  go_at_call 64
  refine (unhide HL3).mono ?_
  rintro e w4 ⟨rv, rfl, ho4, hb4⟩
  have hG3 : w.heap.size + 1 < w3.heap.size := (unhide HQ3).2.lt
  have HQ4 := hide (And.intro ((unhide HQ3).1.trans (hb4.mono (unhide HQ3).1.size)) (And.intro ((unhide HQ3).2.below hb4) ho4))
  have hG4 : w3.heap.size < w4.heap.size := ho4.lt
  clear ho4 hb4 HL3 HQ3
  go_wp2_with fail
  go_at_call 65
  refine (hnew2_any w4).mono ?_
  rintro e w5 ⟨rfl, hb5, hh5, hs5⟩
  have hc5 := (unhide HQ4).2.1.below hb5
  have q0 := hc5.cell (j := s * 2) (by omega)
  have q1 := hc5.cell (j := s * 2 + 1) (by omega)
  rw [(Sp.y0_at s s).1, if_pos rfl] at q0
  rw [(Sp.y0_at s s).2] at q1
  have HQ5 := hide (And.intro hb5 (And.intro hc5 hh5))
  clear hc5 hb5 hh5
  go_wp2_with fail
  go_at_call 67
  refine (rank_any 0 0 w5 (by decide) (by decide) (by decide) (by decide)).mono ?_
  rintro e w6 ⟨rfl, hb6⟩
  have hz0 : (0 : Int) * 300 + 0 = 0 := rfl
  rw [hz0]
  have HQ6 := hide (And.intro ((unhide HQ5).1.trans (hb6.mono (unhide HQ5).1.size)) (And.intro ((unhide HQ5).2.1.below hb6) ((unhide HQ5).2.2.below hb6)))
  clear hb6 hz0 q0 q1
  have HPt := hide (hput_any (fun _ => none) w4.heap.size (s : Int) 0 w6 (unhide HQ6).2.2)
  go_wp2_with fail
  go_at_call 66
  refine (unhide HPt).mono ?_
  rintro e w7 ⟨rfl, hb7, hh7⟩
  have hG4' : w.heap.size + 1 ≠ w4.heap.size := by omega
  have HQ7 : Hid (Bt (fun b => b = w.heap.size + 1) w4 w7 ∧ CoAt w7 (w.heap.size + 1) (N * 2) (Sp.y0 s) ∧ HpIs w7 w4.heap.size (Sp.putK (fun _ => none) (s : Int) 0)) := hide ⟨⟨hb7.os.trans (unhide HQ6).1.os, hb7.tape.trans (unhide HQ6).1.tape, hb7.output.trans (unhide HQ6).1.output, Nat.le_trans (unhide HQ6).1.size hb7.size, fun i hi hn => (hb7.block i (Nat.lt_of_lt_of_le hi (unhide HQ6).1.size) (by omega)).trans ((unhide HQ6).1.block i hi)⟩, (unhide HQ6).2.1.of_block (hb7.block _ (unhide HQ6).2.1.lt hG4'), hh7⟩
  clear hb7 hh7 HPt HQ5 HQ6
  have HTk := hide (htake_any _ w4.heap.size w7 (unhide HQ7).2.2)
  go_wp2_with fail
  go_at_call 68
  refine (unhide HTk).mono ?_
  rintro e w8 ⟨k8, r8, is8, rfl, hl8, hb8, hh8⟩
  have hsz8 : w4.heap.size < w8.heap.size := Nat.lt_of_lt_of_le (unhide HQ7).2.2.lt hb8.size
  have HW8 : Hid (SpW w4 (w8.alloc (.cells #[.int .i64 k8, .int .i64 r8] 98)) (w.heap.size + 1) w8.heap.size (N * 2) (Sp.y0 s) k8 r8 (Sp.put (Sp.putK (fun _ => none) (s : Int) 0) k8.toNat none)) := hide
    ⟨Bt.alloc ⟨hb8.os.trans (unhide HQ7).1.os, hb8.tape.trans (unhide HQ7).1.tape, hb8.output.trans (unhide HQ7).1.output, Nat.le_trans (unhide HQ7).1.size hb8.size, fun i hi hn => (hb8.block i (Nat.lt_of_lt_of_le hi (unhide HQ7).1.size) (by omega)).trans ((unhide HQ7).1.block i hi hn)⟩ _, ((unhide HQ7).2.1.of_block (hb8.block _ (unhide HQ7).2.1.lt hG4')).alloc _, hh8.below ((Below.refl _ w8).alloc (Nat.le_refl _) _), by show (w8.heap.push _)[w8.heap.size]? = _; simp⟩
  have HL8 := hide hl8
  clear hl8 hb8 hh8 HTk HQ7
  go_wp2
  go_loopg [10, 11] N (fun g s10 s11 wr => ∃ (y : Nat → Int) (M : Nat → Option Int) (S : Nat → Bool) (k r : Int) (is : Bool) (bx : Nat), s10 = .pointer (some ⟨bx, 0, none⟩) ∧ s11 = .bool is ∧ g + Sp.ct S N = N ∧ w4.heap.size < bx ∧ Hid (Sp.LeastIs M k r is) ∧ Hid (Sp.SpI L s N y M S) ∧ Hid (SpW w4 wr (w.heap.size + 1) bx (N * 2) y k r (Sp.put M k.toNat none)))
  case atStart => exact ⟨_, _, _, _, _, _, _, rfl, rfl, by rw [Sp.ct_false]; rfl, hsz8, HL8, HI0, HW8⟩
  case round =>
    clear HL8 HI0 HW8 hsz8
    obtain ⟨y, M, S, k, r, is, bx, rfl, rfl, hg, hbxh, HLe, HSp, HW⟩ := hrel
    have hbxG : bx ≠ w.heap.size + 1 := by omega
    have hgB4 : w.heap.size + 1 < w4.heap.size := by omega
    cases is with
    | false =>
      have HF := hide ((unhide HSp).finish (by omega) (fun a ha => ⟨((unhide HH0).1.at_ a ha).1, ((unhide HH0).1.at_ a ha).2.1⟩) (unhide HH0).2.1 (unhide HH0).2.2 (unhide HLe))
      go_wp2
      rw [unhide HP]
      exact ⟨y, rfl, (unhide HW).co, (unhide HQ4).1.trans ((unhide HW).bt.below (B := w.heap.size) (fun b hb => by show w.heap.size ≤ b; omega) (unhide HQ4).1.size), (unhide HF).1, (unhide HF).2⟩
    | true =>
      obtain ⟨j, rfl, hjN, hSj, hX⟩ := (unhide HSp).open_ (by omega) (unhide HLe)
      have HX := hide hX
      have hctN : Sp.ct S N < N := by
        have h1 := Sp.ct_or hSj N
        rw [if_pos hjN] at h1
        have := Sp.ct_le (fun v => S v || (v == j)) N
        omega
      clear hX HLe HSp
      have hWp := unhide HW
      rw [Int.toNat_natCast] at hWp
      have HW' := hide hWp
      clear hWp HW
      obtain ⟨gO, rfl⟩ : ∃ gO, gk = gO + 1 := ⟨gk - 1, by omega⟩
      have HO : Hid (∀ w', Bt (fun b => b = w.heap.size + 1) w4 w' → OutA w' w3.heap.size N rv (Sp.outs L)) := hide fun w' hb => (unhide HQ4).2.2.bt hb (fun b hb => by have : b = w.heap.size + 1 := hb; omega)
      have hjI : (j : Int) < (N : Int) := by omega
      have hO := unhide HO _ (unhide HW').bt
      have c9 := (hO.cell hjN).1
      obtain ⟨x0, -, -⟩ := item_at (unhide HW').x
      obtain ⟨a0, c0, hrv, -, -⟩ := (hO.row j hjN).arcs.form
      rw [hrv] at c9
      have HA : Hid (∀ w', Bt (fun b => b = w.heap.size + 1) w4 w' → ∀ i, i < (Sp.outs L j).length → ∃ b o, a0 = some ⟨b, o, none⟩ ∧ b < w'.heap.size ∧ w'.cell? ⟨b, o + i * 3, none⟩ = some (.int .i64 (((Sp.outs L j).getD i Sp.arc0).f : Int)) ∧ w'.cell? ⟨b, o + i * 3 + 1, none⟩ = some (.int .i64 (((Sp.outs L j).getD i Sp.arc0).t : Int)) ∧ w'.cell? ⟨b, o + i * 3 + 2, none⟩ = some (.int .i64 ((Sp.outs L j).getD i Sp.arc0).l)) := hide fun w' hb i hi => by
        have h1 := ((unhide HO w' hb).row j hjN).arcs
        rw [hrv] at h1
        obtain ⟨a, c, e, -, -, h2⟩ := h1.all
        injection e with e1 e2 e3
        subst e1
        obtain ⟨b, o, h3, h4, h5⟩ := unhide h2 i hi
        exact ⟨b, o, h3, h4, h5 w' (Below.refl _ _)⟩
      have HMem : Hid (∀ i, i < (Sp.outs L j).length → (Sp.outs L j).getD i Sp.arc0 ∈ L ∧ ((Sp.outs L j).getD i Sp.arc0).f = j ∧ (Sp.outs L j).take (i + 1) = (Sp.outs L j).take i ++ [(Sp.outs L j).getD i Sp.arc0]) := hide fun i hi => by
        have h1 := Sp.outs_mem.1 (Sp.arc_mem hi)
        exact ⟨h1.1, h1.2, by rw [List.take_succ_eq_append_getElem hi, List.getD_eq_getElem?_getD, List.getElem?_eq_getElem hi]; rfl⟩
      have hlen : (Sp.outs L j).length ≤ 1000 := Nat.le_trans (Sp.outs_len L j) (unhide HH0).1.few
      have HX0 : Hid (Sp.SpX L s N j (Sp.ct S N) y (Sp.put M j none) S (fun b => ∃ a ∈ (Sp.outs L j).take 0, b = Sp.pr a)) := hide ⟨⟨(unhide HX).djx.at_, (unhide HX).djx.got, (unhide HX).djx.shut, (unhide HX).djx.below, (unhide HX).djx.above, (unhide HX).djx.xg, fun a ha hax hp => by obtain ⟨b, hb, -⟩ := hp; simp at hb⟩, (unhide HX).bd, (unhide HX).bx, (unhide HX).hp, (unhide HX).hn⟩
      have HSj := hide hSj
      clear hO hrv HX hSj
      go_wp2
      go_loopg [52] (Sp.outs L j).length (fun g s52 wq => ∃ (i : Nat) (y : Nat → Int) (M : Nat → Option Int), i + g = (Sp.outs L j).length ∧ s52 = .int .i64 (i : Int) ∧ Hid (Sp.SpX L s N j (Sp.ct S N) y M S (fun b => ∃ a ∈ (Sp.outs L j).take i, b = Sp.pr a)) ∧ Hid (SpW w4 wq (w.heap.size + 1) bx (N * 2) y (j : Int) r M))
      case atStart => exact ⟨0, _, _, by omega, rfl, HX0, HW'⟩
      case round =>
        clear HX0 HW' x0 c9
        obtain ⟨i, y, M, hig, rfl, HX, HW⟩ := hrel
        by_cases hi : i < (Sp.outs L j).length
        · have hiI : (i : Int) < ((Sp.outs L j).length : Int) := by omega
          obtain ⟨g', rfl⟩ : ∃ g', gk = g' + 1 := ⟨gk - 1, by omega⟩
          obtain ⟨b, o, rfl, hb, hc1, hc2, hc3⟩ := unhide HA wr (unhide HW).bt i hi
          obtain ⟨hm1, hm2, hm3⟩ := unhide HMem i hi
          obtain ⟨-, htN, hlm, hlp⟩ := (unhide HH0).1.at_ _ hm1
          have hl0 := (unhide HH0).2.1 _ hm1
          have hbx0 := (unhide HX).bx
          have HNo : Hid (Sp.lessB (y (j * 2) + ((Sp.outs L j).getD i Sp.arc0).l) (y (j * 2 + 1) + 1) (y (((Sp.outs L j).getD i Sp.arc0).t * 2)) (y (((Sp.outs L j).getD i Sp.arc0).t * 2 + 1)) = false → Sp.SpX L s N j (Sp.ct S N) y M S (fun b => ∃ a ∈ (Sp.outs L j).take (i + 1), b = Sp.pr a)) := hide fun hno => by
            have h := (unhide HX).no (by omega) hjN (unhide HH0).2.1 hm1 hm2 htN hlp hno
            refine Sp.SpX.imp h (fun b hb => ?_)
            obtain ⟨a, ha, e⟩ := hb
            rw [hm3] at ha
            rcases List.mem_append.1 ha with ha | ha
            · exact .inl ⟨a, ha, e⟩
            · rw [List.mem_singleton] at ha; subst ha; exact .inr e
          have HYes : Hid (Sp.lessB (y (j * 2) + ((Sp.outs L j).getD i Sp.arc0).l) (y (j * 2 + 1) + 1) (y (((Sp.outs L j).getD i Sp.arc0).t * 2)) (y (((Sp.outs L j).getD i Sp.arc0).t * 2 + 1)) = true → Sp.SpX L s N j (Sp.ct S N) (Sp.upd (Sp.upd y (((Sp.outs L j).getD i Sp.arc0).t * 2) (y (j * 2) + ((Sp.outs L j).getD i Sp.arc0).l)) (((Sp.outs L j).getD i Sp.arc0).t * 2 + 1) (y (j * 2 + 1) + 1)) (Sp.putK M (((Sp.outs L j).getD i Sp.arc0).t : Int) ((y (j * 2) + ((Sp.outs L j).getD i Sp.arc0).l) * 300 + (y (j * 2 + 1) + 1))) S (fun b => ∃ a ∈ (Sp.outs L j).take (i + 1), b = Sp.pr a)) := hide fun hyes => by
            have h := ((unhide HX).yes (by omega) (by omega) hjN (unhide HH0).2.1 hm1 hm2 htN hlp hyes).2
            refine Sp.SpX.imp h (fun b hb => ?_)
            obtain ⟨a, ha, e⟩ := hb
            rw [hm3] at ha
            rcases List.mem_append.1 ha with ha | ha
            · exact .inl ⟨a, ha, e⟩
            · rw [List.mem_singleton] at ha; subst ha; exact .inr e
          generalize (Sp.outs L j).getD i Sp.arc0 = a at *
          obtain ⟨f, t, l⟩ := a
          simp only at hc1 hc2 hc3 htN hlm hlp hl0 HNo HYes
          have hWl := (unhide HW).lt
          obtain ⟨ab, hab⟩ : ∃ ab, ab = wr.heap.size := ⟨_, rfl⟩
          obtain ⟨wA, hwA⟩ : ∃ wA, wA = wr.alloc (.cells #[.int .i64 (f : Int), .int .i64 (t : Int), .int .i64 l] 65) := ⟨_, rfl⟩
          have HWA : Hid (SpW w4 wA (w.heap.size + 1) bx (N * 2) y (j : Int) r M) := hide (by rw [hwA]; exact (unhide HW).below ((Below.refl _ wr).alloc (Nat.le_refl _) _))
          have hsA : wA.heap.size = ab + 1 := by rw [hwA, hab]; simp
          obtain ⟨u0, u1, u2⟩ := arc_new wr (.int .i64 (f : Int)) (.int .i64 (t : Int)) (.int .i64 l)
          rw [← hwA, ← hab] at u0 u1 u2
          obtain ⟨v0, -, -⟩ := item_at (unhide HWA).x
          have hcoA := (unhide HWA).co
          have hgBA := hcoA.lt
          have z0 := hcoA.cell (j := j * 2) (by omega)
          have z1 := hcoA.cell (j := j * 2 + 1) (by omega)
          have z2 := hcoA.cell (j := t * 2) (by omega)
          have z3 := hcoA.cell (j := t * 2 + 1) (by omega)
          obtain ⟨X, hX0⟩ : ∃ X, X = y (j * 2) := ⟨_, rfl⟩
          obtain ⟨A, hA0⟩ : ∃ A, A = y (j * 2 + 1) := ⟨_, rfl⟩
          obtain ⟨Y0, hY0⟩ : ∃ Y0, Y0 = y (t * 2) := ⟨_, rfl⟩
          obtain ⟨Y1, hY1⟩ : ∃ Y1, Y1 = y (t * 2 + 1) := ⟨_, rfl⟩
          rw [← hX0] at z0 hbx0 HNo HYes
          rw [← hA0] at z1 hbx0 HNo HYes
          rw [← hY0] at z2 HNo HYes
          rw [← hY1] at z3 HNo HYes
          have hX1 : 0 ≤ X ∧ X ≤ 65970697666560 := by omega
          have hA1 : 0 ≤ A ∧ A ≤ 60 := by omega
          obtain ⟨hX1, hX2⟩ := hX1
          obtain ⟨hA1, hA2⟩ := hA1
          have HRD : Hid (∀ w', Below wA.heap.size wA w' → w'.cell? ⟨bx, 0, none⟩ = some (.int .i64 (j : Int)) ∧ w'.cell? ⟨w.heap.size + 1, j * 2, none⟩ = some (.int .i64 X) ∧ w'.cell? ⟨w.heap.size + 1, j * 2 + 1, none⟩ = some (.int .i64 A) ∧ w'.cell? ⟨w.heap.size + 1, t * 2, none⟩ = some (.int .i64 Y0) ∧ w'.cell? ⟨w.heap.size + 1, t * 2 + 1, none⟩ = some (.int .i64 Y1) ∧ w'.cell? ⟨ab, 0, none⟩ = some (.int .i64 (f : Int)) ∧ w'.cell? ⟨ab, 1, none⟩ = some (.int .i64 (t : Int)) ∧ w'.cell? ⟨ab, 2, none⟩ = some (.int .i64 l)) := hide fun w' hb' =>
            ⟨(hb'.cell (p := ⟨bx, 0, none⟩) (by show bx < _; omega)).trans v0, (hb'.cell (p := ⟨w.heap.size + 1, j * 2, none⟩) (by exact hgBA)).trans z0, (hb'.cell (p := ⟨w.heap.size + 1, j * 2 + 1, none⟩) (by exact hgBA)).trans z1, (hb'.cell (p := ⟨w.heap.size + 1, t * 2, none⟩) (by exact hgBA)).trans z2, (hb'.cell (p := ⟨w.heap.size + 1, t * 2 + 1, none⟩) (by exact hgBA)).trans z3, (hb'.cell (p := ⟨ab, 0, none⟩) (by show ab < _; omega)).trans u0, (hb'.cell (p := ⟨ab, 1, none⟩) (by show ab < _; omega)).trans u1, (hb'.cell (p := ⟨ab, 2, none⟩) (by show ab < _; omega)).trans u2⟩
          obtain ⟨R, hR⟩ : ∃ R, Sp.lessB (X + l) (A + 1) Y0 Y1 = R := ⟨_, rfl⟩
          have HLs : Hid (∀ w', Calls Try.prog 70 #[.agg #[.int .i64 (X + l), .int .i64 (A + 1)], .agg #[.int .i64 Y0, .int .i64 Y1]] w' fun e w'' => e = .returned (.bool R) ∧ Below w'.heap.size w' w'') := hide fun w' => by rw [← hR]; exact less_any (X + l) (A + 1) Y0 Y1 w'
          rw [hR] at HNo HYes
          have htI : (t : Int) < (N : Int) := by omega
          have hgB4' : w4.heap.size < ab := by omega
          have hbxab : bx < ab := by omega
          have hYY := hide (And.intro hX0 (And.intro hA0 (And.intro hY0 hY1)))
          clear hR hX0 hA0 hY0 hY1 z0 z1 z2 z3 u0 u1 u2 v0 hcoA hm1 hm2 hm3 HW HX hbx0 hWl
          rw [hab] at HRD hsA hgB4' hbxab
          go_upto_region 12 with fail
          rw [← hwA]
          clear hwA
          rw [← hab] at HRD hsA hgB4' hbxab ⊢
          clear hab hc1 hc2 hc3 hb
          go_cut [14] (fun s14 w9 => ∃ cb wx, s14 = .pointer (some ⟨cb, 0, none⟩) ∧ wx = w9 ∧ ab < cb ∧ Hid (Below wA.heap.size wA wx ∧ wx.heap[cb]? = some (.cells #[.int .i64 (X + l), .int .i64 (A + 1)] 76)))
          case first =>
            have hbq := (Below.refl wA.heap.size wA).drew
            have hgq : ab + 1 ≤ wA.drew.heap.size := by show ab + 1 ≤ wA.heap.size; omega
            refine wp_region_G (fun w' => w'.cell? ⟨bx, 0, none⟩ = some (.int .i64 (j : Int)) ∧ w'.cell? ⟨w.heap.size + 1, j * 2, none⟩ = some (.int .i64 X) ∧ w'.cell? ⟨w.heap.size + 1, j * 2 + 1, none⟩ = some (.int .i64 A) ∧ w'.cell? ⟨w.heap.size + 1, t * 2, none⟩ = some (.int .i64 Y0) ∧ w'.cell? ⟨w.heap.size + 1, t * 2 + 1, none⟩ = some (.int .i64 Y1) ∧ w'.cell? ⟨ab, 0, none⟩ = some (.int .i64 (f : Int)) ∧ w'.cell? ⟨ab, 1, none⟩ = some (.int .i64 (t : Int)) ∧ w'.cell? ⟨ab, 2, none⟩ = some (.int .i64 l)) (fun _ => false) (by kernel_rfl) (unhide HRD _ hbq) (fun hHeld => ?_)
            generalize wA.drew = wq at *
            refine wpAnyG_take (v := ?_) 0 (by rfl) (by kernel_rfl) (by kernel_rfl) (by kernel_rfl) (by kernel_rfl) (fun _ _ _ h => h) (Or.inl ⟨by rfl, ?_⟩) (by assumption) ?_
            rotate_left
            · (intro w' hSw; (try dsimp only at hSw); (try simp only [List.getElem_toArray, List.getElem_cons_zero]); go_simp; try (with_reducible rfl))
            simp only [Act.put, List.getElem_toArray, List.getElem_cons_zero, List.setIfInBounds_toArray, List.set_cons_zero, List.set_cons_succ]
            refine wpAnyG_take (v := ?_) 1 (by rfl) (by kernel_rfl) (by kernel_rfl) (by kernel_rfl) (by kernel_rfl) (fun _ _ _ h => h) (Or.inl ⟨by rfl, ?_⟩) (by assumption) ?_
            rotate_left
            · (intro w' hSw; (try dsimp only at hSw); (try simp only [List.getElem_toArray, List.getElem_cons_succ, List.getElem_cons_zero]); go_simp; try (with_reducible rfl))
            simp only [Act.put, List.getElem_toArray, List.getElem_cons_succ, List.getElem_cons_zero, List.setIfInBounds_toArray, List.set_cons_zero, List.set_cons_succ]
            refine wpAnyG_take (v := ?_) 2 (by rfl) (by kernel_rfl) (by kernel_rfl) (by kernel_rfl) (by kernel_rfl) (fun _ _ _ h => h) (Or.inl ⟨by rfl, ?_⟩) (by assumption) ?_
            rotate_left
            · (intro w' hSw; (try dsimp only at hSw); (try simp only [List.getElem_toArray, List.getElem_cons_succ, List.getElem_cons_zero]); go_simp; try (with_reducible rfl))
            simp only [Act.put, List.getElem_toArray, List.getElem_cons_succ, List.getElem_cons_zero, List.setIfInBounds_toArray, List.set_cons_zero, List.set_cons_succ]
            refine wpAnyG_take (v := ?_) 3 (by rfl) (by kernel_rfl) (by kernel_rfl) (by kernel_rfl) (by kernel_rfl) (fun _ _ _ h => h) (Or.inl ⟨by rfl, ?_⟩) (by assumption) ?_
            rotate_left
            · (intro w' hSw; (try dsimp only at hSw); (try simp only [List.getElem_toArray, List.getElem_cons_succ, List.getElem_cons_zero]); go_simp; try (with_reducible rfl))
            simp only [Act.put, List.getElem_toArray, List.getElem_cons_succ, List.getElem_cons_zero, List.setIfInBounds_toArray, List.set_cons_zero, List.set_cons_succ]
            refine wpAnyG_take (v := ?_) 4 (by rfl) (by kernel_rfl) (by kernel_rfl) (by kernel_rfl) (by kernel_rfl) (fun _ _ _ h => h) (Or.inl ⟨by rfl, ?_⟩) (by assumption) ?_
            rotate_left
            · (intro w' hSw; (try dsimp only at hSw); (try simp only [List.getElem_toArray, List.getElem_cons_succ, List.getElem_cons_zero]); go_simp; try (with_reducible rfl))
            simp only [Act.put, List.getElem_toArray, List.getElem_cons_succ, List.getElem_cons_zero, List.setIfInBounds_toArray, List.set_cons_zero, List.set_cons_succ]
            refine wpAnyG_take (v := ?_) 5 (by rfl) (by kernel_rfl) (by kernel_rfl) (by kernel_rfl) (by kernel_rfl) (fun _ _ _ h => h) (Or.inl ⟨by rfl, ?_⟩) (by assumption) ?_
            rotate_left
            · (intro w' hSw; (try dsimp only at hSw); (try simp only [List.getElem_toArray, List.getElem_cons_succ, List.getElem_cons_zero]); go_simp; try (with_reducible rfl))
            simp only [Act.put, List.getElem_toArray, List.getElem_cons_succ, List.getElem_cons_zero, List.setIfInBounds_toArray, List.set_cons_zero, List.set_cons_succ]
            refine wpAnyG_ready [6, 7] (by kernel_rfl) (by simp) ?_
            refine AllReadyG.cons 6 (by rfl) (fun K hK => ?_) ?_
            · simp only [List.getElem_toArray, List.getElem_cons_succ, List.getElem_cons_zero]
              go_simp
              go_at_call 69
              refine (and_any X A (f : Int) (t : Int) l wq (by omega) (by omega) (by omega) (by omega) (by omega) (by omega)).mono ?_
              rintro e wc ⟨rfl, hlc⟩
              have hbc := Below.trans hbq (hlc.mono hbq.size)
              have hgc : ab + 1 ≤ wc.heap.size := Nat.le_trans hgq hlc.size
              refine hK.out _ _ (unhide HRD _ hbc) (fun _ => ?_)
              clear hK K
              try simp only [Act.put, List.setIfInBounds_toArray, List.set_cons_zero, List.set_cons_succ]
              refine wpAnyG_ready [7] (by kernel_rfl) (by simp) ?_
              refine AllReadyG.cons 7 (by rfl) (fun K hK => ?_) ?_
              · simp only [List.getElem_toArray, List.getElem_cons_succ, List.getElem_cons_zero]
                go_simp
                have hba := Below.alloc hbc hbc.size (.cells #[.int .i64 0, .int .i64 0] 76)
                have hcz0 : (wc.alloc (.cells #[.int .i64 0, .int .i64 0] 76)).heap[wc.heap.size]? = some (.cells #[.int .i64 0, .int .i64 0] 76) := by
                  show (wc.heap.push _)[wc.heap.size]? = _
                  simp
                have hcg : ab + 1 ≤ wc.heap.size := hgc
                have hk0 : (wc.alloc (.cells #[.int .i64 0, .int .i64 0] 76)).cell? ⟨wc.heap.size, 0, none⟩ = some (.int .i64 0) ∧ (wc.alloc (.cells #[.int .i64 0, .int .i64 0] 76)).cell? ⟨wc.heap.size, 1, none⟩ = some (.int .i64 0) ∧ ∀ i, (wc.alloc (.cells #[.int .i64 0, .int .i64 0] 76)).frozen? ⟨wc.heap.size, i, none⟩ = false := by
                  refine ⟨?_, ?_, fun i => ?_⟩
                  · simp only [World.cell?, hcz0]; rfl
                  · simp only [World.cell?, hcz0]; rfl
                  · simp only [World.frozen?, hcz0]; simp
                obtain ⟨k0, k1, kf⟩ := hk0
                have k1' := fun v : Value => show ((wc.alloc (.cells #[.int .i64 0, .int .i64 0] 76)).setCell ⟨wc.heap.size, 0, none⟩ v).cell? ⟨wc.heap.size, 1, none⟩ = some (.int .i64 0) by rw [cell_set_ne (by omega)]; exact k1
                refine hK.out _ _ (unhide HRD _ hba) (fun _ => ?_)
                clear hK K
                try simp only [Act.put, List.setIfInBounds_toArray, List.set_cons_zero, List.set_cons_succ]
                refine wpAnyG_ready [8] (by kernel_rfl) (by simp) ?_
                refine AllReadyG.cons 8 (by rfl) (fun K hK => ?_) ?_
                · simp only [List.getElem_toArray, List.getElem_cons_succ, List.getElem_cons_zero]
                  go_simp
                  have hbs := Below.alloc hbc hbc.size (.cells #[.int .i64 (X + l), .int .i64 (A + 1)] 76)
                  have hcs : (wc.alloc (.cells #[.int .i64 (X + l), .int .i64 (A + 1)] 76)).heap[wc.heap.size]? = some (.cells #[.int .i64 (X + l), .int .i64 (A + 1)] 76) := by
                    show (wc.heap.push _)[wc.heap.size]? = _
                    simp
                  refine hK.out _ _ (unhide HRD _ hbs) (fun _ => ?_)
                  clear hK K
                  try simp only [Act.put, List.setIfInBounds_toArray, List.set_cons_zero, List.set_cons_succ]
                  refine wpAnyG_done (by kernel_rfl) ?_ _
                  refine NoPanic.normal ?_
                  go_wp2
                  go_meet
                  exact ⟨_, _, rfl, rfl, by omega, hide ⟨hbs, hcs⟩⟩
                exact AllReadyG.nil
              exact AllReadyG.nil
            refine AllReadyG.cons 7 (by rfl) (fun K hK => ?_) ?_
            · simp only [List.getElem_toArray, List.getElem_cons_succ, List.getElem_cons_zero]
              go_simp
              have hba := Below.alloc hbq hbq.size (.cells #[.int .i64 0, .int .i64 0] 76)
              have hcz0 : (wq.alloc (.cells #[.int .i64 0, .int .i64 0] 76)).heap[wq.heap.size]? = some (.cells #[.int .i64 0, .int .i64 0] 76) := by
                show (wq.heap.push _)[wq.heap.size]? = _
                simp
              refine hK.out _ _ (unhide HRD _ hba) (fun _ => ?_)
              clear hK K
              try simp only [Act.put, List.setIfInBounds_toArray, List.set_cons_zero, List.set_cons_succ]
              refine wpAnyG_ready [6] (by kernel_rfl) (by simp) ?_
              refine AllReadyG.cons 6 (by rfl) (fun K hK => ?_) ?_
              · simp only [List.getElem_toArray, List.getElem_cons_succ, List.getElem_cons_zero]
                go_simp
                go_at_call 69
                refine (and_any X A (f : Int) (t : Int) l (wq.alloc (.cells #[.int .i64 0, .int .i64 0] 76)) (by omega) (by omega) (by omega) (by omega) (by omega) (by omega)).mono ?_
                rintro e wc ⟨rfl, hlc⟩
                have hbc := Below.trans hba (hlc.mono hba.size)
                have hcz := (hlc.block wq.heap.size (by simp)).trans hcz0
                have hcg : ab + 1 ≤ wq.heap.size := hgq
                have hk0 : wc.cell? ⟨wq.heap.size, 0, none⟩ = some (.int .i64 0) ∧ wc.cell? ⟨wq.heap.size, 1, none⟩ = some (.int .i64 0) ∧ ∀ i, wc.frozen? ⟨wq.heap.size, i, none⟩ = false := by
                  refine ⟨?_, ?_, fun i => ?_⟩
                  · simp only [World.cell?, hcz]; rfl
                  · simp only [World.cell?, hcz]; rfl
                  · simp only [World.frozen?, hcz]; simp
                obtain ⟨k0, k1, kf⟩ := hk0
                have k1' := fun v : Value => show (wc.setCell ⟨wq.heap.size, 0, none⟩ v).cell? ⟨wq.heap.size, 1, none⟩ = some (.int .i64 0) by rw [cell_set_ne (by omega)]; exact k1
                refine hK.out _ _ (unhide HRD _ hbc) (fun _ => ?_)
                clear hK K
                try simp only [Act.put, List.setIfInBounds_toArray, List.set_cons_zero, List.set_cons_succ]
                refine wpAnyG_ready [8] (by kernel_rfl) (by simp) ?_
                refine AllReadyG.cons 8 (by rfl) (fun K hK => ?_) ?_
                · simp only [List.getElem_toArray, List.getElem_cons_succ, List.getElem_cons_zero]
                  go_simp
                  have hbs := (hbc.setCell (p := ⟨wq.heap.size, 0, none⟩) (by show wA.heap.size ≤ wq.heap.size; omega) (.int .i64 (X + l))).setCell (p := ⟨wq.heap.size, 1, none⟩) (by show wA.heap.size ≤ wq.heap.size; omega) (.int .i64 (A + 1))
                  have hcs := cost_set hcz (.int .i64 (X + l)) (.int .i64 (A + 1))
                  refine hK.out _ _ (unhide HRD _ hbs) (fun _ => ?_)
                  clear hK K
                  try simp only [Act.put, List.setIfInBounds_toArray, List.set_cons_zero, List.set_cons_succ]
                  refine wpAnyG_done (by kernel_rfl) ?_ _
                  refine NoPanic.normal ?_
                  go_wp2
                  go_meet
                  exact ⟨_, _, rfl, rfl, by omega, hide ⟨hbs, hcs⟩⟩
                exact AllReadyG.nil
              exact AllReadyG.nil
            exact AllReadyG.nil
          case rest =>
            obtain ⟨cb, wx, rfl, hwx, hcb, HCX⟩ := hcut
            subst hwx
            have HBx := hide (unhide HCX).1
            have HWx := hide ((unhide HWA).below (unhide HBx))
            obtain ⟨d0, d1⟩ := cost_at (unhide HCX).2
            have hcbx : cb < wx.heap.size := (Array.getElem?_eq_some_iff.1 (unhide HCX).2).1
            have HRD2 : Hid (∀ w', Below wx.heap.size wx w' → (w'.cell? ⟨bx, 0, none⟩ = some (.int .i64 (j : Int)) ∧ w'.cell? ⟨w.heap.size + 1, j * 2, none⟩ = some (.int .i64 X) ∧ w'.cell? ⟨w.heap.size + 1, j * 2 + 1, none⟩ = some (.int .i64 A) ∧ w'.cell? ⟨w.heap.size + 1, t * 2, none⟩ = some (.int .i64 Y0) ∧ w'.cell? ⟨w.heap.size + 1, t * 2 + 1, none⟩ = some (.int .i64 Y1) ∧ w'.cell? ⟨ab, 0, none⟩ = some (.int .i64 (f : Int)) ∧ w'.cell? ⟨ab, 1, none⟩ = some (.int .i64 (t : Int)) ∧ w'.cell? ⟨ab, 2, none⟩ = some (.int .i64 l)) ∧ w'.cell? ⟨cb, 0, none⟩ = some (.int .i64 (X + l)) ∧ w'.cell? ⟨cb, 1, none⟩ = some (.int .i64 (A + 1))) := hide fun w' hb' =>
              ⟨unhide HRD _ ((unhide HBx).trans (hb'.mono (unhide HBx).size)), (hb'.cell (p := ⟨cb, 0, none⟩) (by exact hcbx)).trans d0, (hb'.cell (p := ⟨cb, 1, none⟩) (by exact hcbx)).trans d1⟩
            clear d0 d1 HCX HWA
            go_upto_region 13 with fail
            have hbq := (Below.refl wx.heap.size wx).drew
            refine wp_region_G (fun w' => (w'.cell? ⟨bx, 0, none⟩ = some (.int .i64 (j : Int)) ∧ w'.cell? ⟨w.heap.size + 1, j * 2, none⟩ = some (.int .i64 X) ∧ w'.cell? ⟨w.heap.size + 1, j * 2 + 1, none⟩ = some (.int .i64 A) ∧ w'.cell? ⟨w.heap.size + 1, t * 2, none⟩ = some (.int .i64 Y0) ∧ w'.cell? ⟨w.heap.size + 1, t * 2 + 1, none⟩ = some (.int .i64 Y1) ∧ w'.cell? ⟨ab, 0, none⟩ = some (.int .i64 (f : Int)) ∧ w'.cell? ⟨ab, 1, none⟩ = some (.int .i64 (t : Int)) ∧ w'.cell? ⟨ab, 2, none⟩ = some (.int .i64 l)) ∧ w'.cell? ⟨cb, 0, none⟩ = some (.int .i64 (X + l)) ∧ w'.cell? ⟨cb, 1, none⟩ = some (.int .i64 (A + 1))) (fun _ => false) (by kernel_rfl) (unhide HRD2 _ hbq) (fun hHeld => ?_)
            generalize wx.drew = wq at *
            refine wpAnyG_take (v := ?_) 0 (by rfl) (by kernel_rfl) (by kernel_rfl) (by kernel_rfl) (by kernel_rfl) (fun _ _ _ h => h) (Or.inl ⟨by rfl, ?_⟩) (by assumption) ?_
            rotate_left
            · (intro w' hSw; (try dsimp only at hSw); (try simp only [List.getElem_toArray, List.getElem_cons_zero]); go_simp; try (with_reducible rfl))
            simp only [Act.put, List.getElem_toArray, List.getElem_cons_zero, List.setIfInBounds_toArray, List.set_cons_zero, List.set_cons_succ]
            refine wpAnyG_take (v := ?_) 1 (by rfl) (by kernel_rfl) (by kernel_rfl) (by kernel_rfl) (by kernel_rfl) (fun _ _ _ h => h) (Or.inl ⟨by rfl, ?_⟩) (by assumption) ?_
            rotate_left
            · (intro w' hSw; (try dsimp only at hSw); (try simp only [List.getElem_toArray, List.getElem_cons_succ, List.getElem_cons_zero]); go_simp; try (with_reducible rfl))
            simp only [Act.put, List.getElem_toArray, List.getElem_cons_succ, List.getElem_cons_zero, List.setIfInBounds_toArray, List.set_cons_zero, List.set_cons_succ]
            refine wpAnyG_take (v := ?_) 2 (by rfl) (by kernel_rfl) (by kernel_rfl) (by kernel_rfl) (by kernel_rfl) (fun _ _ _ h => h) (Or.inl ⟨by rfl, ?_⟩) (by assumption) ?_
            rotate_left
            · (intro w' hSw; (try dsimp only at hSw); (try simp only [List.getElem_toArray, List.getElem_cons_succ, List.getElem_cons_zero]); go_simp; try (with_reducible rfl))
            simp only [Act.put, List.getElem_toArray, List.getElem_cons_succ, List.getElem_cons_zero, List.setIfInBounds_toArray, List.set_cons_zero, List.set_cons_succ]
            refine wpAnyG_take (v := ?_) 3 (by rfl) (by kernel_rfl) (by kernel_rfl) (by kernel_rfl) (by kernel_rfl) (fun _ _ _ h => h) (Or.inl ⟨by rfl, ?_⟩) (by assumption) ?_
            rotate_left
            · (intro w' hSw; (try dsimp only at hSw); (try simp only [List.getElem_toArray, List.getElem_cons_succ, List.getElem_cons_zero]); go_simp; try (with_reducible rfl))
            simp only [Act.put, List.getElem_toArray, List.getElem_cons_succ, List.getElem_cons_zero, List.setIfInBounds_toArray, List.set_cons_zero, List.set_cons_succ]
            refine wpAnyG_take (v := ?_) 4 (by rfl) (by kernel_rfl) (by kernel_rfl) (by kernel_rfl) (by kernel_rfl) (fun _ _ _ h => h) (Or.inl ⟨by rfl, ?_⟩) (by assumption) ?_
            rotate_left
            · (intro w' hSw; (try dsimp only at hSw); (try simp only [List.getElem_toArray, List.getElem_cons_succ, List.getElem_cons_zero]); go_simp; try (with_reducible rfl))
            simp only [Act.put, List.getElem_toArray, List.getElem_cons_succ, List.getElem_cons_zero, List.setIfInBounds_toArray, List.set_cons_zero, List.set_cons_succ]
            refine wpAnyG_take (v := ?_) 5 (by rfl) (by kernel_rfl) (by kernel_rfl) (by kernel_rfl) (by kernel_rfl) (fun _ _ _ h => h) (Or.inl ⟨by rfl, ?_⟩) (by assumption) ?_
            rotate_left
            · (intro w' hSw; (try dsimp only at hSw); (try simp only [List.getElem_toArray, List.getElem_cons_succ, List.getElem_cons_zero]); go_simp; try (with_reducible rfl))
            simp only [Act.put, List.getElem_toArray, List.getElem_cons_succ, List.getElem_cons_zero, List.setIfInBounds_toArray, List.set_cons_zero, List.set_cons_succ]
            refine wpAnyG_ready [6] (by kernel_rfl) (by simp) ?_
            refine AllReadyG.cons 6 (by rfl) (fun K hK => ?_) ?_
            · simp only [List.getElem_toArray, List.getElem_cons_succ, List.getElem_cons_zero]
              go_simp
              go_at_call 70
              refine (unhide HLs _).mono ?_
              rintro e wl ⟨rfl, hll⟩
              have hbl := Below.trans hbq (hll.mono hbq.size)
              refine hK.out _ _ (unhide HRD2 _ hbl) (fun _ => ?_)
              clear hK K
              try simp only [Act.put, List.setIfInBounds_toArray, List.set_cons_zero, List.set_cons_succ]
              refine wpAnyG_done (by kernel_rfl) ?_ _
              refine NoPanic.normal ?_
              have HWl := hide ((unhide HWx).below hbl)
              have hcbl : cb < wl.heap.size := Nat.lt_of_lt_of_le hcbx hbl.size
              have habl : ab < wl.heap.size := by omega
              cases R with
              | false =>
                have HNn := hide (unhide HNo rfl)
                clear hHeld
                go_wp2
                go_roundg g'
                case rel => exact ⟨i + 1, _, _, by omega, by go_num, hide (unhide HNn), HWl⟩
                case measure => omega
              | true =>
                have HY := hide (unhide HYes rfl)
                have hco := (unhide HWl).co
                have q0 := hco.cell (j := t * 2) (by omega)
                have q1 := hco.cell (j := t * 2 + 1) (by omega)
                have qf := fun i => hco.frozen i none
                have q1' := fun v : Value => show (wl.setCell ⟨w.heap.size + 1, t * 2, none⟩ v).cell? ⟨w.heap.size + 1, t * 2 + 1, none⟩ = some (.int .i64 (y (t * 2 + 1))) by rw [cell_set_ne (by omega)]; exact q1
                obtain ⟨c0, c1, c2, c3, c4, c5, c6, c7⟩ := unhide HRD _ ((unhide HBx).trans (hbl.mono (unhide HBx).size))
                obtain ⟨-, e0, e1⟩ := unhide HRD2 _ hbl
                have HWS := hide ((unhide HWl).store (t := t) (X + l) (A + 1) (by omega) (by omega) hbxG)
                have HRD3 : Hid (∀ w', But w4.heap.size ((wl.setCell ⟨w.heap.size + 1, t * 2, none⟩ (.int .i64 (X + l))).setCell ⟨w.heap.size + 1, t * 2 + 1, none⟩ (.int .i64 (A + 1))) w' → w'.cell? ⟨ab, 1, none⟩ = some (.int .i64 (t : Int)) ∧ w'.cell? ⟨cb, 0, none⟩ = some (.int .i64 (X + l)) ∧ w'.cell? ⟨cb, 1, none⟩ = some (.int .i64 (A + 1))) := hide fun w' hb' => by
                  have hsz : ((wl.setCell ⟨w.heap.size + 1, t * 2, none⟩ (.int .i64 (X + l))).setCell ⟨w.heap.size + 1, t * 2 + 1, none⟩ (.int .i64 (A + 1))).heap.size = wl.heap.size := by simp [World.setCell]
                  refine ⟨(hb'.cell (p := ⟨ab, 1, none⟩) (by show ab < _; omega) (by show ab ≠ _; omega)).trans ?_, (hb'.cell (p := ⟨cb, 0, none⟩) (by show cb < _; omega) (by show cb ≠ _; omega)).trans ?_, (hb'.cell (p := ⟨cb, 1, none⟩) (by show cb < _; omega) (by show cb ≠ _; omega)).trans ?_⟩
                  · rw [cell_set_ne (by omega), cell_set_ne (by omega)]; exact c6
                  · rw [cell_set_ne (by omega), cell_set_ne (by omega)]; exact e0
                  · rw [cell_set_ne (by omega), cell_set_ne (by omega)]; exact e1
                clear hco q1 c0 c1 c2 c3 c4 c5 c7 hHeld
                go_upto_region 15 with fail
                generalize hwS : (wl.setCell ⟨w.heap.size + 1, t * 2, none⟩ (.int .i64 (X + l))).setCell ⟨w.heap.size + 1, t * 2 + 1, none⟩ (.int .i64 (A + 1)) = wS at *
                clear hwS
                have hbs := (Below.refl wS.heap.size wS).drew
                refine wp_region_G (fun w' => w'.cell? ⟨ab, 1, none⟩ = some (.int .i64 (t : Int)) ∧ w'.cell? ⟨cb, 0, none⟩ = some (.int .i64 (X + l)) ∧ w'.cell? ⟨cb, 1, none⟩ = some (.int .i64 (A + 1))) (fun _ => false) (by kernel_rfl) (unhide HRD3 _ (But.of hbs)) (fun hHeld => ?_)
                generalize wS.drew = ws at *
                refine wpAnyG_take (v := ?_) 0 (by rfl) (by kernel_rfl) (by kernel_rfl) (by kernel_rfl) (by kernel_rfl) (fun _ _ _ h => h) (Or.inl ⟨by rfl, ?_⟩) (by assumption) ?_
                rotate_left
                · (intro w' hSw; (try dsimp only at hSw); (try simp only [List.getElem_toArray, List.getElem_cons_zero]); go_simp; try (with_reducible rfl))
                simp only [Act.put, List.getElem_toArray, List.getElem_cons_zero, List.setIfInBounds_toArray, List.set_cons_zero, List.set_cons_succ]
                refine wpAnyG_take (v := ?_) 1 (by rfl) (by kernel_rfl) (by kernel_rfl) (by kernel_rfl) (by kernel_rfl) (fun _ _ _ h => h) (Or.inl ⟨by rfl, ?_⟩) (by assumption) ?_
                rotate_left
                · (intro w' hSw; (try dsimp only at hSw); (try simp only [List.getElem_toArray, List.getElem_cons_succ, List.getElem_cons_zero]); go_simp; try (with_reducible rfl))
                simp only [Act.put, List.getElem_toArray, List.getElem_cons_succ, List.getElem_cons_zero, List.setIfInBounds_toArray, List.set_cons_zero, List.set_cons_succ]
                refine wpAnyG_take (v := ?_) 2 (by rfl) (by kernel_rfl) (by kernel_rfl) (by kernel_rfl) (by kernel_rfl) (fun _ _ _ h => h) (Or.inl ⟨by rfl, ?_⟩) (by assumption) ?_
                rotate_left
                · (intro w' hSw; (try dsimp only at hSw); (try simp only [List.getElem_toArray, List.getElem_cons_succ, List.getElem_cons_zero]); go_simp; try (with_reducible rfl))
                simp only [Act.put, List.getElem_toArray, List.getElem_cons_succ, List.getElem_cons_zero, List.setIfInBounds_toArray, List.set_cons_zero, List.set_cons_succ]
                refine wpAnyG_take (v := ?_) 3 (by rfl) (by kernel_rfl) (by kernel_rfl) (by kernel_rfl) (by kernel_rfl) (fun _ _ _ h => h) (Or.inl ⟨by rfl, ?_⟩) (by assumption) ?_
                rotate_left
                · (intro w' hSw; (try dsimp only at hSw); (try simp only [List.getElem_toArray, List.getElem_cons_succ, List.getElem_cons_zero]); go_simp; try (with_reducible rfl))
                simp only [Act.put, List.getElem_toArray, List.getElem_cons_succ, List.getElem_cons_zero, List.setIfInBounds_toArray, List.set_cons_zero, List.set_cons_succ]
                refine wpAnyG_ready [4] (by kernel_rfl) (by simp) ?_
                refine AllReadyG.cons 4 (by rfl) (fun K hK => ?_) ?_
                · simp only [List.getElem_toArray, List.getElem_cons_succ, List.getElem_cons_zero]
                  go_simp
                  go_at_call 67
                  refine (rank_any (X + l) (A + 1) _ (by omega) (by omega) (by omega) (by omega)).mono ?_
                  rintro e wk ⟨rfl, hlk⟩
                  have hbk := Below.trans hbs (hlk.mono hbs.size)
                  have HW3 := hide ((unhide HWS).below hbk)
                  refine hK.out _ _ (unhide HRD3 _ (.of hbk)) (fun _ => ?_)
                  clear hK K
                  try simp only [Act.put, List.setIfInBounds_toArray, List.set_cons_zero, List.set_cons_succ]
                  refine wpAnyG_ready [5] (by kernel_rfl) (by simp) ?_
                  refine AllReadyG.cons 5 (by rfl) (fun K hK => ?_) ?_
                  · simp only [List.getElem_toArray, List.getElem_cons_succ, List.getElem_cons_zero]
                    go_simp
                    go_at_call 66
                    refine (hput_any M w4.heap.size (t : Int) ((X + l) * 300 + (A + 1)) wk (unhide HW3).hp).mono ?_
                    rintro e wp ⟨rfl, hbp, hpp⟩
                    have HW4 := hide ((unhide HW3).put hbp hpp hgB4 hbxh)
                    refine hK.out _ _ (unhide HRD3 _ ((But.of hbk).trans hbp)) (fun _ => ?_)
                    clear hK K
                    try simp only [Act.put, List.setIfInBounds_toArray, List.set_cons_zero, List.set_cons_succ]
                    refine wpAnyG_done (by kernel_rfl) ?_ _
                    refine NoPanic.normal ?_
                    clear hHeld
                    go_wp2
                    go_roundg g'
                    case rel => exact ⟨i + 1, _, _, by omega, by go_num, hide (unhide HY), HW4⟩
                    case measure => omega
                  exact AllReadyG.nil
                exact AllReadyG.nil
            exact AllReadyG.nil
        · obtain rfl : i = (Sp.outs L j).length := by omega
          have hiI : ¬ (((Sp.outs L j).length : Nat) : Int) < ((Sp.outs L j).length : Int) := by omega
          have HE : Hid (Sp.SpI L s N y M (fun v => S v || (v == j)) ∧ Sp.ct (fun v => S v || (v == j)) N = Sp.ct S N + 1) := hide ((unhide HX).close (unhide HSj) hjN (fun a ha haj => ⟨a, by rw [List.take_of_length_le (Nat.le_refl _)]; exact Sp.outs_mem.2 ⟨ha, haj⟩, rfl⟩))
          obtain ⟨x0, x1, -⟩ := item_at (unhide HW).x
          have HWN : Hid (SpW w4 (wr.alloc (.cells #[.int .i64 (j : Int), .int .i64 r] 98)) (w.heap.size + 1) wr.heap.size (N * 2) y (j : Int) r M) := hide
            ⟨(unhide HW).bt.alloc _, (unhide HW).co.alloc _, (unhide HW).hp.below ((Below.refl _ wr).alloc (Nat.le_refl _) _), by show (wr.heap.push _)[wr.heap.size]? = _; simp⟩
          have hbw : w4.heap.size < wr.heap.size := Nat.lt_trans hbxh (unhide HW).lt
          have HTk := hide (htake_any M w4.heap.size (wr.alloc (.cells #[.int .i64 (j : Int), .int .i64 r] 98)) (unhide HWN).hp)
          clear HX HW hiI hig
          go_wp2_with fail
          go_at_call 68
          generalize wr.alloc (.cells #[.int .i64 (j : Int), .int .i64 r] 98) = wN at *
          refine (unhide HTk).mono ?_
          rintro e w8 ⟨k8, r8, is8, rfl, hl8, hb8, hh8⟩
          have HW8 := hide ((unhide HWN).put hb8 hh8 hgB4 hbw)
          obtain ⟨y0, y1, yf⟩ := item_at (unhide HW8).x
          have y1' := fun v : Value => show (w8.setCell ⟨wr.heap.size, 0, none⟩ v).cell? ⟨wr.heap.size, 1, none⟩ = some (.int .i64 r) by rw [cell_set_ne (by omega)]; exact y1
          have HW9 := hide ((unhide HW8).xset k8 r8 (by omega) (by omega))
          have HL8 := hide hl8
          have hct := (unhide HE).2
          clear hl8 hb8 hh8 HTk HWN HW8 x0 x1 y1
          go_wp2
          go_roundg gO
          case rel => exact ⟨_, _, _, _, _, _, _, rfl, rfl, by omega, hbw, HL8, hide (unhide HE).1, HW9⟩
          case measure => omega
end Go.Proofs.Ytoegjnolccabjab


/- Package path: From. -/
namespace Go.Proofs.Ytoegjnolccabjab
open Go Go.RowKit

set_option maxRecDepth 100000 in
set_option maxHeartbeats 8000000 in
theorem from_any (N : Nat) (L : List Sp.Arc) (s : Nat) (lv : Value) (w : World) (hl : ArcsI w lv L) (hS : Sp.Snd N L) (hpos : ∀ a ∈ L, 0 ≤ a.l) (hs : s < N) (hN : N ≤ 60) :
    Calls Try.prog 31 #[.int .i64 (N : Int), lv, .int .i64 (s : Int)] w fun e w' => ∃ G D, e = .returned (.slice (some ⟨G, 0, none⟩) N N) ∧ w.heap.size ≤ G ∧ RowAt w' G N D ∧ Below w.heap.size w w' ∧ Sp.Short 1152921504606846976 L s N D ∧ ∀ v, v < N → D v ≠ 1152921504606846976 → D v < 1152921504606846976 := by
  have hsI : (s : Int) < (N : Int) := by omega
  obtain ⟨W1, hW1⟩ : ∃ W1, W1 = w.alloc (.cells #[.int .i64 (s : Int)] 3) := ⟨_, rfl⟩
  have hb1 : Below w.heap.size w W1 := by rw [hW1]; exact (Below.refl _ w).alloc (Nat.le_refl _) _
  have hI1 : Ints W1 (.slice (some ⟨w.heap.size, 0, none⟩) 1 1) [(s : Int)] := by rw [hW1]; exact OwnI.ints (own_lit w 0 _ 1 [(s : Int)] rfl rfl (Nat.zero_le _) (by simp))
  have HC1 := hide (psound_yes N L [(s : Int)] lv _ W1 (hl.below hb1) hI1 (by simp) (by omega) hS (by simp; omega))
  have HC2 : Hid (∀ w', Below w.heap.size w w' → Calls Try.prog 44 #[lv] w' fun e w'' => e = .returned (.bool true) ∧ Below w'.heap.size w' w'') := hide fun w' hb => forward_yes L lv w' (hl.below hb) hS.few hpos
  have HC3 : Hid (∀ w', Below w.heap.size w w' → Calls Try.prog 45 #[.int .i64 (N : Int), lv, .int .i64 (s : Int)] w' fun e w'' => ∃ y, e = .returned (.slice (some ⟨w'.heap.size + 1, 0, none⟩) N N) ∧ CoAt w'' (w'.heap.size + 1) (N * 2) y ∧ Below w'.heap.size w' w'' ∧ Sp.Short 345876451382054092800 (Sp.pairL 300 L) s N (Sp.rk y) ∧ Sp.Bd N N y) := hide fun w' hb => spread_any N L s lv w' (hl.below hb) hS hpos hs hN
  have HF : Hid (∀ y, Sp.Short 345876451382054092800 (Sp.pairL 300 L) s N (Sp.rk y) → Sp.Bd N N y → Sp.Short 1152921504606846976 L s N (fun v => y (v * 2)) ∧ ∀ v, v < N → y (v * 2) ≠ 1152921504606846976 → y (v * 2) < 1152921504606846976) := hide fun y h hb => ⟨Sp.short_long h hb (by omega) (fun a ha => ⟨(hS.at_ a ha).1, (hS.at_ a ha).2.1⟩) hs, fun v hv hne => by rcases hb v hv with e | e; exact absurd e.1 hne; omega⟩
  have HB1 := hide (And.intro hb1 (show w.heap.size ≤ W1.heap.size by rw [hW1]; simp))
  obtain ⟨la, lc, rfl, -⟩ := hl.form
  obtain ⟨P, hP⟩ : ∃ P : Ending → World → Prop, P = fun e w' => ∃ G D, e = .returned (.slice (some ⟨G, 0, none⟩) N N) ∧ w.heap.size ≤ G ∧ RowAt w' G N D ∧ Below w.heap.size w w' ∧ Sp.Short 1152921504606846976 L s N D ∧ ∀ v, v < N → D v ≠ 1152921504606846976 → D v < 1152921504606846976 := ⟨_, rfl⟩
  rw [← hP]
  have HP := hide hP
  clear hP hl hS hpos hb1 hI1
  subst hW1
  go_enter Try.func31, Try.ntmps31
  go_wp2_with fail
  go_at_call 43
  generalize w.alloc (.cells #[.int .i64 (s : Int)] 3) = W1 at *
  refine (unhide HC1).mono ?_
  rintro e w2 ⟨rfl, hb2⟩
  have hb2' := (unhide HB1).1.trans (hb2.mono (unhide HB1).2)
  have HC2' := hide (unhide HC2 _ hb2')
  have HB2 := hide hb2'
  clear hb2 hb2' HC1 HC2
  go_wp2_with fail
  go_at_call 44
  refine (unhide HC2').mono ?_
  rintro e w3 ⟨rfl, hb3⟩
  have HB3 := hide ((unhide HB2).trans (hb3.mono (unhide HB2).size))
  clear hb3 HB2 HC2'
  go_wp2_with (at_make; refine wpList_mk rfl _ _ rfl w3.heap.size N rfl rfl (by omega) (Nat.le_refl _) ?_)
  rintro w4 hown4 hb4 -
  obtain ⟨G, hG⟩ : ∃ G, G = w3.heap.size := ⟨_, rfl⟩
  rw [← hG] at hown4 ⊢
  have hG0 : w.heap.size ≤ G := by rw [hG]; exact (unhide HB3).size
  have hr4 := (RowAt.of_rep hown4).1
  have HB4 := hide ((unhide HB3).trans (hb4.mono (unhide HB3).size))
  have HR4 := hide hr4
  have HC3' := hide (unhide HC3 _ (unhide HB4))
  clear hown4 hb4 hr4 HB3 HC3 hG
  go_wp2_with fail
  go_at_call 45
  refine (unhide HC3').mono ?_
  rintro e w5 ⟨y, rfl, hc5, hb5, hsh, hbd⟩
  have hGlt := (unhide HR4).lt
  have HS5 := hide (unhide HF y hsh hbd)
  have HQ5 : Hid (Bt (fun b => b = G) w5 w5 ∧ RowAt w5 G N (fun v => if v < 0 then y (v * 2) else 0)) := hide ⟨Bt.refl _ _, ((unhide HR4).below hb5).congr fun j hj => by rw [if_neg (by omega)]⟩
  have HB5 : Hid (Below w.heap.size w w5) := hide ((unhide HB4).trans (hb5.mono (unhide HB4).size))
  have HC5 : Hid (∀ w', Bt (fun b => b = G) w5 w' → CoAt w' (w4.heap.size + 1) (N * 2) y) := hide fun w' hb => hc5.bt hb (by show ¬ (w4.heap.size + 1 = G); omega)
  have hg5 := hc5.lt
  clear hc5 hb5 hsh hbd HC3' HB4 HR4 HF
  go_wp2
  go_loopg [28] N (fun g s28 wr => ∃ d : Nat, d + g = N ∧ s28 = .int .i64 (d : Int) ∧ Hid (Bt (fun b => b = G) w5 wr ∧ RowAt wr G N (fun v => if v < d then y (v * 2) else 0)))
  case atStart => exact ⟨0, by omega, rfl, HQ5⟩
  case round =>
    clear HQ5
    obtain ⟨d, hdg, rfl, HI⟩ := hrel
    by_cases hd : d < N
    · have hdI : (d : Int) < (N : Int) := by omega
      obtain ⟨g', rfl⟩ : ∃ g', gk = g' + 1 := ⟨gk - 1, by omega⟩
      have hco := unhide HC5 wr (unhide HI).1
      have c0 := hco.cell (j := d * 2) (by omega)
      have c1 := hco.cell (j := d * 2 + 1) (by omega)
      obtain ⟨W2, hW2⟩ : ∃ W2, W2 = wr.alloc (.cells #[.int .i64 (y (d * 2)), .int .i64 (y (d * 2 + 1))] 76) := ⟨_, rfl⟩
      obtain ⟨u0, u1⟩ := cost_new wr (.int .i64 (y (d * 2))) (.int .i64 (y (d * 2 + 1)))
      rw [← hW2] at u0 u1
      have hr2 : RowAt W2 G N (fun v => if v < d then y (v * 2) else 0) := by rw [hW2]; exact (unhide HI).2.alloc _
      have hb2 : Bt (fun b => b = G) w5 W2 := by rw [hW2]; exact (unhide HI).1.alloc _
      have k0 := hr2.cell hd
      have kf := fun i => hr2.frozen i none
      have HF : Hid (Bt (fun b => b = G) w5 (W2.setCell ⟨G, d, none⟩ (.int .i64 (y (d * 2)))) ∧ RowAt (W2.setCell ⟨G, d, none⟩ (.int .i64 (y (d * 2)))) G N (fun v => if v < d + 1 then y (v * 2) else 0)) := hide ⟨hb2.set (.inl rfl) _ _ _, (hr2.set _ _).congr fun j hj => by
        unfold Sp.upd
        by_cases e : j = d
        · subst e; rw [if_pos rfl, if_pos (by omega)]
        · rw [if_neg e]
          show (if j < d then y (j * 2) else 0) = _
          by_cases e2 : j < d
          · rw [if_pos e2, if_pos (by omega)]
          · rw [if_neg e2, if_neg (by omega)]⟩
      clear hco hr2 hb2 HI
      subst hW2
      generalize y (d * 2) = yd at *
      go_wp2
      go_roundg g'
      case rel => exact ⟨d + 1, by omega, by go_num, HF⟩
      case measure => omega
    · have hdI : ¬ (d : Int) < (N : Int) := by omega
      obtain rfl : d = N := by omega
      go_wp2
      rw [unhide HP]
      exact ⟨G, _, rfl, hG0, (unhide HI).2.congr (fun j hj => by rw [if_pos hj]), (unhide HB5).trans ((unhide HI).1.below (B := w.heap.size) (fun b hb => by have : b = G := hb; omega) (unhide HB5).size), (unhide HS5).1, (unhide HS5).2⟩
end Go.Proofs.Ytoegjnolccabjab


