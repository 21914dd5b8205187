/- What the proof needs, part 5. -/
import Derived.Test.YtoegjnolccabjaaL4
/- The walk of package rot: Parts. -/
namespace Go.Proofs.Ytoegjnolccabjaa
open Go Go.RowKit

/-- From one vertex that was found: its darts by number. -/
def Sp.spreadGo (tl : List Int) (f p : Int) : Nat → Nat → List Int → List Int → List Int × List Int
  | 0, _, of, fd => (of, fd)
  | c + 1, d, of, fd => if tl.getD d 0 = f ∧ of.getD (tl.getD (Sp.oth d) 0).toNat 0 = -1 then Sp.spreadGo tl f p c (d + 1) (of.set (tl.getD (Sp.oth d) 0).toNat p) (fd ++ [tl.getD (Sp.oth d) 0]) else Sp.spreadGo tl f p c (d + 1) of fd
/-- One piece: the vertices found, in their order. -/
def Sp.floodGo (tl : List Int) (p : Int) : Nat → Nat → List Int → List Int → List Int
  | 0, _, of, _ => of
  | g + 1, i, of, fd => if i < fd.length then Sp.floodGo tl p g (i + 1) (Sp.spreadGo tl (fd.getD i 0) p tl.length 0 of fd).1 (Sp.spreadGo tl (fd.getD i 0) p tl.length 0 of fd).2 else of
def Sp.partsGo (tl : List Int) (N : Nat) : Nat → Nat → List Int → Nat → List Int × Nat
  | 0, _, of, p => (of, p)
  | c + 1, v, of, p => if of.getD v 0 = -1 then Sp.partsGo tl N c (v + 1) (Sp.floodGo tl p (N + 1) 0 (of.set v p) [(v : Int)]) (p + 1) else Sp.partsGo tl N c (v + 1) of p
/-- Of which piece each vertex is; how many there are. -/
def Sp.pieces (q : Sp.Net) : List Int × Nat := Sp.partsGo q.tail q.n.toNat q.n.toNat 0 (List.replicate q.n.toNat (-1)) 0
structure PKeep (B O N : Nat) (W wr : World) (of : List Int) : Prop where
  len : of.length = N
  own : OwnI wr B (.slice (some ⟨O, 0, none⟩) N N) of
  bel : Below B W wr
  lt : O < wr.heap.size
  ge : B ≤ O
structure FKeep (O N : Nat) (wr : World) (of fd : List Int) (fv : Value) : Prop where
  own : OwnI wr (O + 1) fv fd
  fit : RFit N fd
  set : ∀ x ∈ fd, of.getD x.toNat 0 ≠ -1
theorem PKeep.below {B O N : Nat} {W wr w5 : World} {of : List Int} (h : PKeep B O N W wr of) (hb : Below wr.heap.size wr w5) : PKeep B O N W w5 of :=
  ⟨h.len, own_below h.own hb, h.bel.trans (hb.mono (by have := h.lt; have := h.ge; omega)), Nat.lt_of_lt_of_le h.lt hb.size, h.ge⟩
theorem own_apart {w w' : World} {B O n c : Nat} {l : List Int} (h : OwnI w B (.slice (some ⟨O, 0, none⟩) n c) l) (hb : Below (O + 1) w w') : OwnI w' B (.slice (some ⟨O, 0, none⟩) n c) l := by
  obtain ⟨hx, ⟨hv, -⟩ | ⟨g, cap, cur, hv, hg, hh, r⟩⟩ := h
  · cases hv
  · refine ⟨hx, .inr ⟨g, cap, cur, hv, hg, ?_, r⟩⟩
    injection hv with h1
    injection h1 with h1
    injection h1 with h1 _
    rw [hb.block g (by omega)]
    exact hh
theorem PKeep.apart {B O N : Nat} {W wr w5 : World} {of : List Int} (h : PKeep B O N W wr of) (hb : Below (O + 1) wr w5) : PKeep B O N W w5 of :=
  ⟨h.len, own_apart h.own hb, h.bel.trans (hb.mono (by have := h.ge; omega)), Nat.lt_of_lt_of_le h.lt hb.size, h.ge⟩
theorem PKeep.set {B O N : Nat} {W wr : World} {of : List Int} (h : PKeep B O N W wr of) (x : Nat) (p : Int) : PKeep B O N W (wr.setCell ⟨O, x, none⟩ (.int .i64 p)) (of.set x p) :=
  ⟨by rw [List.length_set]; exact h.len, own_setCell h.own x p, h.bel.setCell (by exact h.ge) _, by simpa using h.lt, h.ge⟩
theorem FKeep.below {O N : Nat} {wr w5 : World} {of fd : List Int} {fv : Value} (h : FKeep O N wr of fd fv) (hb : Below wr.heap.size wr w5) : FKeep O N w5 of fd fv :=
  ⟨own_below h.own hb, h.fit, h.set⟩
theorem getD_set_ne' (l : List Int) (i j : Nat) (p : Int) (h : l.getD i 0 ≠ -1) (hp : p ≠ -1) : (l.set j p).getD i 0 ≠ -1 := by
  by_cases hij : j = i
  · subst hij
    rcases Nat.lt_or_ge j l.length with hl | hl
    · rw [List.getD_eq_getElem?_getD, List.getElem?_set_self hl]; exact hp
    · rw [List.set_eq_of_length_le hl]; exact h
  · rw [List.getD_eq_getElem?_getD, List.getElem?_set_ne hij, ← List.getD_eq_getElem?_getD]; exact h
theorem getD_set_self' (l : List Int) (j : Nat) (p : Int) (hl : j < l.length) : (l.set j p).getD j 0 = p := by
  rw [List.getD_eq_getElem?_getD, List.getElem?_set_self hl]; rfl
set_option maxRecDepth 100000 in
set_option maxHeartbeats 2000000 in
theorem parts_any (q : Sp.Net) (v tv nv cv : Value) (w : World) (hv : NetI w v q tv nv cv) (hw : Sp.walkB q = true) :
    Calls Try.prog 80 #[v] w fun e w' => ∃ pv, e = .returned (.tuple #[pv, .int .i64 (((Sp.pieces q).2 : Nat) : Int)]) ∧ OwnI w' w.heap.size pv (Sp.pieces q).1 ∧ Below w.heap.size w w' := by
  have hq := walkQ hw
  have hv' := hv
  obtain ⟨rfl, h1, h2, h3⟩ := hv
  obtain ⟨ta, tc, rfl, htc, htm, HT⟩ := h1.all
  obtain ⟨na, nc, rfl, -, -⟩ := h2.form
  obtain ⟨ca, cc, rfl, -, -⟩ := h3.form
  clear h1 h2 h3
  obtain ⟨N, hN⟩ : ∃ N : Nat, q.n = (N : Int) := ⟨q.n.toNat, by have := hq.n0; omega⟩
  have hN60 : N ≤ 60 := by have := hq.n1; omega
  have hRp : Sp.pieces q = Sp.partsGo q.tail N N 0 (List.replicate N (-1)) 0 := by unfold Sp.pieces; rw [hN, Int.toNat_natCast]
  have HRp := hide hRp
  have HTB : Hid (∀ x ∈ q.tail, 0 ≤ x ∧ x < (N : Int)) := hide (by rw [← hN]; exact hq.tb)
  rw [hN] at hv' ⊢
  clear hRp
  have HBX := hide (box_new w (N : Int) (.slice ta q.tail.length tc) (.slice na q.next.length nc) (.slice ca q.cap.length cc))
  obtain ⟨W1, hW1⟩ : ∃ W1, W1 = w.alloc (.cells #[.int .i64 (N : Int), .slice ta q.tail.length tc, .slice na q.next.length nc, .slice ca q.cap.length cc] 25) := ⟨_, rfl⟩
  rw [← hW1] at HBX
  have hb1 : Below w.heap.size w W1 := by rw [hW1]; exact (Below.refl _ w).alloc (Nat.le_refl _) _
  have hs1 : W1.heap.size = w.heap.size + 1 := by rw [hW1]; simp
  have HW : Hid (∀ w', Below (w.heap.size + 1) W1 w' → Below w.heap.size w w') := hide fun w' hb => hb1.trans (hb.mono (by omega))
  have HS1 := hide hs1
  have HV : Hid (∀ w', Below (w.heap.size + 1) W1 w' → NetI w' (.agg #[.int .i64 (N : Int), .slice ta q.tail.length tc, .slice na q.next.length nc, .slice ca q.cap.length cc]) q (.slice ta q.tail.length tc) (.slice na q.next.length nc) (.slice ca q.cap.length cc)) := hide fun w' hb => hv'.below (unhide HW _ hb)
  have HC1 := hide (rwalkable_any q _ _ _ _ W1 (unhide HV W1 (Below.refl _ _)))
  rw [hw] at HC1
  have HQ := hide hq
  have hbig := hq.big
  obtain ⟨P, hP⟩ : ∃ P : Ending → World → Prop, P = fun e w' => ∃ pv, e = .returned (.tuple #[pv, .int .i64 (((Sp.pieces q).2 : Nat) : Int)]) ∧ OwnI w' w.heap.size pv (Sp.pieces q).1 ∧ Below w.heap.size w w' := ⟨_, rfl⟩
  rw [← hP]
  have HP := hide hP
  obtain ⟨x0, x1, x2, x3, -⟩ := unhide HBX W1 (Below.refl _ _)
  clear hb1 hs1 hv' hw hq hP hN
  subst hW1
  go_enter Try.func80, Try.ntmps80
  go_wp2_with fail
  go_at_call 83
  refine (unhide HC1).mono ?_
  clear HC1 x0 x1 x2 x3
  generalize w.alloc (.cells #[.int .i64 (N : Int), .slice ta q.tail.length tc, .slice na q.next.length nc, .slice ca q.cap.length cc] 25) = W1 at *
  rintro e w2 ⟨rfl, hb2⟩
  rw [unhide HS1] at hb2
  obtain ⟨x0, x1, x2, x3, hsz2⟩ := unhide HBX w2 hb2
  have hb3 : Below (w.heap.size + 1) W1 (w2.alloc (.cells #[.int .i64 (-1)] 3)) := hb2.alloc hsz2 _
  have y0 := (unhide HBX _ hb3).1
  have HC2 := hide (repeat_any (-1) w2.heap.size N (w2.alloc (.cells #[.int .i64 (-1)] 3)) hN60 (own_cell (own_lit w2 0 w2.heap.size 1 [-1] rfl rfl (Nat.zero_le _) (by simp)) 0 (by simp)) (by simp))
  have Hb3 := hide hb3
  clear hb3 hb2 x1 x2 x3
  go_wp2_with fail
  go_at_call 54
  refine (unhide HC2).mono ?_
  clear HC2
  have hsz3 : w.heap.size + 1 ≤ (w2.alloc (.cells #[.int .i64 (-1)] 3)).heap.size := by simp; omega
  generalize w2.alloc (.cells #[.int .i64 (-1)] 3) = w3 at *
  rintro e w4 ⟨rfl, hown4, hb4⟩
  have HK0 : Hid (PKeep (w.heap.size + 1) w3.heap.size N W1 w4 (List.replicate N (-1))) := hide ⟨List.length_replicate, own_base hown4 hsz3, (unhide Hb3).trans (hb4.mono hsz3), (hown4.lt w3.heap.size rfl).2, hsz3⟩
  generalize w3.heap.size = O at *
  clear hown4 hb4 x0 y0
  obtain ⟨n, hn⟩ : ∃ n, q.tail.length = n := ⟨_, rfl⟩
  rw [hn] at hbig htc HBX HV ⊢
  have Hn := hide hn
  clear hn
  go_wp2
  go_loopg [5, 21] N (fun g s5 i wr => ∃ (k p : Nat) (of : List Int), k + g = N ∧ p ≤ k ∧ s5 = .int .i64 (p : Int) ∧ i = .int .i64 (k : Int) ∧ Hid (PKeep (w.heap.size + 1) O N W1 wr of ∧ Sp.pieces q = Sp.partsGo q.tail N g k of p))
  case atStart => exact ⟨0, 0, _, by omega, by omega, rfl, rfl, hide ⟨unhide HK0, unhide HRp⟩⟩
  case round =>
    clear HK0
    obtain ⟨k, p, of, hkg, hpk, rfl, rfl, HI⟩ := hrel
    cases gk with
    | zero =>
      obtain rfl : k = N := by omega
      have HF : Hid (Sp.pieces q = (of, p)) := hide (unhide HI).2
      go_wp2
      rw [unhide HP]
      exact ⟨_, by rw [unhide HF]; rfl, by rw [unhide HF]; exact own_base (unhide HI).1.own (by omega), unhide HW _ (unhide HI).1.bel⟩
    | succ g' =>
      have hlt : k < N := by omega
      have hltI : (k : Int) < (N : Int) := by omega
      have c1 := own_cell (unhide HI).1.own k (by rw [(unhide HI).1.len]; exact hlt)
      have f1 := own_frozen (unhide HI).1.own k
      have HG : Hid (of.getD k 0 = of[k]'(by rw [(unhide HI).1.len]; exact hlt)) := hide (Sp.getD_eq _ _ _)
      generalize of[k]'_ = z at *
      by_cases hz : z = -1
      · subst hz
        have HR2 : Hid (Sp.pieces q = Sp.partsGo q.tail N g' (k + 1) (Sp.floodGo q.tail p (N + 1) 0 (of.set k p) [(k : Int)]) (p + 1)) := hide (by rw [(unhide HI).2, Sp.partsGo, if_pos (unhide HG)])
        obtain ⟨FL, hFL⟩ : ∃ FL, FL = Sp.floodGo q.tail p (N + 1) 0 (of.set k p) [(k : Int)] := ⟨_, rfl⟩
        rw [← hFL] at HR2
        have HFL := hide hFL
        have hkk : ((-1 : Int) != (-1 : Int)) = false := by simp
        clear hFL
        have HK1 : Hid (PKeep (w.heap.size + 1) O N W1 ((wr.setCell ⟨O, k, none⟩ (.int .i64 (p : Int))).alloc (.cells #[.int .i64 (k : Int)] 3)) (of.set k p)) := hide (((unhide HI).1.set k p).below ((Below.refl _ _).alloc (Nat.le_refl _) _))
        have HF1 : Hid (FKeep O N ((wr.setCell ⟨O, k, none⟩ (.int .i64 (p : Int))).alloc (.cells #[.int .i64 (k : Int)] 3)) (of.set k p) [(k : Int)] (.slice (some ⟨wr.heap.size, 0, none⟩) 1 1)) := by
          have hlt2 := (unhide HI).1.lt
          refine hide ⟨own_lit (wr.setCell ⟨O, k, none⟩ (.int .i64 (p : Int))) (O + 1) wr.heap.size 1 [(k : Int)] (by simp) rfl (by simp; omega) (by simp), ⟨by simp, ?_⟩, ?_⟩
          · intro x hx
            rw [List.mem_singleton] at hx
            subst hx; omega
          · intro x hx
            rw [List.mem_singleton] at hx
            subst hx
            rw [Int.toNat_natCast, getD_set_self' _ _ _ (by rw [(unhide HI).1.len]; exact hlt)]
            omega
        go_wp2
        clear c1 f1 hkk
        generalize (wr.setCell ⟨O, k, none⟩ (.int .i64 (p : Int))).alloc (.cells #[.int .i64 (k : Int)] 3) = wm at *
        generalize wr.heap.size = gf at *
        go_loopg [7, 8] (N + 1) (fun g s7 i wr => ∃ (i' : Nat) (of2 fd : List Int) (fv : Value), fv = s7 ∧ i' + g = N + 1 ∧ i' ≤ fd.length ∧ i = .int .i64 (i' : Int) ∧ Hid (PKeep (w.heap.size + 1) O N W1 wr of2 ∧ FKeep O N wr of2 fd fv ∧ FL = Sp.floodGo q.tail p g i' of2 fd))
        case atStart => exact ⟨0, _, [(k : Int)], _, rfl, by omega, by omega, rfl, hide ⟨unhide HK1, unhide HF1, unhide HFL⟩⟩
        case round =>
          clear HK1 HF1 HFL
          obtain ⟨i', of2, fd, fv, rfl, hig, hil, rfl, HJ⟩ := hrel
          have hfN := (unhide HJ).2.1.fit.le
          obtain ⟨fa, fc, rfl, hfc, hfm⟩ := (unhide HJ).2.1.own.ints.form
          obtain ⟨lf, hlf⟩ : ∃ lf, fd.length = lf := ⟨_, rfl⟩
          rw [hlf] at hil hfN hfc HJ ⊢
          have Hlf := hide hlf
          clear hlf
          obtain ⟨g2, rfl⟩ : ∃ g2, gk = g2 + 1 := ⟨gk - 1, by omega⟩
          by_cases hi2 : i' < lf
          · have hi2I : (i' : Int) < (lf : Int) := by omega
            obtain ⟨x0, x1, x2, x3, -⟩ := unhide HBX _ (unhide HJ).1.bel
            obtain ⟨SP, hSP⟩ : ∃ SP, SP = Sp.spreadGo q.tail (fd.getD i' 0) p n 0 of2 fd := ⟨_, rfl⟩
            have HR3 : Hid (FL = Sp.floodGo q.tail p g2 (i' + 1) SP.1 SP.2) := by
              have h := (unhide HJ).2.2
              rw [Sp.floodGo, if_pos (by rw [unhide Hlf]; exact hi2), unhide Hn, ← hSP] at h
              exact hide h
            have hfx := (unhide HJ).2.1.fit.bd (fd.getD i' 0) (Sp.getD_mem (by rw [unhide Hlf]; exact hi2))
            obtain ⟨f, hf⟩ : ∃ f : Nat, fd.getD i' 0 = (f : Int) := ⟨(fd.getD i' 0).toNat, by omega⟩
            rw [hf] at hSP
            have HSP := hide hSP
            have Hf := hide hf
            clear hSP hf hfx
            go_wp2
            go_loopg [7, 44] n (fun g s7 i wr => ∃ (d lf2 : Nat) (of3 fd3 : List Int) (fa3 : Option Addr) (fc3 : Nat), s7 = .slice fa3 lf2 fc3 ∧ d + g = n ∧ i' < lf2 ∧ i = .int .i64 (d : Int) ∧ Hid (fd3.length = lf2 ∧ fd3.getD i' 0 = (f : Int) ∧ PKeep (w.heap.size + 1) O N W1 wr of3 ∧ FKeep O N wr of3 fd3 (.slice fa3 lf2 fc3) ∧ SP = Sp.spreadGo q.tail f p g d of3 fd3))
            case atStart => exact ⟨0, lf, of2, fd, _, _, rfl, by omega, hi2, rfl, hide ⟨unhide Hlf, unhide Hf, (unhide HJ).1, (unhide HJ).2.1, unhide HSP⟩⟩
            case round =>
              clear HSP Hf HJ x0 x1 x2 x3
              obtain ⟨d, lf2, of3, fd3, fa3, fc3, rfl, hdg, hil2, rfl, HL⟩ := hrel
              cases gk with
              | zero =>
                obtain rfl : d = n := by omega
                have HR4 : Hid (FL = Sp.floodGo q.tail p g2 (i' + 1) of3 fd3) := hide (by rw [unhide HR3, (unhide HL).2.2.2.2]; rfl)
                go_wp2
                go_roundg g2
                case rel => exact ⟨i' + 1, of3, fd3, _, rfl, by omega, by rw [(unhide HL).1]; omega, by go_num, hide ⟨(unhide HL).2.2.1, (unhide HL).2.2.2.1, unhide HR4⟩⟩
                case measure => omega
              | succ g3 =>
                have hdl : d < n := by omega
                have hdI : (d : Int) < (n : Int) := by omega
                have hdt : d < q.tail.length := by rw [unhide Hn]; exact hdl
                obtain ⟨x0, x1, x2, x3, -⟩ := unhide HBX _ (unhide HL).2.2.1.bel
                obtain ⟨tb, to', hta, -, htc2⟩ := unhide HT d hdt
                subst hta
                have t1 := htc2 _ (unhide HW _ (unhide HL).2.2.1.bel)
                have HG1 : Hid (q.tail.getD d 0 = q.tail[d]) := hide (Sp.getD_eq _ _ hdt)
                have HC5 := hide (head_any' q _ _ _ _ d wr (unhide HV _ (unhide HL).2.2.1.bel) hdt (unhide HQ).ev (unhide HQ).big)
                have hoth : Sp.oth d < q.tail.length := oth_lt hdt (unhide HQ).ev
                have hhb := unhide HTB (q.tail.getD (Sp.oth d) 0) (Sp.getD_mem hoth)
                obtain ⟨h, hh⟩ : ∃ h : Nat, q.tail.getD (Sp.oth d) 0 = (h : Int) := ⟨(q.tail.getD (Sp.oth d) 0).toNat, by omega⟩
                rw [hh] at HC5 hhb
                have Hh := hide hh
                have hhN : h < N := by omega
                have hhI : (h : Int) < (N : Int) := by omega
                generalize q.tail[d] = td at *
                clear hh htc2 hhb hoth hdt
                go_wp2_with fail
                go_at_call 93
                refine (unhide HC5).mono ?_
                clear HC5 x0 x1 x2 x3 t1
                rintro e w5 ⟨rfl, hb5⟩
                have HL5 : Hid (PKeep (w.heap.size + 1) O N W1 w5 of3 ∧ FKeep O N w5 of3 fd3 (.slice fa3 lf2 fc3)) := hide ⟨(unhide HL).2.2.1.below hb5, (unhide HL).2.2.2.1.below hb5⟩
                have c2 := own_cell (unhide HL5).1.own h (by rw [(unhide HL5).1.len]; exact hhN)
                have f2 := own_frozen (unhide HL5).1.own h
                have HG2 : Hid (of3.getD h 0 = of3[h]'(by rw [(unhide HL5).1.len]; exact hhN)) := hide (Sp.getD_eq _ _ _)
                generalize of3[h]'_ = oz at *
                obtain ⟨fb, fo, fc4, hfa, hfc3, -⟩ := (unhide HL5).2.own.ints.cellAt (Below.refl _ _) i' (by rw [(unhide HL).1]; exact hil2)
                injection hfa with hfa1 hfa2 hfa3
                subst hfa1 hfa3
                have hfe : fd3[i']'(by rw [(unhide HL).1]; exact hil2) = (f : Int) := (Sp.getD_eq fd3 i' (by rw [(unhide HL).1]; exact hil2)).symm.trans (unhide HL).2.1
                rw [hfe] at hfc3
                have hil2I : (i' : Int) < (lf2 : Int) := by omega
                have HT5 : Hid (SP = if td = (f : Int) ∧ oz = -1 then Sp.spreadGo q.tail f p g3 (d + 1) (of3.set h p) (fd3 ++ [(h : Int)]) else Sp.spreadGo q.tail f p g3 (d + 1) of3 fd3) := by
                  have h5 := (unhide HL).2.2.2.2
                  rw [Sp.spreadGo, unhide Hh, unhide HG1, Int.toNat_natCast, unhide HG2] at h5
                  exact hide h5
                have HLe := hide (unhide HL).1
                have HLf := hide (unhide HL).2.1
                clear hfe HL hb5 hfa2
                by_cases htd : td = (f : Int)
                · subst htd
                  have hk1 : (((f : Int)) == (f : Int)) = true := beq_self_eq_true _
                  by_cases hoz : oz = -1
                  · subst hoz
                    have hk2 : ((-1 : Int) == (-1 : Int)) = true := by decide
                    have HN : Hid (SP = Sp.spreadGo q.tail f p g3 (d + 1) (of3.set h p) (fd3 ++ [(h : Int)])) := hide (by rw [unhide HT5, if_pos ⟨rfl, rfl⟩])
                    have HP6 : Hid (PKeep (w.heap.size + 1) O N W1 ((w5.setCell ⟨O, h, none⟩ (.int .i64 (p : Int))).alloc (.cells #[.int .i64 (h : Int)] 3)) (of3.set h p)) := hide (((unhide HL5).1.set h p).below ((Below.refl _ _).alloc (Nat.le_refl _) _))
                    have HO6 : Hid (OwnI ((w5.setCell ⟨O, h, none⟩ (.int .i64 (p : Int))).alloc (.cells #[.int .i64 (h : Int)] 3)) (O + 1) (.slice (some ⟨fb, fo, none⟩) lf2 fc3) fd3) := hide (World.ownsRow.alloc (own_store (unhide HL5).2.own (by omega) h _) _)
                    have HI6 : Hid (Ints ((w5.setCell ⟨O, h, none⟩ (.int .i64 (p : Int))).alloc (.cells #[.int .i64 (h : Int)] 3)) (.slice (some ⟨w5.heap.size, 0, none⟩) 1 1) [(h : Int)]) := hide (OwnI.ints (own_lit (w5.setCell ⟨O, h, none⟩ (.int .i64 (p : Int))) 0 _ 1 [(h : Int)] (by simp) rfl (by omega) (by simp)))
                    have hnl := (unhide HL5).2.fit.le
                    rw [unhide HLe] at hnl
                    have hlt5 := (unhide HL5).1.lt
                    have hnm : ¬ (h : Int) ∈ fd3 := fun hm => by
                      have h6 := (unhide HL5).2.set _ hm
                      rw [Int.toNat_natCast, unhide HG2] at h6
                      exact h6 rfl
                    have HNM := hide hnm
                    clear hnm
                    go_wp2_with (at_builtin; refine wpList_app (w := (w5.setCell ⟨O, h, none⟩ (.int .i64 (p : Int))).alloc (.cells #[.int .i64 (h : Int)] 3)) rfl _ _ rfl (O + 1) _ _ fd3 [(h : Int)] rfl rfl (unhide HO6) (unhide HI6) (lf2 + 1) (by rw [unhide HLe]; rfl) (by omega) (by simp; omega) ?_)
                    intro a7 c7 w7 hown7 hb7 hgr7
                    have HP7 : Hid (PKeep (w.heap.size + 1) O N W1 w7 (of3.set h p)) := hide ((unhide HP6).apart hb7)
                    have HF7 : Hid (FKeep O N w7 (of3.set h p) (fd3 ++ [(h : Int)]) (.slice a7 (lf2 + 1) c7)) := by
                      refine hide ⟨hown7, (unhide HL5).2.fit.snoc h hhN (unhide HNM), ?_⟩
                      intro x hx
                      rcases List.mem_append.1 hx with hx | hx
                      · exact getD_set_ne' _ _ _ _ ((unhide HL5).2.set x hx) (by omega)
                      · rw [List.mem_singleton] at hx
                        subst hx
                        rw [Int.toNat_natCast, getD_set_self' _ _ _ (by rw [(unhide HL5).1.len]; exact hhN)]
                        omega
                    have HLf7 : Hid ((fd3 ++ [(h : Int)]).getD i' 0 = (f : Int)) := hide (by
                      rw [List.getD_eq_getElem?_getD, List.getElem?_append_left (by rw [unhide HLe]; exact hil2), ← List.getD_eq_getElem?_getD]
                      exact unhide HLf)
                    clear hown7 hb7 hgr7 c2 f2 hfc3
                    go_wp2
                    go_roundg g3
                    case rel => exact ⟨d + 1, lf2 + 1, of3.set h p, fd3 ++ [(h : Int)], a7, c7, rfl, by omega, by omega, by go_num, hide ⟨by rw [List.length_append, unhide HLe]; rfl, unhide HLf7, unhide HP7, unhide HF7, unhide HN⟩⟩
                    case measure => omega
                  · have hk2 : (oz == (-1 : Int)) = false := beq_eq_false_iff_ne.2 hoz
                    have HN : Hid (SP = Sp.spreadGo q.tail f p g3 (d + 1) of3 fd3) := hide (by rw [unhide HT5, if_neg (fun h => hoz h.2)])
                    go_wp2
                    go_roundg g3
                    case rel => exact ⟨d + 1, lf2, of3, fd3, _, _, rfl, by omega, by omega, by go_num, hide ⟨unhide HLe, unhide HLf, (unhide HL5).1, (unhide HL5).2, unhide HN⟩⟩
                    case measure => omega
                · have hk1 : (td == (f : Int)) = false := beq_eq_false_iff_ne.2 htd
                  have HN : Hid (SP = Sp.spreadGo q.tail f p g3 (d + 1) of3 fd3) := hide (by rw [unhide HT5, if_neg (fun h => htd h.1)])
                  go_wp2
                  go_roundg g3
                  case rel => exact ⟨d + 1, lf2, of3, fd3, _, _, rfl, by omega, by omega, by go_num, hide ⟨unhide HLe, unhide HLf, (unhide HL5).1, (unhide HL5).2, unhide HN⟩⟩
                  case measure => omega
          · have HR3 : Hid (Sp.pieces q = Sp.partsGo q.tail N g' (k + 1) of2 (p + 1)) := by
              have h := (unhide HJ).2.2
              rw [Sp.floodGo, if_neg (by rw [unhide Hlf]; exact hi2)] at h
              exact hide (by rw [unhide HR2, h])
            have hi2I : ¬ (i' : Int) < (lf : Int) := by omega
            go_wp2
            go_roundg g'
            case rel => exact ⟨k + 1, p + 1, of2, by omega, by omega, by go_num, by go_num, hide ⟨(unhide HJ).1, unhide HR3⟩⟩
            case measure => omega
      · have HR2 : Hid (Sp.pieces q = Sp.partsGo q.tail N g' (k + 1) of p) := hide (by rw [(unhide HI).2, Sp.partsGo, if_neg (by rw [unhide HG]; exact hz)])
        have hkk : (z != (-1 : Int)) = true := by simpa using hz
        go_wp2
        go_roundg g'
        case rel => exact ⟨k + 1, p, of, by omega, by omega, rfl, by go_num, hide ⟨(unhide HI).1, unhide HR2⟩⟩
        case measure => omega
end Go.Proofs.Ytoegjnolccabjaa


/- The walk of the second reference's Faces, over next ones that come round. -/
namespace Go.Proofs.Ytoegjnolccabjaa
open Go Go.RowKit

def Sp.faces2Go (st : List Int) : Nat → Nat → List Int → Nat → List Int × Nat
  | 0, _, of, k => (of, k)
  | f + 1, d, of, k => if 0 ≤ of.getD d 0 then Sp.faces2Go st f (d + 1) of k else Sp.faces2Go st f (d + 1) (Sp.paint k of (Sp.rounds st d (Sp.per st d))) (k + 1)
/-- Each dart's face as the reference numbers them; how many. -/
def Sp.faces2 (q : Sp.Net) : List Int × Nat := Sp.faces2Go (Sp.behindL q.next) q.tail.length 0 (List.replicate q.tail.length (-1)) 0
theorem set_fill (n j : Nat) (hj : j < n) : (List.replicate j (-1 : Int) ++ List.replicate (n - j) 0).set j (-1) = List.replicate (j + 1) (-1) ++ List.replicate (n - (j + 1)) 0 := by
  rw [List.set_append_right _ _ (by simp), List.replicate_succ', List.append_assoc]
  congr 1
  obtain ⟨m, hm⟩ : ∃ m, n - j = m + 1 := ⟨n - j - 1, by omega⟩
  rw [hm, show n - (j + 1) = m by omega, List.replicate_succ]
  simp
set_option maxRecDepth 100000 in
set_option maxHeartbeats 2000000 in
theorem faces2_any (q : Sp.Net) (v tv nv cv : Value) (w : World) (hv : NetI w v q tv nv cv) (hq1 : q.next.length = q.tail.length) (hn : q.tail.length ≤ 240) (hev : q.tail.length % 2 = 0) (hp : Sp.Perm q.next) :
    Calls Try.prog 25 #[v] w fun e w' => ∃ fv, e = .returned (.tuple #[fv, .int .i64 ((max (Sp.faces2 q).2 1 : Nat) : Int)]) ∧ OwnI w' w.heap.size fv (Sp.faces2 q).1 ∧ Below w.heap.size w w' := by
  have hv' := hv
  obtain ⟨rfl, h1, h2, h3⟩ := hv
  obtain ⟨ta, tc, rfl, htc, htm⟩ := h1.form
  obtain ⟨na, nc, rfl, -, -⟩ := h2.form
  obtain ⟨ca, cc, rfl, -, -⟩ := h3.form
  clear h1 h2 h3
  have HBX := hide (box_new w q.n (.slice ta q.tail.length tc) (.slice na q.next.length nc) (.slice ca q.cap.length cc))
  obtain ⟨W1, hW1⟩ : ∃ W1, W1 = w.alloc (.cells #[.int .i64 q.n, .slice ta q.tail.length tc, .slice na q.next.length nc, .slice ca q.cap.length cc] 25) := ⟨_, rfl⟩
  rw [← hW1] at HBX
  have hb1 : Below w.heap.size w W1 := by rw [hW1]; exact (Below.refl _ w).alloc (Nat.le_refl _) _
  have hs1 : W1.heap.size = w.heap.size + 1 := by rw [hW1]; simp
  have HW : Hid (∀ w', Below (w.heap.size + 1) W1 w' → Below w.heap.size w w') := hide fun w' hb => hb1.trans (hb.mono (by omega))
  have HS1 := hide hs1
  have HV : Hid (∀ w', Below (w.heap.size + 1) W1 w' → NetI w' (.agg #[.int .i64 q.n, .slice ta q.tail.length tc, .slice na q.next.length nc, .slice ca q.cap.length cc]) q (.slice ta q.tail.length tc) (.slice na q.next.length nc) (.slice ca q.cap.length cc)) := hide fun w' hb => hv'.below (unhide HW _ hb)
  have HPm := hide (hp.behind (by rw [hq1]; exact hev))
  have HQ : Hid (q.next.length ≤ 240 ∧ q.next.length % 2 = 0 ∧ (∀ x ∈ q.next, 0 ≤ x ∧ x < q.next.length) ∧ q.next.length = q.tail.length) := hide ⟨by omega, by omega, hp.bd, hq1⟩
  have HF1 : Hid (Sp.faces2 q = Sp.faces2Go (Sp.behindL q.next) q.tail.length 0 (List.replicate q.tail.length (-1)) 0) := hide rfl
  have HBL : Hid ((Sp.behindL q.next).length = q.tail.length) := hide (by rw [Sp.behindL_len, hq1])
  generalize Sp.faces2 q = R at *
  obtain ⟨P, hP⟩ : ∃ P : Ending → World → Prop, P = fun e w' => ∃ fv, e = .returned (.tuple #[fv, .int .i64 ((max R.2 1 : Nat) : Int)]) ∧ OwnI w' w.heap.size fv R.1 ∧ Below w.heap.size w w' := ⟨_, rfl⟩
  rw [← hP]
  have HP := hide hP
  obtain ⟨x0, x1, x2, x3, -⟩ := unhide HBX W1 (Below.refl _ _)
  clear hb1 hs1 hv' hp hP hq1 hev
  subst hW1
  go_enter Try.func25, Try.ntmps25
  go_wp2_with (at_make; refine wpList_mk rfl _ _ rfl (w.heap.size + 1) q.tail.length rfl rfl (by omega) (by simp) ?_)
  intro w5 hown5 hb5 hlt5
  clear x0 x1 x2 x3
  generalize w.alloc (.cells #[.int .i64 q.n, .slice ta q.tail.length tc, .slice na q.next.length nc, .slice ca q.cap.length cc] 25) = W1 at *
  obtain ⟨n, hnn⟩ : ∃ n, q.tail.length = n := ⟨_, rfl⟩
  rw [hnn] at hown5 HF1 HBX HV HQ HBL hn htc ⊢
  clear hnn
  have HK0 : Hid (PKeep (w.heap.size + 1) (w.heap.size + 1) n W1 w5 (List.replicate n 0)) := hide ⟨List.length_replicate, hown5, hb5, by have := (hown5.lt (w.heap.size + 1) rfl).2; exact this, Nat.le_refl _⟩
  clear hown5 hb5 hlt5
  go_wp2
  go_loopg [5] n (fun g i wr => ∃ j : Nat, j + g = n ∧ i = .int .i64 (j : Int) ∧ Hid (PKeep (w.heap.size + 1) (w.heap.size + 1) n W1 wr (List.replicate j (-1) ++ List.replicate (n - j) 0)))
  case atStart => exact ⟨0, by omega, rfl, by simpa using HK0⟩
  case round =>
    clear HK0
    obtain ⟨j, hjg, rfl, HI⟩ := hrel
    cases gk with
    | succ g' =>
      have hlt : j < n := by omega
      have hltI : (j : Int) < (n : Int) := by omega
      have c1 := own_cell (unhide HI).own j (by rw [(unhide HI).len]; exact hlt)
      have f1 := own_frozen (unhide HI).own j
      have HN : Hid (PKeep (w.heap.size + 1) (w.heap.size + 1) n W1 (wr.setCell ⟨w.heap.size + 1, j, none⟩ (.int .i64 (-1))) (List.replicate (j + 1) (-1) ++ List.replicate (n - (j + 1)) 0)) := by
        have h := (unhide HI).set j (-1)
        rw [set_fill n j hlt] at h
        exact hide h
      generalize (List.replicate j (-1 : Int) ++ List.replicate (n - j) 0)[j]'_ = z at *
      go_wp2
      go_roundg g'
      case rel => exact ⟨j + 1, by omega, by go_num, HN⟩
      case measure => omega
    | zero =>
      obtain rfl : j = n := by omega
      have HK1 : Hid (PKeep (w.heap.size + 1) (w.heap.size + 1) j W1 wr (List.replicate j (-1))) := by simpa using HI
      clear HI
      go_wp2
      go_loopg [6, 7] j (fun g s6 i wr => ∃ (d k : Nat) (of : List Int), d + g = j ∧ k ≤ d ∧ s6 = .int .i64 (k : Int) ∧ i = .int .i64 (d : Int) ∧ Hid (PKeep (w.heap.size + 1) (w.heap.size + 1) j W1 wr of ∧ R = Sp.faces2Go (Sp.behindL q.next) g d of k))
      case atStart => exact ⟨0, 0, _, by omega, by omega, rfl, rfl, hide ⟨unhide HK1, unhide HF1⟩⟩
      case round =>
        clear HK1
        obtain ⟨d, k, of, hdg, hkd, rfl, rfl, HI⟩ := hrel
        cases gk with
        | zero =>
          obtain rfl : d = j := by omega
          have HF : Hid (R = (of, k)) := hide (unhide HI).2
          go_wp2
          all_goals
            rw [unhide HP]
            exact ⟨_, ret_tup _ (by rw [unhide HF]; show _ = ((max k 1 : Nat) : Int); omega), by rw [unhide HF]; exact own_base (unhide HI).1.own (by omega), unhide HW _ (unhide HI).1.bel⟩
        | succ g' =>
          have hlt : d < j := by omega
          have hltI : (d : Int) < (j : Int) := by omega
          have c1 := own_cell (unhide HI).1.own d (by rw [(unhide HI).1.len]; exact hlt)
          have HG : Hid (of.getD d 0 = of[d]'(by rw [(unhide HI).1.len]; exact hlt)) := hide (Sp.getD_eq _ _ _)
          generalize of[d]'_ = z at *
          by_cases hz : 0 ≤ z
          · have HR : Hid (R = Sp.faces2Go (Sp.behindL q.next) g' (d + 1) of k) := hide (by rw [(unhide HI).2, Sp.faces2Go, if_pos (by rw [unhide HG]; exact hz)])
            go_wp2
            go_roundg g'
            case rel => exact ⟨d + 1, k, of, by omega, by omega, rfl, by go_num, hide ⟨(unhide HI).1, unhide HR⟩⟩
            case measure => omega
          · obtain ⟨FL, hFL⟩ : ∃ FL, FL = Sp.rounds (Sp.behindL q.next) d (Sp.per (Sp.behindL q.next) d) := ⟨_, rfl⟩
            have HR : Hid (R = Sp.faces2Go (Sp.behindL q.next) g' (d + 1) (Sp.paint k of FL) (k + 1)) := hide (by rw [(unhide HI).2, Sp.faces2Go, if_neg (by rw [unhide HG]; exact hz), hFL])
            obtain ⟨m1, m2, m3, m4⟩ := (unhide HPm).per (d := d) (by rw [unhide HBL]; exact hlt)
            rw [unhide HBL] at m2
            have HC := hide (face2_any q _ _ _ _ d (Sp.per (Sp.behindL q.next) d) wr (unhide HV _ (unhide HI).1.bel) (unhide HQ).1 (unhide HQ).2.1 (unhide HQ).2.2.1 (by rw [(unhide HQ).2.2.2]; exact hlt) m1 (by omega) m3 m4)
            rw [← hFL] at HC
            have HFb : Hid (∀ x ∈ FL, 0 ≤ x ∧ x < (j : Int)) := by
              rw [hFL]
              refine hide fun x hx => ?_
              obtain ⟨t, -, rfl⟩ := List.mem_map.1 hx
              exact Sp.nth_bd (unhide HBL) (by rw [← unhide HBL]; exact (unhide HPm).bd) (by omega) (by omega) t
            have hFlen : FL.length ≤ 240 := by rw [hFL, Sp.rounds_len]; omega
            obtain ⟨x0, x1, x2, x3, -⟩ := unhide HBX _ (unhide HI).1.bel
            clear hFL m1 m2 m3 m4
            go_wp2_with fail
            go_at_call 34
            refine (unhide HC).mono ?_
            clear HC x0 x1 x2 x3 c1
            rintro e w6 ⟨lv, rfl, hown6, hb6⟩
            have HK6 : Hid (PKeep (w.heap.size + 1) (w.heap.size + 1) j W1 w6 of ∧ OwnI w6 (w.heap.size + 1 + 1) lv FL) := hide ⟨(unhide HI).1.below hb6, own_base hown6 (by have := (unhide HI).1.lt; omega)⟩
            obtain ⟨la, lc, rfl, -, -⟩ := hown6.ints.form
            obtain ⟨fl, hfl⟩ : ∃ fl, FL.length = fl := ⟨_, rfl⟩
            rw [hfl] at hFlen HK6 ⊢
            have Hfl := hide hfl
            clear hown6 hb6 hfl
            go_wp2
            go_loopg [9] fl (fun g i wr => ∃ (t : Nat) (of2 : List Int), t + g = fl ∧ i = .int .i64 (t : Int) ∧ Hid (PKeep (w.heap.size + 1) (w.heap.size + 1) j W1 wr of2 ∧ OwnI wr (w.heap.size + 1 + 1) (.slice la fl lc) FL ∧ Sp.paint k of FL = Sp.paint k of2 (FL.drop t)))
            case atStart => exact ⟨0, of, by omega, rfl, hide ⟨(unhide HK6).1, (unhide HK6).2, rfl⟩⟩
            case round =>
              clear HK6
              obtain ⟨t, of2, htg, rfl, HJ⟩ := hrel
              cases gk with
              | zero =>
                obtain rfl : t = fl := by omega
                have HN : Hid (R = Sp.faces2Go (Sp.behindL q.next) g' (d + 1) of2 (k + 1)) := hide (by
                  rw [unhide HR, (unhide HJ).2.2, List.drop_eq_nil_of_le (by rw [unhide Hfl]; exact Nat.le_refl _)]
                  rfl)
                go_wp2
                go_roundg g'
                case rel => exact ⟨d + 1, k + 1, of2, by omega, by omega, by go_num, by go_num, hide ⟨(unhide HJ).1, unhide HN⟩⟩
                case measure => omega
              | succ g2 =>
                have htl : t < fl := by omega
                have htI : (t : Int) < (fl : Int) := by omega
                have htL : t < FL.length := by rw [unhide Hfl]; exact htl
                obtain ⟨lb, lo, lc2, hla, hlc2, -⟩ := (unhide HJ).2.1.ints.cellAt (Below.refl _ _) t htL
                injection hla with hla1 hla2 hla3
                subst hla1 hla3
                have hfb := unhide HFb FL[t] (List.getElem_mem htL)
                have HN : Hid (Sp.paint k of FL = Sp.paint k (of2.set FL[t].toNat k) (FL.drop (t + 1))) := by
                  have h := (unhide HJ).2.2
                  rw [List.drop_eq_getElem_cons htL] at h
                  exact hide h
                generalize FL[t] = ft at *
                obtain ⟨x, rfl⟩ : ∃ x : Nat, ft = (x : Int) := ⟨ft.toNat, by omega⟩
                rw [Int.toNat_natCast] at HN
                have hxn : x < j := by omega
                have hxI : (x : Int) < (j : Int) := by omega
                have c2 := own_cell (unhide HJ).1.own x (by rw [(unhide HJ).1.len]; exact hxn)
                have f2 := own_frozen (unhide HJ).1.own x
                generalize of2[x]'_ = oz at *
                clear hfb hla2
                go_wp2
                go_roundg g2
                case rel => exact ⟨t + 1, of2.set x k, by omega, by go_num, hide ⟨(unhide HJ).1.set x k, own_store (unhide HJ).2.1 (by omega) x _, unhide HN⟩⟩
                case measure => omega
end Go.Proofs.Ytoegjnolccabjaa


/- The second law's plane nets as a function of the numbers; what each of them keeps. -/
namespace Go.Proofs.Ytoegjnolccabjaa
open Go Go.RowKit

def Sp.sameL (f nx : List Int) (e a : Nat) : List Nat := (List.range a).filter fun x => f.getD (nx.getD x 0).toNat 0 == f.getD (nx.getD e 0).toNat 0
/-- A new edge whose first dart is laid behind e: to a new vertex, or across a face to where g begins. -/
def Sp.growN (q : Sp.Net) (e : Nat) (c d : Int) : Sp.Net := ⟨q.n + 1, q.tail ++ [q.tail.getD e 0, q.n], Sp.layIn (q.next ++ [(q.tail.length : Int), ((q.tail.length + 1 : Nat) : Int)]) e q.tail.length, q.cap ++ [c, d]⟩
def Sp.growF (q : Sp.Net) (e g : Nat) (c d : Int) : Sp.Net := ⟨q.n, q.tail ++ [q.tail.getD e 0, q.tail.getD g 0], Sp.layIn (Sp.layIn (q.next ++ [(q.tail.length : Int), ((q.tail.length + 1 : Nat) : Int)]) e q.tail.length) (if g = e then q.tail.length else g) (q.tail.length + 1), q.cap ++ [c, d]⟩
def Sp.planeE (q : Sp.Net) (k : Int) : Nat := (k / 5 % (q.tail.length : Int)).toNat
def Sp.planeS (q : Sp.Net) (k : Int) : List Nat := Sp.sameL (Sp.faces2 q).1 q.next (Sp.planeE q k) q.tail.length
def Sp.planeG (q : Sp.Net) (k : Int) : Nat := (Sp.planeS q k).getD (k / 1200 % ((Sp.planeS q k).length : Int)).toNat 0
def Sp.planeK (q : Sp.Net) (k : Int) : Sp.Net :=
  if q.tail.length = 0 then (if k % 5 = 0 then ⟨1, [0, 0], [1, 0], [Sp.capOf (k / 30), Sp.capOf (k / 7000)]⟩ else ⟨2, [0, 1], [0, 1], [Sp.capOf (k / 30), Sp.capOf (k / 7000)]⟩)
  else if k % 5 < 2 then Sp.growN q (Sp.planeE q k) (Sp.capOf (k / 30)) (Sp.capOf (k / 7000))
  else Sp.growF q (Sp.planeE q k) (Sp.planeG q k) (Sp.capOf (k / 30)) (Sp.capOf (k / 7000))
def Sp.planeN (ns : List Int) : Nat → Sp.Net
  | 0 => ⟨1, [], [], []⟩
  | i + 1 => Sp.planeK (Sp.planeN ns i) (ns.getD i 0 % 1125899906842624)
def Sp.plane (ns : List Int) : Sp.Net := Sp.planeN ns (min ns.length 24)
/-- Each dart's next one begins where it does. -/
def Sp.TurnsOK (T l : List Int) : Prop := ∀ i, i < l.length → T.getD (l.getD i 0).toNat 0 = T.getD i 0
structure Sp.PlaneQ (q : Sp.Net) (i : Nat) : Prop where
  ev : q.tail.length % 2 = 0
  le : q.tail.length ≤ 2 * i
  n0 : 1 ≤ q.n
  n1 : q.n ≤ (i : Int) + 1
  nx : q.next.length = q.tail.length
  cp : q.cap.length = q.tail.length
  pm : Sp.Perm q.next
  tb : ∀ x ∈ q.tail, 0 ≤ x ∧ x < q.n
  cb : ∀ x ∈ q.cap, 0 ≤ x ∧ x ≤ 2147483648
  tn : Sp.TurnsOK q.tail q.next
theorem getD_app0 (l : List Int) (x y : Int) (i : Nat) (h : i < l.length) : (l ++ [x, y]).getD i 0 = l.getD i 0 := by
  rw [List.getD_eq_getElem?_getD, List.getElem?_append_left h, ← List.getD_eq_getElem?_getD]
theorem getD_app1 (l : List Int) (x y : Int) : (l ++ [x, y]).getD l.length 0 = x := by simp [List.getD_eq_getElem?_getD]
theorem getD_app2 (l : List Int) (x y : Int) : (l ++ [x, y]).getD (l.length + 1) 0 = y := by simp [List.getD_eq_getElem?_getD]
theorem Sp.layIn_len (l : List Int) (bh d : Nat) : (Sp.layIn l bh d).length = l.length := by simp [Sp.layIn]
theorem Sp.layIn_get (l : List Int) (bh d i : Nat) (hb : bh < l.length) (hd : d < l.length) : (Sp.layIn l bh d).getD i 0 = if i = bh then (d : Int) else if i = d then l.getD bh 0 else l.getD i 0 := by
  unfold Sp.layIn
  rw [getD_set_eq _ _ _ _ (by rw [List.length_set]; exact hb), getD_set_eq _ _ _ _ hd]
theorem Sp.TurnsOK.lay {T l : List Int} (h : Sp.TurnsOK T l) (bh d : Nat) (hb : bh < l.length) (hd : d < l.length) (he : T.getD bh 0 = T.getD d 0) : Sp.TurnsOK T (Sp.layIn l bh d) := by
  intro i hi
  rw [Sp.layIn_len] at hi
  rw [Sp.layIn_get l bh d i hb hd]
  by_cases h1 : i = bh
  · rw [if_pos h1, Int.toNat_natCast, h1]; exact he.symm
  · rw [if_neg h1]
    by_cases h2 : i = d
    · rw [if_pos h2, h2, h bh hb]; exact he
    · rw [if_neg h2]; exact h i hi
theorem Sp.TurnsOK.add {T l : List Int} (h : Sp.TurnsOK T l) (hl : l.length = T.length) (hb : ∀ x ∈ l, 0 ≤ x ∧ x < (l.length : Int)) (x y : Int) : Sp.TurnsOK (T ++ [x, y]) (l ++ [(T.length : Int), ((T.length + 1 : Nat) : Int)]) := by
  intro i hi
  rw [List.length_append] at hi
  rcases Nat.lt_or_ge i l.length with h1 | h1
  · have hx := hb _ (Sp.getD_mem h1)
    rw [getD_app0 l _ _ i h1, getD_app0 T _ _ i (by omega), getD_app0 T _ _ _ (by omega)]
    exact h i h1
  · have : i = l.length ∨ i = l.length + 1 := by simp at hi; omega
    rcases this with rfl | rfl
    · rw [getD_app1, Int.toNat_natCast, hl]
    · rw [getD_app2, Int.toNat_natCast, hl]
theorem Sp.sameL_lt {f nx : List Int} {e a x : Nat} (h : x ∈ Sp.sameL f nx e a) : x < a := List.mem_range.1 (List.mem_filter.1 h).1
theorem Sp.sameL_self {f nx : List Int} {e a : Nat} (h : e < a) : e ∈ Sp.sameL f nx e a := List.mem_filter.2 ⟨List.mem_range.2 h, by simp⟩
theorem Sp.sameL_le (f nx : List Int) (e a : Nat) : (Sp.sameL f nx e a).length ≤ a := by
  have := List.length_filter_le (fun x => f.getD (nx.getD x 0).toNat 0 == f.getD (nx.getD e 0).toNat 0) (List.range a)
  rw [List.length_range] at this
  exact this
theorem Sp.sameL_succ (f nx : List Int) (e x : Nat) : Sp.sameL f nx e (x + 1) = Sp.sameL f nx e x ++ (if f.getD (nx.getD x 0).toNat 0 = f.getD (nx.getD e 0).toNat 0 then [x] else []) := by
  unfold Sp.sameL
  rw [List.range_succ, List.filter_append]
  congr 1
  by_cases h : f.getD (nx.getD x 0).toNat 0 = f.getD (nx.getD e 0).toNat 0
  · rw [if_pos h]
    have hb : (f.getD (nx.getD x 0).toNat 0 == f.getD (nx.getD e 0).toNat 0) = true := beq_iff_eq.2 h
    show (match (f.getD (nx.getD x 0).toNat 0 == f.getD (nx.getD e 0).toNat 0) with | true => [x] | false => []) = [x]
    rw [hb]
  · rw [if_neg h]
    have hb : (f.getD (nx.getD x 0).toNat 0 == f.getD (nx.getD e 0).toNat 0) = false := beq_eq_false_iff_ne.2 h
    show (match (f.getD (nx.getD x 0).toNat 0 == f.getD (nx.getD e 0).toNat 0) with | true => [x] | false => []) = []
    rw [hb]
theorem Sp.planeE_lt (q : Sp.Net) (k : Int) (h : 0 < q.tail.length) : Sp.planeE q k < q.tail.length := by
  have h0 : 0 ≤ k / 5 % (q.tail.length : Int) := Int.emod_nonneg _ (by omega)
  have h1 : k / 5 % (q.tail.length : Int) < q.tail.length := Int.emod_lt_of_pos _ (by omega)
  unfold Sp.planeE
  omega
theorem Sp.planeS_pos (q : Sp.Net) (k : Int) (h : 0 < q.tail.length) : 0 < (Sp.planeS q k).length := List.length_pos_of_mem (Sp.sameL_self (Sp.planeE_lt q k h))
theorem Sp.planeG_mem (q : Sp.Net) (k : Int) (h : 0 < q.tail.length) : Sp.planeG q k ∈ Sp.planeS q k := by
  have hp := Sp.planeS_pos q k h
  have h0 : 0 ≤ k / 1200 % ((Sp.planeS q k).length : Int) := Int.emod_nonneg _ (by omega)
  have h1 : k / 1200 % ((Sp.planeS q k).length : Int) < (Sp.planeS q k).length := Int.emod_lt_of_pos _ (by omega)
  have hl : (k / 1200 % ((Sp.planeS q k).length : Int)).toNat < (Sp.planeS q k).length := by omega
  unfold Sp.planeG
  rw [List.getD_eq_getElem?_getD, List.getElem?_eq_getElem hl]
  exact List.getElem_mem hl
theorem Sp.planeG_lt (q : Sp.Net) (k : Int) (h : 0 < q.tail.length) : Sp.planeG q k < q.tail.length := Sp.sameL_lt (Sp.planeG_mem q k h)
theorem Sp.PlaneQ.growN {q : Sp.Net} {i : Nat} (h : Sp.PlaneQ q i) (e : Nat) (he : e < q.tail.length) (c d : Int) (hc : 0 ≤ c ∧ c ≤ 2147483648) (hd : 0 ≤ d ∧ d ≤ 2147483648) : Sp.PlaneQ (Sp.growN q e c d) (i + 1) := by
  have hte := h.tb _ (Sp.getD_mem he)
  have hl1 : (q.next ++ [(q.tail.length : Int), ((q.tail.length + 1 : Nat) : Int)]).length = q.tail.length + 2 := by simp [h.nx]
  have hp1 : Sp.Perm (q.next ++ [(q.tail.length : Int), ((q.tail.length + 1 : Nat) : Int)]) := by have := h.pm.add; rw [h.nx] at this; exact this
  have hf1 : (q.next ++ [(q.tail.length : Int), ((q.tail.length + 1 : Nat) : Int)]).getD q.tail.length 0 = (q.tail.length : Int) := by have := getD_app1 q.next (q.tail.length : Int) ((q.tail.length + 1 : Nat) : Int); rw [h.nx] at this; exact this
  refine ⟨?_, ?_, ?_, ?_, ?_, ?_, ?_, ?_, ?_, ?_⟩
  · simp [Sp.growN, h.ev]
  · have := h.le; simp [Sp.growN]; omega
  · have := h.n0; simp [Sp.growN]; omega
  · have := h.n1; simp [Sp.growN]; omega
  · simp [Sp.growN, Sp.layIn_len, h.nx]
  · simp [Sp.growN, h.cp]
  · exact hp1.lay e q.tail.length (by omega) (by omega) hf1
  · intro x hx
    show 0 ≤ x ∧ x < q.n + 1
    rcases List.mem_append.1 hx with hx | hx
    · have := h.tb x hx; omega
    · simp only [List.mem_cons, List.not_mem_nil, or_false] at hx
      have := h.n0
      rcases hx with rfl | rfl <;> omega
  · intro x hx
    rcases List.mem_append.1 hx with hx | hx
    · exact h.cb x hx
    · simp only [List.mem_cons, List.not_mem_nil, or_false] at hx
      rcases hx with rfl | rfl
      · exact hc
      · exact hd
  · refine (h.tn.add h.nx h.pm.bd _ _).lay e q.tail.length (by omega) (by omega) ?_
    rw [getD_app0 _ _ _ _ he, getD_app1]
theorem Sp.PlaneQ.growF {q : Sp.Net} {i : Nat} (h : Sp.PlaneQ q i) (e g : Nat) (he : e < q.tail.length) (hg : g < q.tail.length) (c d : Int) (hc : 0 ≤ c ∧ c ≤ 2147483648) (hd : 0 ≤ d ∧ d ≤ 2147483648) : Sp.PlaneQ (Sp.growF q e g c d) (i + 1) := by
  have hte := h.tb _ (Sp.getD_mem he)
  have htg := h.tb _ (Sp.getD_mem hg)
  have hl1 : (q.next ++ [(q.tail.length : Int), ((q.tail.length + 1 : Nat) : Int)]).length = q.tail.length + 2 := by simp [h.nx]
  have hp1 : Sp.Perm (q.next ++ [(q.tail.length : Int), ((q.tail.length + 1 : Nat) : Int)]) := by have := h.pm.add; rw [h.nx] at this; exact this
  have hf1 : (q.next ++ [(q.tail.length : Int), ((q.tail.length + 1 : Nat) : Int)]).getD q.tail.length 0 = (q.tail.length : Int) := by have := getD_app1 q.next (q.tail.length : Int) ((q.tail.length + 1 : Nat) : Int); rw [h.nx] at this; exact this
  have hf2 : (q.next ++ [(q.tail.length : Int), ((q.tail.length + 1 : Nat) : Int)]).getD (q.tail.length + 1) 0 = ((q.tail.length + 1 : Nat) : Int) := by have := getD_app2 q.next (q.tail.length : Int) ((q.tail.length + 1 : Nat) : Int); rw [h.nx] at this; exact this
  have hp2 := hp1.lay e q.tail.length (by omega) (by omega) hf1
  have hg2 : (if g = e then q.tail.length else g) < q.tail.length + 2 := by split <;> omega
  refine ⟨?_, ?_, ?_, ?_, ?_, ?_, ?_, ?_, ?_, ?_⟩
  · simp [Sp.growF, h.ev]
  · have := h.le; simp [Sp.growF]; omega
  · exact h.n0
  · have := h.n1; show q.n ≤ ((i + 1 : Nat) : Int) + 1; omega
  · simp [Sp.growF, Sp.layIn_len, h.nx]
  · simp [Sp.growF, h.cp]
  · refine hp2.lay _ (q.tail.length + 1) (by rw [Sp.layIn_len, hl1]; exact hg2) (by rw [Sp.layIn_len, hl1]; omega) ?_
    rw [Sp.layIn_get _ _ _ _ (by omega) (by omega), if_neg (by omega), if_neg (by omega)]
    exact hf2
  · intro x hx
    show 0 ≤ x ∧ x < q.n
    rcases List.mem_append.1 hx with hx | hx
    · exact h.tb x hx
    · simp only [List.mem_cons, List.not_mem_nil, or_false] at hx
      rcases hx with rfl | rfl
      · exact hte
      · exact htg
  · intro x hx
    rcases List.mem_append.1 hx with hx | hx
    · exact h.cb x hx
    · simp only [List.mem_cons, List.not_mem_nil, or_false] at hx
      rcases hx with rfl | rfl
      · exact hc
      · exact hd
  · refine ((h.tn.add h.nx h.pm.bd _ _).lay e q.tail.length (by omega) (by omega) ?_).lay _ (q.tail.length + 1) (by rw [Sp.layIn_len, hl1]; exact hg2) (by rw [Sp.layIn_len, hl1]; omega) ?_
    · rw [getD_app0 _ _ _ _ he, getD_app1]
    · rw [getD_app2]
      by_cases hge : g = e
      · rw [if_pos hge, getD_app1, hge]
      · rw [if_neg hge, getD_app0 _ _ _ _ hg]
theorem Sp.PlaneQ.first (i : Nat) : Sp.PlaneQ ⟨1, [], [], []⟩ i := by
  refine ⟨rfl, Nat.zero_le _, Int.le_refl _, by show (1 : Int) ≤ (i : Int) + 1; omega, rfl, rfl, ⟨fun x hx => (List.not_mem_nil hx).elim, fun i j hi => (Nat.not_lt_zero _ hi).elim⟩, fun x hx => (List.not_mem_nil hx).elim, fun x hx => (List.not_mem_nil hx).elim, fun i hi => (Nat.not_lt_zero _ hi).elim⟩
theorem Sp.PlaneQ.step {q : Sp.Net} {i : Nat} (h : Sp.PlaneQ q i) (k : Int) : Sp.PlaneQ (Sp.planeK q k) (i + 1) := by
  unfold Sp.planeK
  have hc := Sp.capOf_bd (k / 30)
  have hd := Sp.capOf_bd (k / 7000)
  generalize Sp.capOf (k / 30) = c at *
  generalize Sp.capOf (k / 7000) = d at *
  have hcb : ∀ x ∈ [c, d], 0 ≤ x ∧ x ≤ 2147483648 := by
    intro x hx
    simp only [List.mem_cons, List.not_mem_nil, or_false] at hx
    rcases hx with rfl | rfl
    · exact hc
    · exact hd
  split
  · split
    · refine ⟨by show 2 % 2 = 0; decide, ?_, Int.le_refl _, by show (1 : Int) ≤ ((i + 1 : Nat) : Int) + 1; omega, rfl, rfl, ⟨?_, ?_⟩, ?_, hcb, ?_⟩
      · show 2 ≤ 2 * (i + 1); omega
      · intro x hx; simp only [List.mem_cons, List.not_mem_nil, or_false] at hx; rcases hx with rfl | rfl <;> simp
      · intro i j hi hj e
        have hi' : i < 2 := hi
        have hj' : j < 2 := hj
        have : (i = 0 ∨ i = 1) ∧ (j = 0 ∨ j = 1) := by omega
        rcases this with ⟨rfl | rfl, rfl | rfl⟩ <;> simp at e <;> rfl
      · intro x hx; simp only [List.mem_cons, List.not_mem_nil, or_false] at hx; rcases hx with rfl | rfl <;> simp
      · intro i hi
        have hi' : i < 2 := hi
        have : i = 0 ∨ i = 1 := by omega
        rcases this with rfl | rfl <;> rfl
    · refine ⟨by show 2 % 2 = 0; decide, ?_, by show (1 : Int) ≤ 2; omega, by show (2 : Int) ≤ ((i + 1 : Nat) : Int) + 1; omega, rfl, rfl, ⟨?_, ?_⟩, ?_, hcb, ?_⟩
      · show 2 ≤ 2 * (i + 1); omega
      · intro x hx; simp only [List.mem_cons, List.not_mem_nil, or_false] at hx; rcases hx with rfl | rfl <;> simp
      · intro i j hi hj e
        have hi' : i < 2 := hi
        have hj' : j < 2 := hj
        have : (i = 0 ∨ i = 1) ∧ (j = 0 ∨ j = 1) := by omega
        rcases this with ⟨rfl | rfl, rfl | rfl⟩ <;> simp at e <;> rfl
      · intro x hx; simp only [List.mem_cons, List.not_mem_nil, or_false] at hx; rcases hx with rfl | rfl <;> simp
      · intro i hi
        have hi' : i < 2 := hi
        have : i = 0 ∨ i = 1 := by omega
        rcases this with rfl | rfl <;> rfl
  · rename_i hne
    split
    · exact h.growN _ (Sp.planeE_lt q k (by omega)) _ _ hc hd
    · exact h.growF _ _ (Sp.planeE_lt q k (by omega)) (Sp.planeG_lt q k (by omega)) _ _ hc hd
theorem Sp.planeN_ok (ns : List Int) : ∀ i, Sp.PlaneQ (Sp.planeN ns i) i
  | 0 => Sp.PlaneQ.first 0
  | i + 1 => (Sp.planeN_ok ns i).step _
theorem Sp.faces2Go_len (st : List Int) : ∀ f d of k, (Sp.faces2Go st f d of k).1.length = of.length
  | 0, _, _, _ => rfl
  | f + 1, d, of, k => by
    rw [Sp.faces2Go]
    split
    · exact Sp.faces2Go_len st f _ _ _
    · rw [Sp.faces2Go_len st f, Sp.paint_len]
theorem Sp.faces2_len (q : Sp.Net) : (Sp.faces2 q).1.length = q.tail.length := by
  unfold Sp.faces2
  rw [Sp.faces2Go_len, List.length_replicate]
/-- A row that is not empty lies in a block of its own. -/
theorem own_form {w : World} {B : Nat} {v : Value} {l : List Int} (h : OwnI w B v l) (hl : 0 < l.length) : ∃ g c, v = .slice (some ⟨g, 0, none⟩) l.length c ∧ B ≤ g ∧ g < w.heap.size ∧ l.length ≤ c ∧ c ≤ maxLen := by
  have hlt := h.lt
  obtain ⟨a, c, hv, hc, hm⟩ := h.ints.form
  obtain ⟨hx, hv' | ⟨g, cap, cur, hv', hg, hh, r⟩⟩ := h
  · rw [hv] at hv'
    simp at hv'
    omega
  · rw [hv] at hv'
    injection hv' with h1 h2 h3
    subst h1 h3
    exact ⟨g, c, hv, hg, (hlt g (by rw [hv]; rfl)).2, hc, hm⟩
theorem MakeAt.setF0 {w wx : World} {n : Int} {tv nv cv : Value} (h : MakeAt w wx n tv nv cv) (y : Int) : MakeAt w (wx.setCell ⟨w.heap.size + 1, 0, none⟩ (.int .i64 y)) y tv nv cv :=
  ⟨by rw [heap_setCell_other _ _ _ _ (by simp)]; exact h.b0, by rw [heap_setCell_same wx (w.heap.size + 1) 0 _ _ _ h.b1]; rfl, h.bel.setCell (by simp) _⟩
theorem MakeAt.setF1 {w wx : World} {n : Int} {tv nv cv : Value} (h : MakeAt w wx n tv nv cv) (u : Value) : MakeAt w (wx.setCell ⟨w.heap.size + 1, 1, none⟩ u) n u nv cv :=
  ⟨by rw [heap_setCell_other _ _ _ _ (by simp)]; exact h.b0, by rw [heap_setCell_same wx (w.heap.size + 1) 1 _ _ _ h.b1]; rfl, h.bel.setCell (by simp) _⟩
theorem MakeAt.setF2 {w wx : World} {n : Int} {tv nv cv : Value} (h : MakeAt w wx n tv nv cv) (u : Value) : MakeAt w (wx.setCell ⟨w.heap.size + 1, 2, none⟩ u) n tv u cv :=
  ⟨by rw [heap_setCell_other _ _ _ _ (by simp)]; exact h.b0, by rw [heap_setCell_same wx (w.heap.size + 1) 2 _ _ _ h.b1]; rfl, h.bel.setCell (by simp) _⟩
theorem MakeAt.setF3 {w wx : World} {n : Int} {tv nv cv : Value} (h : MakeAt w wx n tv nv cv) (u : Value) : MakeAt w (wx.setCell ⟨w.heap.size + 1, 3, none⟩ u) n tv nv u :=
  ⟨by rw [heap_setCell_other _ _ _ _ (by simp)]; exact h.b0, by rw [heap_setCell_same wx (w.heap.size + 1) 3 _ _ _ h.b1]; rfl, h.bel.setCell (by simp) _⟩
theorem MakeAt.but {w wx wy : World} {n : Int} {tv nv cv : Value} (h : MakeAt w wx n tv nv cv) {g : Nat} (hb : ButRow g wx wy) (hg : w.heap.size + 2 ≤ g) : MakeAt w wy n tv nv cv :=
  ⟨(hb.block _ (by omega)).trans h.b0, (hb.block _ (by omega)).trans h.b1, ⟨hb.os.trans h.bel.os, hb.tape.trans h.bel.tape, hb.output.trans h.bel.output, by rw [hb.size]; exact h.bel.size, fun k hk => (hb.block k (by omega)).trans (h.bel.block k hk)⟩⟩
/-- A net of two darts, its rows laid down and stored whole. -/
theorem MakeAt.lits {w wx : World} {n : Int} {tv nv cv : Value} (h : MakeAt w wx n tv nv cv) (m a0 a1 b0 b1 c0 c1 : Int) (s s1 s2 : Nat) (hs : s = wx.heap.size) (hs1 : s1 = s + 1) (hs2 : s2 = s + 2) :
    ∀ X, X = ((((((wx.alloc (.cells #[.int .i64 a0, .int .i64 a1] 3)).alloc (.cells #[.int .i64 b0, .int .i64 b1] 3)).alloc (.cells #[.int .i64 c0, .int .i64 c1] 3)).setCell ⟨w.heap.size + 1, 0, none⟩ (.int .i64 m)).setCell ⟨w.heap.size + 1, 1, none⟩ (.slice (some ⟨s, 0, none⟩) 2 2)).setCell ⟨w.heap.size + 1, 2, none⟩ (.slice (some ⟨s1, 0, none⟩) 2 2)).setCell ⟨w.heap.size + 1, 3, none⟩ (.slice (some ⟨s2, 0, none⟩) 2 2) →
    NetV X (w.heap.size + 2) (.agg #[.int .i64 m, .slice (some ⟨s, 0, none⟩) 2 2, .slice (some ⟨s1, 0, none⟩) 2 2, .slice (some ⟨s2, 0, none⟩) 2 2]) ⟨m, [a0, a1], [b0, b1], [c0, c1]⟩ (.slice (some ⟨s, 0, none⟩) 2 2) (.slice (some ⟨s1, 0, none⟩) 2 2) (.slice (some ⟨s2, 0, none⟩) 2 2) ∧ MakeAt w X m (.slice (some ⟨s, 0, none⟩) 2 2) (.slice (some ⟨s1, 0, none⟩) 2 2) (.slice (some ⟨s2, 0, none⟩) 2 2) := by
  intro X hX
  subst hs hs1 hs2
  have hsz := h.size
  have o1 := own_lit wx (w.heap.size + 2) wx.heap.size 2 [a0, a1] rfl rfl (by omega) (by simp)
  have o2 := own_lit (wx.alloc (.cells #[.int .i64 a0, .int .i64 a1] 3)) (w.heap.size + 2) (wx.heap.size + 1) 2 [b0, b1] (by simp) rfl (by simp; omega) (by simp)
  have o3 := own_lit ((wx.alloc (.cells #[.int .i64 a0, .int .i64 a1] 3)).alloc (.cells #[.int .i64 b0, .int .i64 b1] 3)) (w.heap.size + 2) (wx.heap.size + 2) 2 [c0, c1] (by simp) rfl (by simp; omega) (by simp)
  have o2' := World.ownsRow.alloc o2 (.cells #[.int .i64 c0, .int .i64 c1] 3)
  have o1' := World.ownsRow.alloc (World.ownsRow.alloc o1 (.cells #[.int .i64 b0, .int .i64 b1] 3)) (.cells #[.int .i64 c0, .int .i64 c1] 3)
  have hbb : Below wx.heap.size wx (((wx.alloc (.cells #[.int .i64 a0, .int .i64 a1] 3)).alloc (.cells #[.int .i64 b0, .int .i64 b1] 3)).alloc (.cells #[.int .i64 c0, .int .i64 c1] 3)) := (((Below.refl _ _).alloc (Nat.le_refl _) _).alloc (by simp) _).alloc (by simp; omega) _
  have hM := (h.below hbb).set m (.slice (some ⟨wx.heap.size, 0, none⟩) 2 2) (.slice (some ⟨wx.heap.size + 1, 0, none⟩) 2 2) (.slice (some ⟨wx.heap.size + 2, 0, none⟩) 2 2)
  subst hX
  refine ⟨⟨rfl, four_own o1' (by omega) _ _ _ _, four_own o2' (by omega) _ _ _ _, four_own o3 (by omega) _ _ _ _, .inr ?_, .inr ?_, .inr ?_⟩, hM⟩
  all_goals
    simp only [Value.ownBlock, ne_eq, Option.some.injEq]
    omega
end Go.Proofs.Ytoegjnolccabjaa


/- Package dual: a mesh's own questions. -/
namespace Go.Proofs.Ytoegjnolccabjaa
open Go Go.RowKit

/-- A mesh. -/
structure MeshI (w : World) (v : Value) (q : Sp.Net) (F : List Int) (K : Nat) (tv nv cv fv : Value) : Prop where
  val : v = .agg #[.int .i64 q.n, tv, nv, cv, fv, .int .i64 (K : Int)]
  tail : Ints w tv q.tail
  next : Ints w nv q.next
  cap : Ints w cv q.cap
  of : Ints w fv F
theorem MeshI.below {w w' : World} {v : Value} {q : Sp.Net} {F : List Int} {K : Nat} {tv nv cv fv : Value} (h : MeshI w v q F K tv nv cv fv) (hb : Below w.heap.size w w') : MeshI w' v q F K tv nv cv fv :=
  ⟨h.val, h.tail.below hb, h.next.below hb, h.cap.below hb, h.of.below hb⟩
/-- A mesh in a block of its own. -/
theorem mesh_new (w : World) (n : Int) (a b c f : Value) (k : Int) (w' : World) (hb : Below (w.heap.size + 1) (w.alloc (.cells #[.int .i64 n, a, b, c, f, .int .i64 k] 74)) w') :
    w'.cell? ⟨w.heap.size, 0, none⟩ = some (.int .i64 n) ∧ w'.cell? ⟨w.heap.size, 1, none⟩ = some a ∧ w'.cell? ⟨w.heap.size, 2, none⟩ = some b ∧ w'.cell? ⟨w.heap.size, 3, none⟩ = some c ∧ w'.cell? ⟨w.heap.size, 4, none⟩ = some f ∧ w'.cell? ⟨w.heap.size, 5, none⟩ = some (.int .i64 k) ∧ w.heap.size + 1 ≤ w'.heap.size := by
  have hs := hb.size
  simp at hs
  refine ⟨(hb.cell (by show w.heap.size < _; omega)).trans ?_, (hb.cell (by show w.heap.size < _; omega)).trans ?_, (hb.cell (by show w.heap.size < _; omega)).trans ?_, (hb.cell (by show w.heap.size < _; omega)).trans ?_, (hb.cell (by show w.heap.size < _; omega)).trans ?_, (hb.cell (by show w.heap.size < _; omega)).trans ?_, hs⟩ <;>
    rw [cell_of_row _ _ _ _ _ _ (heap_alloc_new w _)] <;> rfl
set_option maxRecDepth 100000 in
set_option maxHeartbeats 1000000 in
theorem mbehind_any (q : Sp.Net) (F : List Int) (K : Nat) (v tv nv cv fv : Value) (d : Nat) (w : World) (hv : MeshI w v q F K tv nv cv fv) (hd : d < q.next.length) (hev : q.next.length % 2 = 0) (h240 : q.next.length ≤ 240) :
    Calls Try.prog 55 #[v, .int .i64 (d : Int)] w fun e w' => e = .returned (.int .i64 ((Sp.behindL q.next).getD d 0)) ∧ Below w.heap.size w w' := by
  have h4 := hv.next
  have hval := hv.val
  obtain ⟨ta, tc, rfl, -, -⟩ := hv.tail.form
  obtain ⟨na, nc, rfl, -, -⟩ := hv.next.form
  obtain ⟨ca, cc, rfl, -, -⟩ := hv.cap.form
  obtain ⟨fa, fc, rfl, -, -⟩ := hv.of.form
  subst hval
  have ho := oth_lt hd hev
  have hX := xor_oth ⟨d, by omega⟩
  obtain ⟨a, c, ha, -, -, HT⟩ := h4.all
  injection ha with ha1 ha2 ha3
  subst ha1 ha3
  obtain ⟨b, o, rfl, -, hcx⟩ := unhide HT _ ho
  have HF : Hid ((Sp.behindL q.next).getD d 0 = q.next[(Sp.oth d)]) := hide (by rw [Sp.behindL_get _ _ hd, Sp.getD_eq _ _ ho])
  have hb : ∀ ob, Below w.heap.size w (w.alloc ob) := fun ob => (Below.refl _ w).alloc (Nat.le_refl _) ob
  have HB := hide hb
  generalize q.next[(Sp.oth d)] = z at *
  have g := fun ob => hcx _ (hb ob)
  generalize (Sp.behindL q.next).getD d 0 = R at *
  simp only at hX
  generalize Sp.oth d = od at *
  have ho' : (od : Int) < q.next.length := by omega
  clear hcx hb HT hv h4
  go_enter Try.func55, Try.ntmps55
  go_wp2
  go_ret
  exact ⟨by rw [unhide HF]; rfl, unhide HB _⟩
end Go.Proofs.Ytoegjnolccabjaa


/- The walks of slices.Index and of package rot: roundOf. -/
namespace Go.Proofs.Ytoegjnolccabjaa
open Go Go.RowKit

set_option maxRecDepth 100000 in
set_option maxHeartbeats 1000000 in
theorem index_any (l : List Int) (g o m c : Nat) (d : Int) (w : World) (hl : l.length = m) (hm : m ≤ 240) (hc : ∀ j, (hj : j < l.length) → w.cell? ⟨g, o + j, none⟩ = some (.int .i64 l[j])) :
    Calls Try.prog 57 #[.slice (some ⟨g, o, none⟩) m c, .int .i64 d] w fun e w' => ((∃ i : Nat, ∃ hi : i < l.length, e = .returned (.int .i64 (i : Int)) ∧ l[i] = d ∧ ∀ j, (hj : j < l.length) → j < i → l[j] ≠ d) ∨ (e = .returned (.int .i64 (-1)) ∧ ¬ d ∈ l)) ∧ w' = w := by
  have HC := hide hc
  have Hl := hide hl
  clear hc hl
  obtain ⟨P, hP⟩ : ∃ P : Ending → World → Prop, P = fun e w' => ((∃ i : Nat, ∃ hi : i < l.length, e = .returned (.int .i64 (i : Int)) ∧ l[i] = d ∧ ∀ j, (hj : j < l.length) → j < i → l[j] ≠ d) ∨ (e = .returned (.int .i64 (-1)) ∧ ¬ d ∈ l)) ∧ w' = w := ⟨_, rfl⟩
  rw [← hP]
  have HP := hide hP
  clear hP
  go_enter Try.func57, Try.ntmps57
  go_wp2
  go_loop [8] (fun i => ∃ k : Nat, k ≤ m ∧ i = .int .i64 (k : Int) ∧ Hid (∀ j, (hj : j < l.length) → j < k → l[j] ≠ d)) (fun i => m - (intOf i).toNat)
  case atStart => exact ⟨0, by omega, rfl, hide (fun j _ h => by omega)⟩
  case round =>
    obtain ⟨k, hk, rfl, HA⟩ := hrel
    by_cases hlt : k < m
    · have hltI : (k : Int) < (m : Int) := by omega
      have hkl : k < l.length := by rw [unhide Hl]; exact hlt
      have c1 := unhide HC k hkl
      by_cases hd : l[k] = d
      · have HD := hide hd
        rw [hd] at c1
        have hkk : (d == d) = true := beq_self_eq_true _
        clear hd
        go_wp2
        rw [unhide HP]
        exact ⟨.inl ⟨k, hkl, rfl, unhide HD, unhide HA⟩, rfl⟩
      · have HN : Hid (∀ j, (hj : j < l.length) → j < k + 1 → l[j] ≠ d) := hide fun j hj h => by
          rcases Nat.lt_or_ge j k with h' | h'
          · exact unhide HA j hj h'
          · obtain rfl : j = k := by omega
            exact hd
        have hkk : (d == l[k]) = false := beq_eq_false_iff_ne.2 (fun h => hd h.symm)
        generalize l[k] = z at *
        clear hd
        go_wp2
        go_round
        case rel => exact ⟨k + 1, by omega, by go_num, HN⟩
        case measure => simp [intOf]; omega
    · have HN : Hid (¬ d ∈ l) := hide fun hm => by
        obtain ⟨j, hj, rfl⟩ := List.mem_iff_getElem.1 hm
        exact unhide HA j hj (by have := unhide Hl; omega) rfl
      go_wp2
      rw [unhide HP]
      exact ⟨.inr ⟨rfl, unhide HN⟩, rfl⟩
/-- A slice of the call's own, wherever it lies. -/
def Mine (w : World) (B : Nat) (v : Value) (l : List Int) : Prop :=
  (v = .slice none 0 0 ∧ l = []) ∨ ∃ g o c, v = .slice (some ⟨g, o, none⟩) l.length c ∧ B ≤ g ∧ g < w.heap.size ∧ l.length ≤ c ∧ c ≤ maxLen ∧ ∀ j, (hj : j < l.length) → w.cell? ⟨g, o + j, none⟩ = some (.int .i64 l[j]) ∧ w.frozen? ⟨g, o + j, none⟩ = false
theorem Mine.ints {w : World} {B : Nat} {v : Value} {l : List Int} (h : Mine w B v l) : Ints w v l := by
  rcases h with ⟨rfl, rfl⟩ | ⟨g, o, c, rfl, hB, hg, hc, hm, hcell⟩
  · exact ⟨none, 0, rfl, by simp, by unfold maxLen; omega, fun k hk => by simp at hk⟩
  · exact ⟨_, c, rfl, hc, hm, fun k hk => ⟨g, o, rfl, hg, (hcell k hk).1⟩⟩
theorem Mine.base {w : World} {B B' : Nat} {v : Value} {l : List Int} (h : Mine w B v l) (hb : B' ≤ B) : Mine w B' v l := by
  rcases h with h | ⟨g, o, c, hv, hB, r⟩
  · exact .inl h
  · exact .inr ⟨g, o, c, hv, by omega, r⟩
theorem Mine.below {w w' : World} {B : Nat} {v : Value} {l : List Int} (h : Mine w B v l) (hb : Below w.heap.size w w') : Mine w' B v l := by
  rcases h with h | ⟨g, o, c, hv, hB, hg, hc, hm, hcell⟩
  · exact .inl h
  · exact .inr ⟨g, o, c, hv, hB, Nat.lt_of_lt_of_le hg hb.size, hc, hm, fun j hj => ⟨(hb.cell (by exact hg)).trans (hcell j hj).1, (World.frozen?_of_block (hb.block g hg)).trans (hcell j hj).2⟩⟩
theorem run_app_grow (w : World) (g o k n c : Nat) (g2 o2 : Nat) (l1 l2 : List Int) (h1 : l1.length = k) (h2 : l2.length = n) (hn : 0 < n) (hbig : k + n ≤ 1000)
    (hc1 : ∀ j, (hj : j < l1.length) → w.cell? ⟨g, o + j, none⟩ = some (.int .i64 l1[j])) (hc2 : ∀ j, (hj : j < l2.length) → w.cell? ⟨g2, o2 + j, none⟩ = some (.int .i64 l2[j])) :
    ∃ c' w', (Builtin.append_ #[22, 22] 22 #[.slice (some ⟨g, o, none⟩) k k, .slice (some ⟨g2, o2, none⟩) n c]).run Try.prog w = .ok (.slice (some ⟨w.heap.size, 0, none⟩) (k + n) c') w' ∧ OwnI w' w.heap.size (.slice (some ⟨w.heap.size, 0, none⟩) (k + n) c') (l1 ++ l2) ∧ Below w.heap.size w w' := by
  obtain ⟨i0, hi, hz0, hz1, hz2⟩ := info_parts info3
  subst h1 h2
  have cellsOf : ∀ (g o : Nat) (l : List Int), (∀ j, (hj : j < l.length) → w.cell? ⟨g, o + j, none⟩ = some (.int .i64 l[j])) → ∀ j v, (l.map (Value.int .i64))[j]? = some v → w.cell? ((⟨g, o, none⟩ : Addr).add j) = some v := by
    intro g o l hc j v hj
    obtain ⟨hj1, hj2⟩ := List.getElem?_eq_some_iff.1 hj
    rw [List.length_map] at hj1
    rw [← hj2, List.getElem_map, Addr.add_lit]
    exact hc j hj1
  have hrun := run_append_grow (P := Try.prog) (w := w) 22 22 3 i0 (.int .i64 0) Try.underlying22 hi hz0 ⟨g, o, none⟩ l1.length l1.length (l1.map (Value.int .i64)) (by simp [hz1]) (cellsOf g o l1 hc1) ⟨g2, o2, none⟩ l2.length c (l2.map (Value.int .i64)) (by simp [hz1]) (cellsOf g2 o2 l2 hc2) (by omega) (by omega) (growslice_fits (by omega) (by rw [hz2]; omega))
  have hge := grownCap_ge w (l1.length + l2.length) l1.length 3
  have hcm := grownCap_le_maxLen w (l1.length + l2.length) l1.length 3 (by unfold maxLen; omega)
  refine ⟨_, _, hrun, ⟨by simp, .inr ⟨w.heap.size, _, _, by simp, Nat.le_refl _, heap_alloc_new w.drew _, by simpa using hge, hcm, ?_, ?_⟩⟩, (Below.refl _ w).drew.alloc (Nat.le_refl _) _⟩
  · simp [size_zeroCells, Value.cells]
    omega
  · simp only [Array.toList_append, List.map_append]
    rw [List.take_left' (by simp)]
/-- A round from d on. -/
def Sp.rot2 (l : List Int) (i : Nat) : List Int := l.drop i ++ l.take i
def Sp.ofGo (row : List Int) (d : Int) : List (Nat × Nat) → List Int
  | [] => []
  | p :: r => if d ∈ Sp.piece row p then Sp.rot2 (Sp.piece row p) ((Sp.piece row p).idxOf d) else Sp.ofGo row d r
theorem idxOf_of : ∀ (l : List Int) (d : Int) (i : Nat) (hi : i < l.length), l[i] = d → (∀ j, (hj : j < l.length) → j < i → l[j] ≠ d) → l.idxOf d = i
  | [], _, _, hi, _, _ => by simp at hi
  | x :: r, d, 0, _, h, _ => by
    simp only [List.getElem_cons_zero] at h
    have h2 : (x == d) = true := by rw [h]; exact beq_self_eq_true _
    rw [List.idxOf_cons, h2]
    rfl
  | x :: r, d, i + 1, hi, h, hn => by
    have h0 := hn 0 (by simp) (by omega)
    simp only [List.getElem_cons_zero] at h0
    simp only [List.getElem_cons_succ] at h
    have h1 := idxOf_of r d i (by simpa using hi) h (fun j hj hji => by
      have := hn (j + 1) (by simpa using hj) (by omega)
      simpa using this)
    have h2 : (x == d) = false := beq_eq_false_iff_ne.2 h0
    rw [List.idxOf_cons, h2, h1]
    rfl
def Sp.roundOf (st : List Int) (d : Int) : List Int := Sp.ofGo (Sp.rndsD st).1 d (Sp.rndsD st).2
theorem run_app_none (w : World) (g o k g2 o2 c : Nat) :
    (Builtin.append_ #[22, 22] 22 #[.slice (some ⟨g, o, none⟩) k k, .slice (some ⟨g2, o2, none⟩) 0 c]).run Try.prog w = .ok (.slice (some ⟨g, o, none⟩) k k) w := by
  obtain ⟨i0, hi, hz0, hz1, hz2⟩ := info_parts info3
  simp [Builtin.append_, run_underlying Try.underlying22, sizeOf, typeInfo, hi, Builtin.lenOf, Builtin.firstCells, storeCells, loadCells, loadCellsFrom]
theorem cell_lt {w : World} {a : Addr} {v : Value} (h : w.cell? a = some v) : a.block < w.heap.size := by
  rcases Nat.lt_or_ge a.block w.heap.size with h' | h'
  · exact h'
  · unfold World.cell? at h
    rw [Array.getElem?_eq_none h'] at h
    cases h
theorem own_mine {w : World} {B B' g n c : Nat} {l : List Int} (h : OwnI w B (.slice (some ⟨g, 0, none⟩) n c) l) (hl : n = l.length) (hb : B' ≤ B) : Mine w B' (.slice (some ⟨g, 0, none⟩) n c) l := by
  have h0 := h
  have hlt := h.lt g rfl
  obtain ⟨h1, ⟨h2, -⟩ | ⟨g', cap, cur, e, hg, hh, hnc, hcm, hsz, htk⟩⟩ := h
  · cases h2
  · injection e with e1 e2 e3
    subst e3
    refine .inr ⟨g, 0, c, by rw [hl], by omega, hlt.2, hnc, hcm, fun j hj => ?_⟩
    rw [Nat.zero_add]
    exact ⟨own_cell h0 j hj, own_frozen h0 j⟩
/-- An append whose run is known, as one step of a region that draws its order. -/
theorem step_run {w : World} {ops : Array Oper} {o : Oper} {a : Act} {K : Act → World → Prop} {Q : Exit → Act → World → Prop} {E : Prop} (hgd : o.guard = none) (s x : Operand)
    (ho : o.op = .call { callee := .builtin .append, args := #[s, x], argTypes := #[22, 22] }) (sv xv v' : Value) (w' : World) (hs : a.eval s = sv) (hx : a.eval x = xv)
    (hrun : (Builtin.append_ #[22, 22] o.type #[sv, xv]).run Try.prog w = .ok v' w') (h : K (a.put o.dst v') w') :
    if Region.wanted o (yielded ops a.tmps) = true then Oper.wp Try.prog o a w K Q else E := by
  have hw : Region.wanted o (yielded ops a.tmps) = true := by simp [Region.wanted, hgd]
  rw [if_pos hw]
  unfold Oper.wp execOp
  simp only [ho, resolve, invoke, builtin, Sem.run_bind, Sem.run_pure, Result.andThen_ok, List.map_toArray, List.map_cons, List.map_nil, hs, hx, hrun]
  exact h
end Go.Proofs.Ytoegjnolccabjaa


/- Package dual: linked. -/
namespace Go.Proofs.Ytoegjnolccabjaa
open Go Go.RowKit

theorem Ints.allG {w : World} {v : Value} {l : List Int} (h : Ints w v l) : ∃ (a : Option Addr) (c : Nat), v = .slice a l.length c ∧ l.length ≤ c ∧ c ≤ maxLen ∧ Hid (∀ k, k < l.length → ∃ b o, a = some ⟨b, o, none⟩ ∧ b < w.heap.size ∧ ∀ w', Below w.heap.size w w' → w'.cell? ⟨b, o + k, none⟩ = some (.int .i64 (l.getD k 0))) := by
  obtain ⟨a, c, e, h1, h2, h3⟩ := h.all
  refine ⟨a, c, e, h1, h2, hide fun k hk => ?_⟩
  obtain ⟨b, o, e1, e2, e3⟩ := unhide h3 k hk
  exact ⟨b, o, e1, e2, fun w' hb => by rw [e3 w' hb, Sp.getD_eq _ _ hk]⟩
end Go.Proofs.Ytoegjnolccabjaa


/- Package dual: each. -/
namespace Go.Proofs.Ytoegjnolccabjaa
open Go Go.RowKit

theorem map_fill (G : Nat → Int) (n j : Nat) (hj : j < n) : ((List.range j).map G ++ List.replicate (n - j) 0).set j (G j) = (List.range (j + 1)).map G ++ List.replicate (n - (j + 1)) 0 := by
  rw [List.set_append_right _ _ (by simp), List.range_succ, List.map_append, List.append_assoc]
  congr 1
  obtain ⟨m, hm⟩ : ∃ m, n - j = m + 1 := ⟨n - j - 1, by omega⟩
  rw [hm, show n - (j + 1) = m by omega, List.replicate_succ]
  simp
end Go.Proofs.Ytoegjnolccabjaa


