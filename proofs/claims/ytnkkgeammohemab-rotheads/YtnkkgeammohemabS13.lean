/- The walk of package rot: Parts. -/
import Derived.Test.YtnkkgeammohemabS12
namespace Go.Proofs.Ytnkkgeammohemab
open Go Go.RowKit

/-- From one vertex that was found: its darts by number. -/
def Sp.spreadGo (tl : List Int) (f p : Int) : Nat → Nat → List Int → List Int → List Int × List Int
  | 0, _, of, fd => (of, fd)
  | c + 1, d, of, fd => if tl.getD d 0 = f ∧ of.getD (tl.getD (Sp.oth d) 0).toNat 0 = -1 then Sp.spreadGo tl f p c (d + 1) (of.set (tl.getD (Sp.oth d) 0).toNat p) (fd ++ [tl.getD (Sp.oth d) 0]) else Sp.spreadGo tl f p c (d + 1) of fd
/-- One piece: the vertices found, in their order. -/
def Sp.floodGo (tl : List Int) (p : Int) : Nat → Nat → List Int → List Int → List Int
  | 0, _, of, _ => of
  | g + 1, i, of, fd => if i < fd.length then Sp.floodGo tl p g (i + 1) (Sp.spreadGo tl (fd.getD i 0) p tl.length 0 of fd).1 (Sp.spreadGo tl (fd.getD i 0) p tl.length 0 of fd).2 else of
def Sp.partsGo (tl : List Int) (N : Nat) : Nat → Nat → List Int → Nat → List Int × Nat
  | 0, _, of, p => (of, p)
  | c + 1, v, of, p => if of.getD v 0 = -1 then Sp.partsGo tl N c (v + 1) (Sp.floodGo tl p (N + 1) 0 (of.set v p) [(v : Int)]) (p + 1) else Sp.partsGo tl N c (v + 1) of p
/-- Of which piece each vertex is; how many there are. -/
def Sp.pieces (q : Sp.Net) : List Int × Nat := Sp.partsGo q.tail q.n.toNat q.n.toNat 0 (List.replicate q.n.toNat (-1)) 0
structure PKeep (B O N : Nat) (W wr : World) (of : List Int) : Prop where
  len : of.length = N
  own : OwnI wr B (.slice (some ⟨O, 0, none⟩) N N) of
  bel : Below B W wr
  lt : O < wr.heap.size
  ge : B ≤ O
structure FKeep (O N : Nat) (wr : World) (of fd : List Int) (fv : Value) : Prop where
  own : OwnI wr (O + 1) fv fd
  fit : RFit N fd
  set : ∀ x ∈ fd, of.getD x.toNat 0 ≠ -1
theorem PKeep.below {B O N : Nat} {W wr w5 : World} {of : List Int} (h : PKeep B O N W wr of) (hb : Below wr.heap.size wr w5) : PKeep B O N W w5 of :=
  ⟨h.len, own_below h.own hb, h.bel.trans (hb.mono (by have := h.lt; have := h.ge; omega)), Nat.lt_of_lt_of_le h.lt hb.size, h.ge⟩
theorem own_apart {w w' : World} {B O n c : Nat} {l : List Int} (h : OwnI w B (.slice (some ⟨O, 0, none⟩) n c) l) (hb : Below (O + 1) w w') : OwnI w' B (.slice (some ⟨O, 0, none⟩) n c) l := by
  obtain ⟨hx, ⟨hv, -⟩ | ⟨g, cap, cur, hv, hg, hh, r⟩⟩ := h
  · cases hv
  · refine ⟨hx, .inr ⟨g, cap, cur, hv, hg, ?_, r⟩⟩
    injection hv with h1
    injection h1 with h1
    injection h1 with h1 _
    rw [hb.block g (by omega)]
    exact hh
theorem PKeep.apart {B O N : Nat} {W wr w5 : World} {of : List Int} (h : PKeep B O N W wr of) (hb : Below (O + 1) wr w5) : PKeep B O N W w5 of :=
  ⟨h.len, own_apart h.own hb, h.bel.trans (hb.mono (by have := h.ge; omega)), Nat.lt_of_lt_of_le h.lt hb.size, h.ge⟩
theorem PKeep.set {B O N : Nat} {W wr : World} {of : List Int} (h : PKeep B O N W wr of) (x : Nat) (p : Int) : PKeep B O N W (wr.setCell ⟨O, x, none⟩ (.int .i64 p)) (of.set x p) :=
  ⟨by rw [List.length_set]; exact h.len, own_setCell h.own x p, h.bel.setCell (by exact h.ge) _, by simpa using h.lt, h.ge⟩
theorem FKeep.below {O N : Nat} {wr w5 : World} {of fd : List Int} {fv : Value} (h : FKeep O N wr of fd fv) (hb : Below wr.heap.size wr w5) : FKeep O N w5 of fd fv :=
  ⟨own_below h.own hb, h.fit, h.set⟩
theorem getD_set_ne' (l : List Int) (i j : Nat) (p : Int) (h : l.getD i 0 ≠ -1) (hp : p ≠ -1) : (l.set j p).getD i 0 ≠ -1 := by
  by_cases hij : j = i
  · subst hij
    rcases Nat.lt_or_ge j l.length with hl | hl
    · rw [List.getD_eq_getElem?_getD, List.getElem?_set_self hl]; exact hp
    · rw [List.set_eq_of_length_le hl]; exact h
  · rw [List.getD_eq_getElem?_getD, List.getElem?_set_ne hij, ← List.getD_eq_getElem?_getD]; exact h
theorem getD_set_self' (l : List Int) (j : Nat) (p : Int) (hl : j < l.length) : (l.set j p).getD j 0 = p := by
  rw [List.getD_eq_getElem?_getD, List.getElem?_set_self hl]; rfl
set_option maxRecDepth 100000 in
set_option maxHeartbeats 2000000 in
theorem parts_any (q : Sp.Net) (v tv nv cv : Value) (w : World) (hv : NetI w v q tv nv cv) (hw : Sp.walkB q = true) :
    Calls Try.prog 23 #[v] w fun e w' => ∃ pv, e = .returned (.tuple #[pv, .int .i64 (((Sp.pieces q).2 : Nat) : Int)]) ∧ OwnI w' w.heap.size pv (Sp.pieces q).1 ∧ Below w.heap.size w w' := by
  have hq := walkQ hw
  have hv' := hv
  obtain ⟨rfl, h1, h2, h3⟩ := hv
  obtain ⟨ta, tc, rfl, htc, htm, HT⟩ := h1.all
  obtain ⟨na, nc, rfl, -, -⟩ := h2.form
  obtain ⟨ca, cc, rfl, -, -⟩ := h3.form
  clear h1 h2 h3
  obtain ⟨N, hN⟩ : ∃ N : Nat, q.n = (N : Int) := ⟨q.n.toNat, by have := hq.n0; omega⟩
  have hN60 : N ≤ 60 := by have := hq.n1; omega
  have hRp : Sp.pieces q = Sp.partsGo q.tail N N 0 (List.replicate N (-1)) 0 := by unfold Sp.pieces; rw [hN, Int.toNat_natCast]
  have HRp := hide hRp
  have HTB : Hid (∀ x ∈ q.tail, 0 ≤ x ∧ x < (N : Int)) := hide (by rw [← hN]; exact hq.tb)
  rw [hN] at hv' ⊢
  clear hRp
  have HBX := hide (box_new w (N : Int) (.slice ta q.tail.length tc) (.slice na q.next.length nc) (.slice ca q.cap.length cc))
  obtain ⟨W1, hW1⟩ : ∃ W1, W1 = w.alloc (.cells #[.int .i64 (N : Int), .slice ta q.tail.length tc, .slice na q.next.length nc, .slice ca q.cap.length cc] 25) := ⟨_, rfl⟩
  rw [← hW1] at HBX
  have hb1 : Below w.heap.size w W1 := by rw [hW1]; exact (Below.refl _ w).alloc (Nat.le_refl _) _
  have hs1 : W1.heap.size = w.heap.size + 1 := by rw [hW1]; simp
  have HW : Hid (∀ w', Below (w.heap.size + 1) W1 w' → Below w.heap.size w w') := hide fun w' hb => hb1.trans (hb.mono (by omega))
  have HS1 := hide hs1
  have HV : Hid (∀ w', Below (w.heap.size + 1) W1 w' → NetI w' (.agg #[.int .i64 (N : Int), .slice ta q.tail.length tc, .slice na q.next.length nc, .slice ca q.cap.length cc]) q (.slice ta q.tail.length tc) (.slice na q.next.length nc) (.slice ca q.cap.length cc)) := hide fun w' hb => hv'.below (unhide HW _ hb)
  have HC1 := hide (rwalkable_any q _ _ _ _ W1 (unhide HV W1 (Below.refl _ _)))
  rw [hw] at HC1
  have HQ := hide hq
  have hbig := hq.big
  obtain ⟨P, hP⟩ : ∃ P : Ending → World → Prop, P = fun e w' => ∃ pv, e = .returned (.tuple #[pv, .int .i64 (((Sp.pieces q).2 : Nat) : Int)]) ∧ OwnI w' w.heap.size pv (Sp.pieces q).1 ∧ Below w.heap.size w w' := ⟨_, rfl⟩
  rw [← hP]
  have HP := hide hP
  obtain ⟨x0, x1, x2, x3, -⟩ := unhide HBX W1 (Below.refl _ _)
  clear hb1 hs1 hv' hw hq hP hN
  subst hW1
  go_enter Try.func23, Try.ntmps23
  go_wp2_with fail
  go_at_call 32
  refine (unhide HC1).mono ?_
  clear HC1 x0 x1 x2 x3
  generalize w.alloc (.cells #[.int .i64 (N : Int), .slice ta q.tail.length tc, .slice na q.next.length nc, .slice ca q.cap.length cc] 25) = W1 at *
  rintro e w2 ⟨rfl, hb2⟩
  rw [unhide HS1] at hb2
  obtain ⟨x0, x1, x2, x3, hsz2⟩ := unhide HBX w2 hb2
  have hb3 : Below (w.heap.size + 1) W1 (w2.alloc (.cells #[.int .i64 (-1)] 3)) := hb2.alloc hsz2 _
  have y0 := (unhide HBX _ hb3).1
  have HC2 := hide (repeat_any (-1) w2.heap.size N (w2.alloc (.cells #[.int .i64 (-1)] 3)) hN60 (own_cell (own_lit w2 0 w2.heap.size 1 [-1] rfl rfl (Nat.zero_le _) (by simp)) 0 (by simp)) (by simp))
  have Hb3 := hide hb3
  clear hb3 hb2 x1 x2 x3
  go_wp2_with fail
  go_at_call 43
  refine (unhide HC2).mono ?_
  clear HC2
  have hsz3 : w.heap.size + 1 ≤ (w2.alloc (.cells #[.int .i64 (-1)] 3)).heap.size := by simp; omega
  generalize w2.alloc (.cells #[.int .i64 (-1)] 3) = w3 at *
  rintro e w4 ⟨rfl, hown4, hb4⟩
  have HK0 : Hid (PKeep (w.heap.size + 1) w3.heap.size N W1 w4 (List.replicate N (-1))) := hide ⟨List.length_replicate, own_base hown4 hsz3, (unhide Hb3).trans (hb4.mono hsz3), (hown4.lt w3.heap.size rfl).2, hsz3⟩
  generalize w3.heap.size = O at *
  clear hown4 hb4 x0 y0
  obtain ⟨n, hn⟩ : ∃ n, q.tail.length = n := ⟨_, rfl⟩
  rw [hn] at hbig htc HBX HV ⊢
  have Hn := hide hn
  clear hn
  go_wp2
  go_loopg [5, 21] N (fun g s5 i wr => ∃ (k p : Nat) (of : List Int), k + g = N ∧ p ≤ k ∧ s5 = .int .i64 (p : Int) ∧ i = .int .i64 (k : Int) ∧ Hid (PKeep (w.heap.size + 1) O N W1 wr of ∧ Sp.pieces q = Sp.partsGo q.tail N g k of p))
  case atStart => exact ⟨0, 0, _, by omega, by omega, rfl, rfl, hide ⟨unhide HK0, unhide HRp⟩⟩
  case round =>
    clear HK0
    obtain ⟨k, p, of, hkg, hpk, rfl, rfl, HI⟩ := hrel
    cases gk with
    | zero =>
      obtain rfl : k = N := by omega
      have HF : Hid (Sp.pieces q = (of, p)) := hide (unhide HI).2
      go_wp2
      rw [unhide HP]
      exact ⟨_, by rw [unhide HF]; rfl, by rw [unhide HF]; exact own_base (unhide HI).1.own (by omega), unhide HW _ (unhide HI).1.bel⟩
    | succ g' =>
      have hlt : k < N := by omega
      have hltI : (k : Int) < (N : Int) := by omega
      have c1 := own_cell (unhide HI).1.own k (by rw [(unhide HI).1.len]; exact hlt)
      have f1 := own_frozen (unhide HI).1.own k
      have HG : Hid (of.getD k 0 = of[k]'(by rw [(unhide HI).1.len]; exact hlt)) := hide (Sp.getD_eq _ _ _)
      generalize of[k]'_ = z at *
      by_cases hz : z = -1
      · subst hz
        have HR2 : Hid (Sp.pieces q = Sp.partsGo q.tail N g' (k + 1) (Sp.floodGo q.tail p (N + 1) 0 (of.set k p) [(k : Int)]) (p + 1)) := hide (by rw [(unhide HI).2, Sp.partsGo, if_pos (unhide HG)])
        obtain ⟨FL, hFL⟩ : ∃ FL, FL = Sp.floodGo q.tail p (N + 1) 0 (of.set k p) [(k : Int)] := ⟨_, rfl⟩
        rw [← hFL] at HR2
        have HFL := hide hFL
        have hkk : ((-1 : Int) != (-1 : Int)) = false := by simp
        clear hFL
        have HK1 : Hid (PKeep (w.heap.size + 1) O N W1 ((wr.setCell ⟨O, k, none⟩ (.int .i64 (p : Int))).alloc (.cells #[.int .i64 (k : Int)] 3)) (of.set k p)) := hide (((unhide HI).1.set k p).below ((Below.refl _ _).alloc (Nat.le_refl _) _))
        have HF1 : Hid (FKeep O N ((wr.setCell ⟨O, k, none⟩ (.int .i64 (p : Int))).alloc (.cells #[.int .i64 (k : Int)] 3)) (of.set k p) [(k : Int)] (.slice (some ⟨wr.heap.size, 0, none⟩) 1 1)) := by
          have hlt2 := (unhide HI).1.lt
          refine hide ⟨own_lit (wr.setCell ⟨O, k, none⟩ (.int .i64 (p : Int))) (O + 1) wr.heap.size 1 [(k : Int)] (by simp) rfl (by simp; omega) (by simp), ⟨by simp, ?_⟩, ?_⟩
          · intro x hx
            rw [List.mem_singleton] at hx
            subst hx; omega
          · intro x hx
            rw [List.mem_singleton] at hx
            subst hx
            rw [Int.toNat_natCast, getD_set_self' _ _ _ (by rw [(unhide HI).1.len]; exact hlt)]
            omega
        go_wp2
        clear c1 f1 hkk
        generalize (wr.setCell ⟨O, k, none⟩ (.int .i64 (p : Int))).alloc (.cells #[.int .i64 (k : Int)] 3) = wm at *
        generalize wr.heap.size = gf at *
        go_loopg [7, 8] (N + 1) (fun g s7 i wr => ∃ (i' : Nat) (of2 fd : List Int) (fv : Value), fv = s7 ∧ i' + g = N + 1 ∧ i' ≤ fd.length ∧ i = .int .i64 (i' : Int) ∧ Hid (PKeep (w.heap.size + 1) O N W1 wr of2 ∧ FKeep O N wr of2 fd fv ∧ FL = Sp.floodGo q.tail p g i' of2 fd))
        case atStart => exact ⟨0, _, [(k : Int)], _, rfl, by omega, by omega, rfl, hide ⟨unhide HK1, unhide HF1, unhide HFL⟩⟩
        case round =>
          clear HK1 HF1 HFL
          obtain ⟨i', of2, fd, fv, rfl, hig, hil, rfl, HJ⟩ := hrel
          have hfN := (unhide HJ).2.1.fit.le
          obtain ⟨fa, fc, rfl, hfc, hfm⟩ := (unhide HJ).2.1.own.ints.form
          obtain ⟨lf, hlf⟩ : ∃ lf, fd.length = lf := ⟨_, rfl⟩
          rw [hlf] at hil hfN hfc HJ ⊢
          have Hlf := hide hlf
          clear hlf
          obtain ⟨g2, rfl⟩ : ∃ g2, gk = g2 + 1 := ⟨gk - 1, by omega⟩
          by_cases hi2 : i' < lf
          · have hi2I : (i' : Int) < (lf : Int) := by omega
            obtain ⟨x0, x1, x2, x3, -⟩ := unhide HBX _ (unhide HJ).1.bel
            obtain ⟨SP, hSP⟩ : ∃ SP, SP = Sp.spreadGo q.tail (fd.getD i' 0) p n 0 of2 fd := ⟨_, rfl⟩
            have HR3 : Hid (FL = Sp.floodGo q.tail p g2 (i' + 1) SP.1 SP.2) := by
              have h := (unhide HJ).2.2
              rw [Sp.floodGo, if_pos (by rw [unhide Hlf]; exact hi2), unhide Hn, ← hSP] at h
              exact hide h
            have hfx := (unhide HJ).2.1.fit.bd (fd.getD i' 0) (Sp.getD_mem (by rw [unhide Hlf]; exact hi2))
            obtain ⟨f, hf⟩ : ∃ f : Nat, fd.getD i' 0 = (f : Int) := ⟨(fd.getD i' 0).toNat, by omega⟩
            rw [hf] at hSP
            have HSP := hide hSP
            have Hf := hide hf
            clear hSP hf hfx
            go_wp2
            go_loopg [7, 44] n (fun g s7 i wr => ∃ (d lf2 : Nat) (of3 fd3 : List Int) (fa3 : Option Addr) (fc3 : Nat), s7 = .slice fa3 lf2 fc3 ∧ d + g = n ∧ i' < lf2 ∧ i = .int .i64 (d : Int) ∧ Hid (fd3.length = lf2 ∧ fd3.getD i' 0 = (f : Int) ∧ PKeep (w.heap.size + 1) O N W1 wr of3 ∧ FKeep O N wr of3 fd3 (.slice fa3 lf2 fc3) ∧ SP = Sp.spreadGo q.tail f p g d of3 fd3))
            case atStart => exact ⟨0, lf, of2, fd, _, _, rfl, by omega, hi2, rfl, hide ⟨unhide Hlf, unhide Hf, (unhide HJ).1, (unhide HJ).2.1, unhide HSP⟩⟩
            case round =>
              clear HSP Hf HJ x0 x1 x2 x3
              obtain ⟨d, lf2, of3, fd3, fa3, fc3, rfl, hdg, hil2, rfl, HL⟩ := hrel
              cases gk with
              | zero =>
                obtain rfl : d = n := by omega
                have HR4 : Hid (FL = Sp.floodGo q.tail p g2 (i' + 1) of3 fd3) := hide (by rw [unhide HR3, (unhide HL).2.2.2.2]; rfl)
                go_wp2
                go_roundg g2
                case rel => exact ⟨i' + 1, of3, fd3, _, rfl, by omega, by rw [(unhide HL).1]; omega, by go_num, hide ⟨(unhide HL).2.2.1, (unhide HL).2.2.2.1, unhide HR4⟩⟩
                case measure => omega
              | succ g3 =>
                have hdl : d < n := by omega
                have hdI : (d : Int) < (n : Int) := by omega
                have hdt : d < q.tail.length := by rw [unhide Hn]; exact hdl
                obtain ⟨x0, x1, x2, x3, -⟩ := unhide HBX _ (unhide HL).2.2.1.bel
                obtain ⟨tb, to', hta, -, htc2⟩ := unhide HT d hdt
                subst hta
                have t1 := htc2 _ (unhide HW _ (unhide HL).2.2.1.bel)
                have HG1 : Hid (q.tail.getD d 0 = q.tail[d]) := hide (Sp.getD_eq _ _ hdt)
                have HC5 := hide (head_any' q _ _ _ _ d wr (unhide HV _ (unhide HL).2.2.1.bel) hdt (unhide HQ).ev (unhide HQ).big)
                have hoth : Sp.oth d < q.tail.length := oth_lt hdt (unhide HQ).ev
                have hhb := unhide HTB (q.tail.getD (Sp.oth d) 0) (Sp.getD_mem hoth)
                obtain ⟨h, hh⟩ : ∃ h : Nat, q.tail.getD (Sp.oth d) 0 = (h : Int) := ⟨(q.tail.getD (Sp.oth d) 0).toNat, by omega⟩
                rw [hh] at HC5 hhb
                have Hh := hide hh
                have hhN : h < N := by omega
                have hhI : (h : Int) < (N : Int) := by omega
                generalize q.tail[d] = td at *
                clear hh htc2 hhb hoth hdt
                go_wp2_with fail
                go_at_call 13
                refine (unhide HC5).mono ?_
                clear HC5 x0 x1 x2 x3 t1
                rintro e w5 ⟨rfl, hb5⟩
                have HL5 : Hid (PKeep (w.heap.size + 1) O N W1 w5 of3 ∧ FKeep O N w5 of3 fd3 (.slice fa3 lf2 fc3)) := hide ⟨(unhide HL).2.2.1.below hb5, (unhide HL).2.2.2.1.below hb5⟩
                have c2 := own_cell (unhide HL5).1.own h (by rw [(unhide HL5).1.len]; exact hhN)
                have f2 := own_frozen (unhide HL5).1.own h
                have HG2 : Hid (of3.getD h 0 = of3[h]'(by rw [(unhide HL5).1.len]; exact hhN)) := hide (Sp.getD_eq _ _ _)
                generalize of3[h]'_ = oz at *
                obtain ⟨fb, fo, fc4, hfa, hfc3, -⟩ := (unhide HL5).2.own.ints.cellAt (Below.refl _ _) i' (by rw [(unhide HL).1]; exact hil2)
                injection hfa with hfa1 hfa2 hfa3
                subst hfa1 hfa3
                have hfe : fd3[i']'(by rw [(unhide HL).1]; exact hil2) = (f : Int) := (Sp.getD_eq fd3 i' (by rw [(unhide HL).1]; exact hil2)).symm.trans (unhide HL).2.1
                rw [hfe] at hfc3
                have hil2I : (i' : Int) < (lf2 : Int) := by omega
                have HT5 : Hid (SP = if td = (f : Int) ∧ oz = -1 then Sp.spreadGo q.tail f p g3 (d + 1) (of3.set h p) (fd3 ++ [(h : Int)]) else Sp.spreadGo q.tail f p g3 (d + 1) of3 fd3) := by
                  have h5 := (unhide HL).2.2.2.2
                  rw [Sp.spreadGo, unhide Hh, unhide HG1, Int.toNat_natCast, unhide HG2] at h5
                  exact hide h5
                have HLe := hide (unhide HL).1
                have HLf := hide (unhide HL).2.1
                clear hfe HL hb5 hfa2
                by_cases htd : td = (f : Int)
                · subst htd
                  have hk1 : (((f : Int)) == (f : Int)) = true := beq_self_eq_true _
                  by_cases hoz : oz = -1
                  · subst hoz
                    have hk2 : ((-1 : Int) == (-1 : Int)) = true := by decide
                    have HN : Hid (SP = Sp.spreadGo q.tail f p g3 (d + 1) (of3.set h p) (fd3 ++ [(h : Int)])) := hide (by rw [unhide HT5, if_pos ⟨rfl, rfl⟩])
                    have HP6 : Hid (PKeep (w.heap.size + 1) O N W1 ((w5.setCell ⟨O, h, none⟩ (.int .i64 (p : Int))).alloc (.cells #[.int .i64 (h : Int)] 3)) (of3.set h p)) := hide (((unhide HL5).1.set h p).below ((Below.refl _ _).alloc (Nat.le_refl _) _))
                    have HO6 : Hid (OwnI ((w5.setCell ⟨O, h, none⟩ (.int .i64 (p : Int))).alloc (.cells #[.int .i64 (h : Int)] 3)) (O + 1) (.slice (some ⟨fb, fo, none⟩) lf2 fc3) fd3) := hide (World.ownsRow.alloc (own_store (unhide HL5).2.own (by omega) h _) _)
                    have HI6 : Hid (Ints ((w5.setCell ⟨O, h, none⟩ (.int .i64 (p : Int))).alloc (.cells #[.int .i64 (h : Int)] 3)) (.slice (some ⟨w5.heap.size, 0, none⟩) 1 1) [(h : Int)]) := hide (OwnI.ints (own_lit (w5.setCell ⟨O, h, none⟩ (.int .i64 (p : Int))) 0 _ 1 [(h : Int)] (by simp) rfl (by omega) (by simp)))
                    have hnl := (unhide HL5).2.fit.le
                    rw [unhide HLe] at hnl
                    have hlt5 := (unhide HL5).1.lt
                    have hnm : ¬ (h : Int) ∈ fd3 := fun hm => by
                      have h6 := (unhide HL5).2.set _ hm
                      rw [Int.toNat_natCast, unhide HG2] at h6
                      exact h6 rfl
                    have HNM := hide hnm
                    clear hnm
                    go_wp2_with (at_builtin; refine wpList_app (w := (w5.setCell ⟨O, h, none⟩ (.int .i64 (p : Int))).alloc (.cells #[.int .i64 (h : Int)] 3)) rfl _ _ rfl (O + 1) _ _ fd3 [(h : Int)] rfl rfl (unhide HO6) (unhide HI6) (lf2 + 1) (by rw [unhide HLe]; rfl) (by omega) (by simp; omega) ?_)
                    intro a7 c7 w7 hown7 hb7 hgr7
                    have HP7 : Hid (PKeep (w.heap.size + 1) O N W1 w7 (of3.set h p)) := hide ((unhide HP6).apart hb7)
                    have HF7 : Hid (FKeep O N w7 (of3.set h p) (fd3 ++ [(h : Int)]) (.slice a7 (lf2 + 1) c7)) := by
                      refine hide ⟨hown7, (unhide HL5).2.fit.snoc h hhN (unhide HNM), ?_⟩
                      intro x hx
                      rcases List.mem_append.1 hx with hx | hx
                      · exact getD_set_ne' _ _ _ _ ((unhide HL5).2.set x hx) (by omega)
                      · rw [List.mem_singleton] at hx
                        subst hx
                        rw [Int.toNat_natCast, getD_set_self' _ _ _ (by rw [(unhide HL5).1.len]; exact hhN)]
                        omega
                    have HLf7 : Hid ((fd3 ++ [(h : Int)]).getD i' 0 = (f : Int)) := hide (by
                      rw [List.getD_eq_getElem?_getD, List.getElem?_append_left (by rw [unhide HLe]; exact hil2), ← List.getD_eq_getElem?_getD]
                      exact unhide HLf)
                    clear hown7 hb7 hgr7 c2 f2 hfc3
                    go_wp2
                    go_roundg g3
                    case rel => exact ⟨d + 1, lf2 + 1, of3.set h p, fd3 ++ [(h : Int)], a7, c7, rfl, by omega, by omega, by go_num, hide ⟨by rw [List.length_append, unhide HLe]; rfl, unhide HLf7, unhide HP7, unhide HF7, unhide HN⟩⟩
                    case measure => omega
                  · have hk2 : (oz == (-1 : Int)) = false := beq_eq_false_iff_ne.2 hoz
                    have HN : Hid (SP = Sp.spreadGo q.tail f p g3 (d + 1) of3 fd3) := hide (by rw [unhide HT5, if_neg (fun h => hoz h.2)])
                    go_wp2
                    go_roundg g3
                    case rel => exact ⟨d + 1, lf2, of3, fd3, _, _, rfl, by omega, by omega, by go_num, hide ⟨unhide HLe, unhide HLf, (unhide HL5).1, (unhide HL5).2, unhide HN⟩⟩
                    case measure => omega
                · have hk1 : (td == (f : Int)) = false := beq_eq_false_iff_ne.2 htd
                  have HN : Hid (SP = Sp.spreadGo q.tail f p g3 (d + 1) of3 fd3) := hide (by rw [unhide HT5, if_neg (fun h => htd h.1)])
                  go_wp2
                  go_roundg g3
                  case rel => exact ⟨d + 1, lf2, of3, fd3, _, _, rfl, by omega, by omega, by go_num, hide ⟨unhide HLe, unhide HLf, (unhide HL5).1, (unhide HL5).2, unhide HN⟩⟩
                  case measure => omega
          · have HR3 : Hid (Sp.pieces q = Sp.partsGo q.tail N g' (k + 1) of2 (p + 1)) := by
              have h := (unhide HJ).2.2
              rw [Sp.floodGo, if_neg (by rw [unhide Hlf]; exact hi2)] at h
              exact hide (by rw [unhide HR2, h])
            have hi2I : ¬ (i' : Int) < (lf : Int) := by omega
            go_wp2
            go_roundg g'
            case rel => exact ⟨k + 1, p + 1, of2, by omega, by omega, by go_num, by go_num, hide ⟨(unhide HJ).1, unhide HR3⟩⟩
            case measure => omega
      · have HR2 : Hid (Sp.pieces q = Sp.partsGo q.tail N g' (k + 1) of p) := hide (by rw [(unhide HI).2, Sp.partsGo, if_neg (by rw [unhide HG]; exact hz)])
        have hkk : (z != (-1 : Int)) = true := by simpa using hz
        go_wp2
        go_roundg g'
        case rel => exact ⟨k + 1, p, of, by omega, by omega, rfl, by go_num, hide ⟨(unhide HI).1, unhide HR2⟩⟩
        case measure => omega
end Go.Proofs.Ytnkkgeammohemab


