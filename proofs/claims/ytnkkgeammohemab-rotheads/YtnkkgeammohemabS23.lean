/- The walk of the second reference's Faces, over next ones that come round. -/
import Derived.Test.YtnkkgeammohemabS22
namespace Go.Proofs.Ytnkkgeammohemab
open Go Go.RowKit

def Sp.faces2Go (st : List Int) : Nat → Nat → List Int → Nat → List Int × Nat
  | 0, _, of, k => (of, k)
  | f + 1, d, of, k => if 0 ≤ of.getD d 0 then Sp.faces2Go st f (d + 1) of k else Sp.faces2Go st f (d + 1) (Sp.paint k of (Sp.rounds st d (Sp.per st d))) (k + 1)
/-- Each dart's face as the reference numbers them; how many. -/
def Sp.faces2 (q : Sp.Net) : List Int × Nat := Sp.faces2Go (Sp.behindL q.next) q.tail.length 0 (List.replicate q.tail.length (-1)) 0
theorem set_fill (n j : Nat) (hj : j < n) : (List.replicate j (-1 : Int) ++ List.replicate (n - j) 0).set j (-1) = List.replicate (j + 1) (-1) ++ List.replicate (n - (j + 1)) 0 := by
  rw [List.set_append_right _ _ (by simp), List.replicate_succ', List.append_assoc]
  congr 1
  obtain ⟨m, hm⟩ : ∃ m, n - j = m + 1 := ⟨n - j - 1, by omega⟩
  rw [hm, show n - (j + 1) = m by omega, List.replicate_succ]
  simp
set_option maxRecDepth 100000 in
set_option maxHeartbeats 2000000 in
theorem faces2_any (q : Sp.Net) (v tv nv cv : Value) (w : World) (hv : NetI w v q tv nv cv) (hq1 : q.next.length = q.tail.length) (hn : q.tail.length ≤ 240) (hev : q.tail.length % 2 = 0) (hp : Sp.Perm q.next) :
    Calls Try.prog 21 #[v] w fun e w' => ∃ fv, e = .returned (.tuple #[fv, .int .i64 ((max (Sp.faces2 q).2 1 : Nat) : Int)]) ∧ OwnI w' w.heap.size fv (Sp.faces2 q).1 ∧ Below w.heap.size w w' := by
  have hv' := hv
  obtain ⟨rfl, h1, h2, h3⟩ := hv
  obtain ⟨ta, tc, rfl, htc, htm⟩ := h1.form
  obtain ⟨na, nc, rfl, -, -⟩ := h2.form
  obtain ⟨ca, cc, rfl, -, -⟩ := h3.form
  clear h1 h2 h3
  have HBX := hide (box_new w q.n (.slice ta q.tail.length tc) (.slice na q.next.length nc) (.slice ca q.cap.length cc))
  obtain ⟨W1, hW1⟩ : ∃ W1, W1 = w.alloc (.cells #[.int .i64 q.n, .slice ta q.tail.length tc, .slice na q.next.length nc, .slice ca q.cap.length cc] 25) := ⟨_, rfl⟩
  rw [← hW1] at HBX
  have hb1 : Below w.heap.size w W1 := by rw [hW1]; exact (Below.refl _ w).alloc (Nat.le_refl _) _
  have hs1 : W1.heap.size = w.heap.size + 1 := by rw [hW1]; simp
  have HW : Hid (∀ w', Below (w.heap.size + 1) W1 w' → Below w.heap.size w w') := hide fun w' hb => hb1.trans (hb.mono (by omega))
  have HS1 := hide hs1
  have HV : Hid (∀ w', Below (w.heap.size + 1) W1 w' → NetI w' (.agg #[.int .i64 q.n, .slice ta q.tail.length tc, .slice na q.next.length nc, .slice ca q.cap.length cc]) q (.slice ta q.tail.length tc) (.slice na q.next.length nc) (.slice ca q.cap.length cc)) := hide fun w' hb => hv'.below (unhide HW _ hb)
  have HPm := hide (hp.behind (by rw [hq1]; exact hev))
  have HQ : Hid (q.next.length ≤ 240 ∧ q.next.length % 2 = 0 ∧ (∀ x ∈ q.next, 0 ≤ x ∧ x < q.next.length) ∧ q.next.length = q.tail.length) := hide ⟨by omega, by omega, hp.bd, hq1⟩
  have HF1 : Hid (Sp.faces2 q = Sp.faces2Go (Sp.behindL q.next) q.tail.length 0 (List.replicate q.tail.length (-1)) 0) := hide rfl
  have HBL : Hid ((Sp.behindL q.next).length = q.tail.length) := hide (by rw [Sp.behindL_len, hq1])
  generalize Sp.faces2 q = R at *
  obtain ⟨P, hP⟩ : ∃ P : Ending → World → Prop, P = fun e w' => ∃ fv, e = .returned (.tuple #[fv, .int .i64 ((max R.2 1 : Nat) : Int)]) ∧ OwnI w' w.heap.size fv R.1 ∧ Below w.heap.size w w' := ⟨_, rfl⟩
  rw [← hP]
  have HP := hide hP
  obtain ⟨x0, x1, x2, x3, -⟩ := unhide HBX W1 (Below.refl _ _)
  clear hb1 hs1 hv' hp hP hq1 hev
  subst hW1
  go_enter Try.func21, Try.ntmps21
  go_wp2_with (at_make; refine wpList_mk rfl _ _ rfl (w.heap.size + 1) q.tail.length rfl rfl (by omega) (by simp) ?_)
  intro w5 hown5 hb5 hlt5
  clear x0 x1 x2 x3
  generalize w.alloc (.cells #[.int .i64 q.n, .slice ta q.tail.length tc, .slice na q.next.length nc, .slice ca q.cap.length cc] 25) = W1 at *
  obtain ⟨n, hnn⟩ : ∃ n, q.tail.length = n := ⟨_, rfl⟩
  rw [hnn] at hown5 HF1 HBX HV HQ HBL hn htc ⊢
  clear hnn
  have HK0 : Hid (PKeep (w.heap.size + 1) (w.heap.size + 1) n W1 w5 (List.replicate n 0)) := hide ⟨List.length_replicate, hown5, hb5, by have := (hown5.lt (w.heap.size + 1) rfl).2; exact this, Nat.le_refl _⟩
  clear hown5 hb5 hlt5
  go_wp2
  go_loopg [5] n (fun g i wr => ∃ j : Nat, j + g = n ∧ i = .int .i64 (j : Int) ∧ Hid (PKeep (w.heap.size + 1) (w.heap.size + 1) n W1 wr (List.replicate j (-1) ++ List.replicate (n - j) 0)))
  case atStart => exact ⟨0, by omega, rfl, by simpa using HK0⟩
  case round =>
    clear HK0
    obtain ⟨j, hjg, rfl, HI⟩ := hrel
    cases gk with
    | succ g' =>
      have hlt : j < n := by omega
      have hltI : (j : Int) < (n : Int) := by omega
      have c1 := own_cell (unhide HI).own j (by rw [(unhide HI).len]; exact hlt)
      have f1 := own_frozen (unhide HI).own j
      have HN : Hid (PKeep (w.heap.size + 1) (w.heap.size + 1) n W1 (wr.setCell ⟨w.heap.size + 1, j, none⟩ (.int .i64 (-1))) (List.replicate (j + 1) (-1) ++ List.replicate (n - (j + 1)) 0)) := by
        have h := (unhide HI).set j (-1)
        rw [set_fill n j hlt] at h
        exact hide h
      generalize (List.replicate j (-1 : Int) ++ List.replicate (n - j) 0)[j]'_ = z at *
      go_wp2
      go_roundg g'
      case rel => exact ⟨j + 1, by omega, by go_num, HN⟩
      case measure => omega
    | zero =>
      obtain rfl : j = n := by omega
      have HK1 : Hid (PKeep (w.heap.size + 1) (w.heap.size + 1) j W1 wr (List.replicate j (-1))) := by simpa using HI
      clear HI
      go_wp2
      go_loopg [6, 7] j (fun g s6 i wr => ∃ (d k : Nat) (of : List Int), d + g = j ∧ k ≤ d ∧ s6 = .int .i64 (k : Int) ∧ i = .int .i64 (d : Int) ∧ Hid (PKeep (w.heap.size + 1) (w.heap.size + 1) j W1 wr of ∧ R = Sp.faces2Go (Sp.behindL q.next) g d of k))
      case atStart => exact ⟨0, 0, _, by omega, by omega, rfl, rfl, hide ⟨unhide HK1, unhide HF1⟩⟩
      case round =>
        clear HK1
        obtain ⟨d, k, of, hdg, hkd, rfl, rfl, HI⟩ := hrel
        cases gk with
        | zero =>
          obtain rfl : d = j := by omega
          have HF : Hid (R = (of, k)) := hide (unhide HI).2
          go_wp2
          all_goals
            rw [unhide HP]
            exact ⟨_, ret_tup _ (by rw [unhide HF]; show _ = ((max k 1 : Nat) : Int); omega), by rw [unhide HF]; exact own_base (unhide HI).1.own (by omega), unhide HW _ (unhide HI).1.bel⟩
        | succ g' =>
          have hlt : d < j := by omega
          have hltI : (d : Int) < (j : Int) := by omega
          have c1 := own_cell (unhide HI).1.own d (by rw [(unhide HI).1.len]; exact hlt)
          have HG : Hid (of.getD d 0 = of[d]'(by rw [(unhide HI).1.len]; exact hlt)) := hide (Sp.getD_eq _ _ _)
          generalize of[d]'_ = z at *
          by_cases hz : 0 ≤ z
          · have HR : Hid (R = Sp.faces2Go (Sp.behindL q.next) g' (d + 1) of k) := hide (by rw [(unhide HI).2, Sp.faces2Go, if_pos (by rw [unhide HG]; exact hz)])
            go_wp2
            go_roundg g'
            case rel => exact ⟨d + 1, k, of, by omega, by omega, rfl, by go_num, hide ⟨(unhide HI).1, unhide HR⟩⟩
            case measure => omega
          · obtain ⟨FL, hFL⟩ : ∃ FL, FL = Sp.rounds (Sp.behindL q.next) d (Sp.per (Sp.behindL q.next) d) := ⟨_, rfl⟩
            have HR : Hid (R = Sp.faces2Go (Sp.behindL q.next) g' (d + 1) (Sp.paint k of FL) (k + 1)) := hide (by rw [(unhide HI).2, Sp.faces2Go, if_neg (by rw [unhide HG]; exact hz), hFL])
            obtain ⟨m1, m2, m3, m4⟩ := (unhide HPm).per (d := d) (by rw [unhide HBL]; exact hlt)
            rw [unhide HBL] at m2
            have HC := hide (face2_any q _ _ _ _ d (Sp.per (Sp.behindL q.next) d) wr (unhide HV _ (unhide HI).1.bel) (unhide HQ).1 (unhide HQ).2.1 (unhide HQ).2.2.1 (by rw [(unhide HQ).2.2.2]; exact hlt) m1 (by omega) m3 m4)
            rw [← hFL] at HC
            have HFb : Hid (∀ x ∈ FL, 0 ≤ x ∧ x < (j : Int)) := by
              rw [hFL]
              refine hide fun x hx => ?_
              obtain ⟨t, -, rfl⟩ := List.mem_map.1 hx
              exact Sp.nth_bd (unhide HBL) (by rw [← unhide HBL]; exact (unhide HPm).bd) (by omega) (by omega) t
            have hFlen : FL.length ≤ 240 := by rw [hFL, Sp.rounds_len]; omega
            obtain ⟨x0, x1, x2, x3, -⟩ := unhide HBX _ (unhide HI).1.bel
            clear hFL m1 m2 m3 m4
            go_wp2_with fail
            go_at_call 42
            refine (unhide HC).mono ?_
            clear HC x0 x1 x2 x3 c1
            rintro e w6 ⟨lv, rfl, hown6, hb6⟩
            have HK6 : Hid (PKeep (w.heap.size + 1) (w.heap.size + 1) j W1 w6 of ∧ OwnI w6 (w.heap.size + 1 + 1) lv FL) := hide ⟨(unhide HI).1.below hb6, own_base hown6 (by have := (unhide HI).1.lt; omega)⟩
            obtain ⟨la, lc, rfl, -, -⟩ := hown6.ints.form
            obtain ⟨fl, hfl⟩ : ∃ fl, FL.length = fl := ⟨_, rfl⟩
            rw [hfl] at hFlen HK6 ⊢
            have Hfl := hide hfl
            clear hown6 hb6 hfl
            go_wp2
            go_loopg [9] fl (fun g i wr => ∃ (t : Nat) (of2 : List Int), t + g = fl ∧ i = .int .i64 (t : Int) ∧ Hid (PKeep (w.heap.size + 1) (w.heap.size + 1) j W1 wr of2 ∧ OwnI wr (w.heap.size + 1 + 1) (.slice la fl lc) FL ∧ Sp.paint k of FL = Sp.paint k of2 (FL.drop t)))
            case atStart => exact ⟨0, of, by omega, rfl, hide ⟨(unhide HK6).1, (unhide HK6).2, rfl⟩⟩
            case round =>
              clear HK6
              obtain ⟨t, of2, htg, rfl, HJ⟩ := hrel
              cases gk with
              | zero =>
                obtain rfl : t = fl := by omega
                have HN : Hid (R = Sp.faces2Go (Sp.behindL q.next) g' (d + 1) of2 (k + 1)) := hide (by
                  rw [unhide HR, (unhide HJ).2.2, List.drop_eq_nil_of_le (by rw [unhide Hfl]; exact Nat.le_refl _)]
                  rfl)
                go_wp2
                go_roundg g'
                case rel => exact ⟨d + 1, k + 1, of2, by omega, by omega, by go_num, by go_num, hide ⟨(unhide HJ).1, unhide HN⟩⟩
                case measure => omega
              | succ g2 =>
                have htl : t < fl := by omega
                have htI : (t : Int) < (fl : Int) := by omega
                have htL : t < FL.length := by rw [unhide Hfl]; exact htl
                obtain ⟨lb, lo, lc2, hla, hlc2, -⟩ := (unhide HJ).2.1.ints.cellAt (Below.refl _ _) t htL
                injection hla with hla1 hla2 hla3
                subst hla1 hla3
                have hfb := unhide HFb FL[t] (List.getElem_mem htL)
                have HN : Hid (Sp.paint k of FL = Sp.paint k (of2.set FL[t].toNat k) (FL.drop (t + 1))) := by
                  have h := (unhide HJ).2.2
                  rw [List.drop_eq_getElem_cons htL] at h
                  exact hide h
                generalize FL[t] = ft at *
                obtain ⟨x, rfl⟩ : ∃ x : Nat, ft = (x : Int) := ⟨ft.toNat, by omega⟩
                rw [Int.toNat_natCast] at HN
                have hxn : x < j := by omega
                have hxI : (x : Int) < (j : Int) := by omega
                have c2 := own_cell (unhide HJ).1.own x (by rw [(unhide HJ).1.len]; exact hxn)
                have f2 := own_frozen (unhide HJ).1.own x
                generalize of2[x]'_ = oz at *
                clear hfb hla2
                go_wp2
                go_roundg g2
                case rel => exact ⟨t + 1, of2.set x k, by omega, by go_num, hide ⟨(unhide HJ).1.set x k, own_store (unhide HJ).2.1 (by omega) x _, unhide HN⟩⟩
                case measure => omega
end Go.Proofs.Ytnkkgeammohemab


