/- The walk of package rot: Faces. -/
import Derived.Test.YtnkkgeammohemabS10
namespace Go.Proofs.Ytnkkgeammohemab
open Go Go.RowKit

structure WalkQ (q : Sp.Net) : Prop where
  n1 : q.n ≤ 60
  n0 : 0 ≤ q.n
  big : q.tail.length ≤ 240
  ev : q.tail.length % 2 = 0
  nx : q.next.length = q.tail.length
  cp : q.cap.length = q.tail.length
  nb : ∀ x ∈ q.next, 0 ≤ x ∧ x < (q.next.length : Int)
  tb : ∀ x ∈ q.tail, 0 ≤ x ∧ x < q.n
theorem walkQ {q : Sp.Net} (h : Sp.walkB q = true) : WalkQ q := by
  simp only [Sp.walkB, Sp.fewB, Sp.matchedB, Sp.placedB, Bool.and_eq_true, decide_eq_true_eq, List.all_eq_true, Sp.inB] at h
  obtain ⟨⟨h1, h2⟩, ⟨⟨h3, h4, h5⟩, h6⟩, h7, h8⟩ := h
  exact ⟨h1, h8, h2, h3, h4, h5, fun x hx => by rw [h4]; exact h6 x hx, h7⟩
def Sp.paint (k : Int) (of : List Int) (ds : List Int) : List Int := ds.foldl (fun o d => o.set d.toNat k) of
theorem Sp.paint_len (k : Int) : ∀ (ds of : List Int), (Sp.paint k of ds).length = of.length
  | [], _ => rfl
  | d :: r, of => by
    show (Sp.paint k (of.set d.toNat k) r).length = _
    rw [Sp.paint_len k r]; simp
def Sp.facesGo (row : List Int) : List (Nat × Nat) → Nat → List Int → List Int
  | [], _, of => of
  | p :: r, k, of => Sp.facesGo row r (k + 1) (Sp.paint k of (Sp.piece row p))
/-- Each dart's face. -/
def Sp.facesL (q : Sp.Net) : List Int := Sp.facesGo (Sp.rndsD (Sp.behindL q.next)).1 (Sp.rndsD (Sp.behindL q.next)).2 0 (List.replicate q.tail.length 0)
def Sp.facesN (q : Sp.Net) : Nat := max (Sp.rndsD (Sp.behindL q.next)).2.length 1
theorem ret_tup (a : Value) {x y : Int} (h : x = y) : Ending.returned (.tuple #[a, .int .i64 x]) = Ending.returned (.tuple #[a, .int .i64 y]) := by rw [h]
set_option maxRecDepth 100000 in
set_option maxHeartbeats 2000000 in
theorem faces_any (q : Sp.Net) (v tv nv cv : Value) (w : World) (hv : NetI w v q tv nv cv) (hw : Sp.walkB q = true) :
    Calls Try.prog 16 #[v] w fun e w' => ∃ fv, e = .returned (.tuple #[fv, .int .i64 ((Sp.facesN q : Nat) : Int)]) ∧ OwnI w' w.heap.size fv (Sp.facesL q) ∧ Below w.heap.size w w' := by
  have hq := walkQ hw
  have hv' := hv
  obtain ⟨rfl, h1, h2, h3⟩ := hv
  obtain ⟨ta, tc, rfl, htc, htm⟩ := h1.form
  obtain ⟨na, nc, rfl, -, -⟩ := h2.form
  obtain ⟨ca, cc, rfl, -, -⟩ := h3.form
  clear h1 h2 h3
  have HBX := hide (box_new w q.n (.slice ta q.tail.length tc) (.slice na q.next.length nc) (.slice ca q.cap.length cc))
  obtain ⟨W1, hW1⟩ : ∃ W1, W1 = w.alloc (.cells #[.int .i64 q.n, .slice ta q.tail.length tc, .slice na q.next.length nc, .slice ca q.cap.length cc] 25) := ⟨_, rfl⟩
  rw [← hW1] at HBX
  have hb1 : Below w.heap.size w W1 := by rw [hW1]; exact (Below.refl _ w).alloc (Nat.le_refl _) _
  have hs1 : W1.heap.size = w.heap.size + 1 := by rw [hW1]; simp
  have HW : Hid (∀ w', Below (w.heap.size + 1) W1 w' → Below w.heap.size w w') := hide fun w' hb => hb1.trans (hb.mono (by omega))
  have HS1 := hide hs1
  have HV : Hid (∀ w', Below (w.heap.size + 1) W1 w' → NetI w' (.agg #[.int .i64 q.n, .slice ta q.tail.length tc, .slice na q.next.length nc, .slice ca q.cap.length cc]) q (.slice ta q.tail.length tc) (.slice na q.next.length nc) (.slice ca q.cap.length cc)) := hide fun w' hb => hv'.below (unhide HW _ hb)
  have HC1 := hide (rwalkable_any q _ _ _ _ W1 (unhide HV W1 (Below.refl _ _)))
  rw [hw] at HC1
  have Hb := Sp.behindL_bd q.next (by rw [hq.nx]; exact hq.ev) hq.nb
  have Hl := Sp.behindL_len q.next
  have HQ := hide hq
  have hbig := hq.big
  have HF1 : Hid (Sp.facesL q = Sp.facesGo (Sp.rndsD (Sp.behindL q.next)).1 (Sp.rndsD (Sp.behindL q.next)).2 0 (List.replicate q.tail.length 0)) := hide rfl
  have HF2 : Hid (Sp.facesN q = max (Sp.rndsD (Sp.behindL q.next)).2.length 1) := hide rfl
  generalize Sp.facesL q = R at *
  generalize Sp.facesN q = RN at *
  have HBD : Hid (∀ x ∈ Sp.behindL q.next, 0 ≤ x ∧ x < ((Sp.behindL q.next).length : Int)) := hide (by rw [Hl]; exact Hb)
  have HLN := hide Hl
  obtain ⟨x0, x1, x2, x3, -⟩ := unhide HBX W1 (Below.refl _ _)
  clear hb1 hs1 hv' hw hq Hb Hl
  obtain ⟨P, hP⟩ : ∃ P : Ending → World → Prop, P = fun e w' => ∃ fv, e = .returned (.tuple #[fv, .int .i64 ((RN : Nat) : Int)]) ∧ OwnI w' w.heap.size fv R ∧ Below w.heap.size w w' := ⟨_, rfl⟩
  rw [← hP]
  have HP := hide hP
  clear hP
  subst hW1
  go_enter Try.func16, Try.ntmps16
  go_wp2_with fail
  go_at_call 32
  refine (unhide HC1).mono ?_
  clear HC1 x0 x1 x2 x3
  generalize w.alloc (.cells #[.int .i64 q.n, .slice ta q.tail.length tc, .slice na q.next.length nc, .slice ca q.cap.length cc] 25) = W1 at *
  rintro e w2 ⟨rfl, hb2⟩
  rw [unhide HS1] at hb2
  obtain ⟨x0, x1, x2, x3, hsz2⟩ := unhide HBX w2 hb2
  have HC2 := hide (behind_any q _ _ _ _ w2 (unhide HV w2 hb2) (by rw [(unhide HQ).nx]; exact (unhide HQ).ev) (by rw [(unhide HQ).nx]; exact (unhide HQ).big))
  have Hb2 := hide hb2
  clear hb2
  go_wp2_with fail
  go_at_call 36
  refine (unhide HC2).mono ?_
  clear HC2
  rintro e w3 ⟨sv, rfl, hown3, hb3⟩
  have hown3' : OwnI w3 w2.heap.size sv (Sp.behindL q.next) := hown3
  have HC3 := hide (rounds_any (Sp.behindL q.next) sv w3 hown3'.ints (by rw [unhide HLN, (unhide HQ).nx]; exact (unhide HQ).big) (unhide HBD))
  have Hb3 : Hid (Below (w.heap.size + 1) W1 w3) := hide ((unhide Hb2).trans (hb3.mono hsz2))
  have hsz3 := Nat.le_trans hsz2 hb3.size
  clear hown3 hown3' hb3 x0 x1 x2 x3
  go_wp2_with fail
  go_at_call 35
  refine (unhide HC3).mono ?_
  clear HC3
  intro e w4 hpost
  obtain ⟨lv, rfl, hb4, hpl, hpo, hls, hcells⟩ := hpost.one (unhide HBD)
  clear hpost
  generalize (Sp.rndsD (Sp.behindL q.next)).1 = row at *
  generalize (Sp.rndsD (Sp.behindL q.next)).2 = ps at *
  generalize (Sp.rnds (Sp.behindL q.next)).isSome = is at *
  rw [unhide HLN, (unhide HQ).nx] at hpl hpo
  have Hb4 : Hid (Below (w.heap.size + 1) W1 w4) := hide ((unhide Hb3).trans (hb4.mono hsz3))
  have hsz4 := Nat.le_trans hsz3 hb4.size
  obtain ⟨la, lc, rfl, hlc, hlm, HL⟩ := owns_all hls
  have HPO := hide hpo
  have HCE := hide hcells
  obtain ⟨x0, x1, x2, x3, -⟩ := unhide HBX w4 (unhide Hb4)
  clear hls hpo hcells hb4 x0 x2 x3
  go_wp2_with (at_make; refine wpList_mk rfl _ _ rfl w4.heap.size q.tail.length rfl rfl (by omega) (Nat.le_refl _) ?_)
  intro w5 hown5 hb5 hlt5
  have HO5 := hide hown5
  have HB5 := hide hb5
  clear hown5 hlt5 hb5 x1
  obtain ⟨n, hn⟩ : ∃ n, q.tail.length = n := ⟨_, rfl⟩
  rw [hn] at HF1 HO5 HPO hbig htc hpl ⊢
  clear hn
  go_wp2
  go_loopg [26] ps.length (fun g i wr => ∃ (k : Nat) (L : List Int), k + g = ps.length ∧ i = .int .i64 (k : Int) ∧ Hid (L.length = n ∧ Below w4.heap.size w4 wr ∧ OwnI wr w4.heap.size (.slice (some ⟨w4.heap.size, 0, none⟩) n n) L ∧ R = Sp.facesGo row (ps.drop k) k L))
  case atStart => exact ⟨0, _, by omega, rfl, hide ⟨List.length_replicate, unhide HB5, unhide HO5, unhide HF1⟩⟩
  case round =>
    clear HO5 HB5
    obtain ⟨k, L, hkg, rfl, HI⟩ := hrel
    cases gk with
    | zero =>
      obtain rfl : k = ps.length := by omega
      have HF : Hid (R = L) := by
        have := (unhide HI).2.2.2
        rw [List.drop_eq_nil_of_le (Nat.le_refl _), Sp.facesGo] at this
        exact hide this
      have HBf : Hid (Below w.heap.size w wr) := hide (unhide HW _ ((unhide Hb4).trans ((unhide HI).2.1.mono (by omega))))
      go_wp2
      all_goals
        rw [unhide HP]
        exact ⟨_, ret_tup _ (by rw [unhide HF2]; omega), by rw [unhide HF]; exact own_base (unhide HI).2.2.1 (by omega), unhide HBf⟩
    | succ g' =>
      have hlt : k < ps.length := by omega
      have hltI : (k : Int) < (ps.length : Int) := by omega
      have hpk := (unhide HPO).ok ps[k] (List.getElem_mem hlt)
      have HTG : Hid (R = Sp.facesGo row (ps.drop (k + 1)) (k + 1) (Sp.paint k L (Sp.piece row ps[k]))) := hide (by
        have h := (unhide HI).2.2.2
        rw [List.drop_eq_getElem_cons hlt, Sp.facesGo] at h
        exact h)
      obtain ⟨lb, hla, hlbs, -, hlcell⟩ := unhide HL k (by simpa using hlt)
      subst hla
      have hlc1 := hlcell wr (unhide HI).2.1
      rw [List.getElem_map] at hlc1
      generalize ps[k] = pp at *
      obtain ⟨b, e⟩ := pp
      obtain ⟨hbe, herow⟩ := hpk
      simp only at hbe herow
      have hlc2 : wr.cell? ⟨lb, k, none⟩ = some (.slice (some ⟨w3.heap.size, b, none⟩) (e - b) (e - b)) := hlc1
      have he240 : e ≤ 240 := by have := (unhide HPO).fit.le; omega
      have HPL : Hid ((Sp.piece row (b, e)).length = e - b) := hide (Sp.piece_len herow)
      clear hlc1 hlcell
      go_wp2
      clear hlc2
      go_loopg [33] (e - b) (fun g i wr => ∃ (j : Nat) (L2 : List Int), j + g = e - b ∧ i = .int .i64 (j : Int) ∧ Hid (L2.length = n ∧ Below w4.heap.size w4 wr ∧ OwnI wr w4.heap.size (.slice (some ⟨w4.heap.size, 0, none⟩) n n) L2 ∧ Sp.paint k L (Sp.piece row (b, e)) = Sp.paint k L2 ((Sp.piece row (b, e)).drop j)))
      case atStart => exact ⟨0, L, by omega, rfl, hide ⟨(unhide HI).1, (unhide HI).2.1, (unhide HI).2.2.1, rfl⟩⟩
      case round =>
        obtain ⟨j, L2, hjg, rfl, HJ⟩ := hrel
        cases gk with
        | zero =>
          obtain rfl : j = e - b := by omega
          have HN : Hid (R = Sp.facesGo row (ps.drop (k + 1)) (k + 1) L2) := by
            have h := (unhide HJ).2.2.2
            rw [List.drop_eq_nil_of_le (by rw [unhide HPL]; exact Nat.le_refl _)] at h
            have h2 := unhide HTG
            rw [h] at h2
            exact hide h2
          go_wp2
          go_roundg g'
          case rel => exact ⟨k + 1, L2, by omega, by go_num, hide ⟨(unhide HJ).1, (unhide HJ).2.1, (unhide HJ).2.2.1, unhide HN⟩⟩
          case measure => omega
        | succ g2 =>
          have hjl : j < e - b := by omega
          have hjI : (j : Int) < ((e - b : Nat) : Int) := by omega
          have hrj : b + j < row.length := by omega
          have c1 := (unhide HCE (b + j) hrj wr (unhide HJ).2.1).1
          have hbd := (unhide HPO).fit.bd row[b + j] (List.getElem_mem hrj)
          have HN : Hid (Sp.paint k L (Sp.piece row (b, e)) = Sp.paint k (L2.set row[b + j].toNat k) ((Sp.piece row (b, e)).drop (j + 1))) := by
            have h := (unhide HJ).2.2.2
            rw [List.drop_eq_getElem_cons (by rw [unhide HPL]; exact hjl), Sp.piece_get herow] at h
            exact hide h
          generalize row[b + j] = rj at *
          obtain ⟨x, rfl⟩ : ∃ x : Nat, rj = (x : Int) := ⟨rj.toNat, by omega⟩
          rw [Int.toNat_natCast] at HN
          have hxn : x < n := by omega
          have hxI : (x : Int) < (n : Int) := by omega
          have f1 := own_frozen (unhide HJ).2.2.1 x
          have c2 := own_cell (unhide HJ).2.2.1 x (by rw [(unhide HJ).1]; exact hxn)
          generalize L2[x]'_ = z at *
          clear hbd
          go_wp2
          go_roundg g2
          case rel => exact ⟨j + 1, L2.set x k, by omega, by go_num, hide ⟨by rw [List.length_set]; exact (unhide HJ).1, (unhide HJ).2.1.setCell (by exact Nat.le_refl _) _, own_setCell (unhide HJ).2.2.1 x k, unhide HN⟩⟩
          case measure => omega
end Go.Proofs.Ytnkkgeammohemab


