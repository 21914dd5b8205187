/- The walks of the second reference's About and Face, where the way comes round. -/
import Derived.Test.YtnkkgeammohemabT9
namespace Go.Proofs.Ytnkkgeammohemab
open Go Go.RowKit

/-- What comes behind each dart about its face. -/
def Sp.behindL (nx : List Int) : List Int := (List.range nx.length).map fun d => nx.getD (Sp.oth d) 0
theorem Sp.behindL_len (nx : List Int) : (Sp.behindL nx).length = nx.length := by simp [Sp.behindL]
theorem Sp.behindL_get (nx : List Int) (j : Nat) (h : j < nx.length) : (Sp.behindL nx).getD j 0 = nx.getD (Sp.oth j) 0 := by
  rw [Sp.getD_eq _ _ (by rw [Sp.behindL_len]; exact h)]
  simp [Sp.behindL]
theorem Sp.behindL_bd (nx : List Int) (hev : nx.length % 2 = 0) (hx : ∀ x ∈ nx, 0 ≤ x ∧ x < nx.length) : ∀ x ∈ Sp.behindL nx, 0 ≤ x ∧ x < nx.length := by
  intro x hm
  obtain ⟨d, hd, rfl⟩ := List.mem_map.1 hm
  exact hx _ (Sp.getD_mem (oth_lt (List.mem_range.1 hd) hev))
set_option maxRecDepth 100000 in
set_option maxHeartbeats 1000000 in
theorem face2_any (q : Sp.Net) (v tv nv cv : Value) (d m : Nat) (w : World) (hv : NetI w v q tv nv cv) (hL : q.next.length ≤ 240) (hev : q.next.length % 2 = 0) (hx : ∀ x ∈ q.next, 0 ≤ x ∧ x < q.next.length) (hd : d < q.next.length) (hm1 : 1 ≤ m) (hmL : m ≤ 1000)
    (hback : Sp.nth (Sp.behindL q.next) d m = d) (hnot : ∀ i, 0 < i → i < m → Sp.nth (Sp.behindL q.next) d i ≠ d) :
    Calls Try.prog 42 #[v, .int .i64 (d : Int)] w fun e w' => ∃ lv, e = .returned lv ∧ OwnI w' w.heap.size lv (Sp.rounds (Sp.behindL q.next) d m) ∧ Below w.heap.size w w' := by
  obtain ⟨rfl, h1, h2, h3⟩ := hv
  obtain ⟨ta, tc, rfl, -, -⟩ := h1.form
  obtain ⟨na, nc, rfl, hnc, hnm, HN⟩ := h2.all
  obtain ⟨ca, cc, rfl, -, -⟩ := h3.form
  clear h1 h2 h3
  have hnth : ∀ i, 0 ≤ Sp.nth (Sp.behindL q.next) d i ∧ Sp.nth (Sp.behindL q.next) d i < q.next.length := fun i => Sp.nth_bd (Sp.behindL_len q.next) (Sp.behindL_bd q.next hev hx) (by omega) (by omega) i
  have hstep : ∀ j i : Nat, Sp.nth (Sp.behindL q.next) d i = j → (hj : j < q.next.length) → Sp.nth (Sp.behindL q.next) d (i + 1) = q.next[(Sp.oth j)]'(oth_lt hj hev) := fun j i hj hjl => by
    show (Sp.behindL q.next).getD (Sp.nth (Sp.behindL q.next) d i).toNat 0 = _
    rw [hj, Int.toNat_natCast]
    rw [Sp.behindL_get q.next j hjl, Sp.getD_eq _ _ (oth_lt hjl hev)]
  have Hbd := hide hnth
  have Hst := hide hstep
  have Hback := hide hback
  have Hnot := hide hnot
  clear hnth hstep hback hnot hx
  have HR1 : Hid (Sp.rounds (Sp.behindL q.next) d 1 = [(d : Int)]) := hide rfl
  have HBX := hide (box_new w q.n (.slice ta q.tail.length tc) (.slice na q.next.length nc) (.slice ca q.cap.length cc))
  obtain ⟨W1, hW1⟩ : ∃ W1, W1 = w.alloc (.cells #[.int .i64 q.n, .slice ta q.tail.length tc, .slice na q.next.length nc, .slice ca q.cap.length cc] 25) := ⟨_, rfl⟩
  rw [← hW1] at HBX
  have hb1 : Below w.heap.size w W1 := by rw [hW1]; exact (Below.refl _ w).alloc (Nat.le_refl _) _
  have hs1 : W1.heap.size = w.heap.size + 1 := by rw [hW1]; simp
  have HW : Hid (∀ w', Below (w.heap.size + 1) W1 w' → Below w.heap.size w w') := hide fun w' hb => hb1.trans (hb.mono (by omega))
  have hb2 : Below (w.heap.size + 1) W1 (W1.alloc (.cells #[.int .i64 (d : Int)] 3)) := (Below.refl _ _).alloc (by omega) _
  have HO2 : Hid (OwnI (W1.alloc (.cells #[.int .i64 (d : Int)] 3)) (w.heap.size + 1) (.slice (some ⟨w.heap.size + 1, 0, none⟩) 1 1) [(d : Int)]) := hide (own_lit W1 _ _ 1 [(d : Int)] hs1 rfl (by omega) (by simp))
  obtain ⟨x0, x1, x2, x3, hsz⟩ := unhide HBX _ hb2
  obtain ⟨b, o, hna, -, hcx⟩ := unhide HN (Sp.oth d) (oth_lt hd hev)
  subst hna
  have g := hcx _ (unhide HW _ hb2)
  rw [← unhide Hst d 0 rfl hd] at g
  have hdI : (d : Int) < q.next.length := by omega
  have hod := oth_lt hd hev
  have hodI : (((Sp.oth d) : Nat) : Int) < q.next.length := by omega
  have hX := xor_oth ⟨d, by omega⟩
  simp only at hX
  clear hcx
  generalize Sp.oth d = od at *
  have HB2 := hide hb2
  clear hb1 hs1 hb2  x0 x1 x3
  subst hW1
  go_enter Try.func42, Try.ntmps42
  go_wp2
  clear g x2 hod hodI hX
  generalize (w.alloc (.cells #[.int .i64 q.n, .slice ta q.tail.length tc, .slice (some ⟨b, o, none⟩) q.next.length nc, .slice ca q.cap.length cc] 25)) = W1 at *
  go_loopw [5, 6] (fun ov ev wr => ∃ (i : Nat) (oq : Value), oq = ov ∧ 1 ≤ i ∧ i ≤ m ∧ ev = .int .i64 (Sp.nth (Sp.behindL q.next) d i) ∧ OwnI wr (w.heap.size + 1) oq (Sp.rounds (Sp.behindL q.next) d i) ∧ Below (w.heap.size + 1) W1 wr) (fun ov _ _ => 1001 - sliceLen ov)
  case atStart => exact ⟨1, _, rfl, by omega, hm1, rfl, by rw [unhide HR1]; exact unhide HO2, unhide HB2⟩
  case round =>
    clear HO2 HB2
    obtain ⟨i, oq, rfl, hi1, him, rfl, hown, hb⟩ := hrel
    obtain ⟨c0, c1, c2, c3, hszr⟩ := unhide HBX _ hb
    obtain ⟨oa, oc, rfl, -, -⟩ := hown.ints.form
    have hrl := Sp.rounds_len (Sp.behindL q.next) d i
    have HO := hide hown
    rw [hrl] at HO ⊢
    clear hown hrl
    by_cases him' : i < m
    · have hne := unhide Hnot i (by omega) him'
      obtain ⟨y0, y1⟩ := unhide Hbd i
      obtain ⟨j, hj⟩ : ∃ j : Nat, Sp.nth (Sp.behindL q.next) d i = j := ⟨(Sp.nth (Sp.behindL q.next) d i).toNat, by omega⟩
      have HS : Hid (Sp.rounds (Sp.behindL q.next) d (i + 1) = Sp.rounds (Sp.behindL q.next) d i ++ [(j : Int)]) := hide (by rw [Sp.rounds_succ, hj])
      have hjl : j < q.next.length := by omega
      have HNX := hide (unhide Hst j i hj hjl)
      obtain ⟨b3, o3, e3, -, hc3⟩ := unhide HN (Sp.oth j) (oth_lt hjl hev)
      injection e3 with e3
      injection e3 with e31 e32
      subst e31 e32
      rw [hj] at hne ⊢
      have hne' : ((j : Int) == (d : Int)) = false := beq_eq_false_iff_ne.2 hne
      have hne2 : ((j : Int) != (d : Int)) = true := by simp [bne, hne']
      have hne3 : ¬ (j : Int) = (d : Int) := hne
      have hjL : (j : Int) < q.next.length := by omega
      have hoj := oth_lt hjl hev
      have hojI : (((Sp.oth j) : Nat) : Int) < q.next.length := by omega
      clear hj hne y0 y1
      have hX := xor_oth ⟨j, by omega⟩
      simp only at hX
      generalize q.next[(Sp.oth j)]'_ = z at *
      generalize Sp.oth j = oj at *
      go_wp2_with (at_builtin; refine wpList_app (w := wr.alloc (.cells #[.int .i64 (j : Int)] 3)) rfl _ _ rfl (w.heap.size + 1) _ _ (Sp.rounds (Sp.behindL q.next) d i) [(j : Int)] rfl rfl (World.ownsRow.alloc (unhide HO) _) (OwnI.ints (own_lit wr 0 _ 1 [(j : Int)] rfl rfl (by omega) (by simp))) (i + 1) (by rw [Sp.rounds_len]; rfl) (by omega) (by simp; omega) ?_)
      intro a6 c6 w6 hown6 hb6 hgr6
      have hb6' : Below (w.heap.size + 1) W1 w6 := (hb.alloc hszr _).trans hb6
      have HO6 := hide hown6
      clear hgr6 hb6 c0 c1 c2 c3 hown6 HO
      obtain ⟨c0, c1, c2, c3, hszr6⟩ := unhide HBX _ hb6'
      have g3 := hc3 _ (unhide HW _ hb6')
      clear hc3
      go_wp2
      go_roundw
      case rel => exact ⟨i + 1, _, rfl, by omega, by omega, by rw [unhide HNX], by rw [unhide HS]; exact unhide HO6, hb6'⟩
      case measure => simp [sliceLen]; omega
    · obtain rfl : i = m := by omega
      rw [unhide Hback]
      have hkk : ((d : Int) == (d : Int)) = true := beq_self_eq_true _
      go_wp2
      go_ret
      exact ⟨_, rfl, own_base (unhide HO) (by omega), unhide HW _ hb⟩
end Go.Proofs.Ytnkkgeammohemab


