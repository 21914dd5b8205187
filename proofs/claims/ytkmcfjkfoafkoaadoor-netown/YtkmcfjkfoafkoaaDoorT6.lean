/- The walk of net.round. -/
import Derived.Test.YtkmcfjkfoafkoaaDoorT5
namespace Go.Proofs.YtkmcfjkfoafkoaaDoor
open Go Go.RowKit

/-- The dart that comes k behind d. -/
def Sp.nth (nx : List Int) (d : Int) : Nat → Int
  | 0 => d
  | k + 1 => nx.getD (nth nx d k).toNat 0
/-- d, and those behind it: m in all. -/
def Sp.rounds (nx : List Int) (d : Int) (m : Nat) : List Int := (List.range m).map (Sp.nth nx d)
theorem Sp.rounds_succ (nx : List Int) (d : Int) (m : Nat) : Sp.rounds nx d (m + 1) = Sp.rounds nx d m ++ [Sp.nth nx d m] := by simp [Sp.rounds, List.range_succ]
theorem Sp.rounds_len (nx : List Int) (d : Int) (m : Nat) : (Sp.rounds nx d m).length = m := by simp [Sp.rounds]
theorem Sp.nth_bd {nx : List Int} {n : Nat} (hl : nx.length = n) (hx : ∀ x ∈ nx, 0 ≤ x ∧ x < n) {d : Int} (h0 : 0 ≤ d) (h1 : d < n) (k : Nat) : 0 ≤ Sp.nth nx d k ∧ Sp.nth nx d k < n := by
  induction k with
  | zero => exact ⟨h0, h1⟩
  | succ k ih => exact hx _ (Sp.getD_mem (by rw [hl]; omega))
set_option maxRecDepth 100000 in
set_option maxHeartbeats 2000000 in
theorem round_any (q : Sp.Net) (v tv nv cv : Value) (d : Nat) (m : Nat) (w : World) (hv : NetI w v q tv nv cv) (hq : Sp.Lists q) (hx : ∀ x ∈ q.next, 0 ≤ x ∧ x < q.tail.length) (hd : d < q.tail.length) (hm : Sp.countOf q.tail (q.tail.getD d 0) = m) (hm1 : 1 ≤ m) :
    Calls Tryd.prog 38 #[v, .int .i64 d] w fun e w' => ∃ u, e = .returned u ∧ OwnI w' w.heap.size u (Sp.rounds q.next d m) ∧ Below w.heap.size w w' := by
  obtain ⟨rfl, h1, h2, h3⟩ := hv
  have htl := hq.tl
  have hnl := hq.nl
  have hml : m ≤ 240 := by have := (Sp.countOf_bd q.tail (q.tail.getD d 0)).2; omega
  have Hbd := hide (fun k => Sp.nth_bd hnl hx (d := d) (by omega) (by omega) k)
  clear hx hq
  have hb0 : ∀ o, Below w.heap.size w (w.alloc o) := fun o => (Below.refl _ w).alloc (Nat.le_refl _) o
  obtain ⟨x, hxd⟩ : ∃ x, x = q.tail.getD d 0 := ⟨_, rfl⟩
  rw [← hxd] at hm
  have HT := hide (fun w' (hb : Below w.heap.size w w') => h1.cellAt hb d hd)
  have HCN := hide (fun w' (hb : Below w.heap.size w w') => h1.below hb)
  have HN := hide (fun w' (hb : Below w.heap.size w w') (k : Nat) (hk : k < q.next.length) => h2.cellAt hb k hk)
  obtain ⟨ta, tc, rfl, htc, htm⟩ := h1.form
  obtain ⟨na, nc, rfl, hnc, hnm⟩ := h2.form
  obtain ⟨ca, cc, rfl, hcc, hcm⟩ := h3.form
  clear h1 h2 h3
  rw [hnl]
  obtain ⟨i0, hi, hz0, hz1, hz2⟩ := info_parts info3
  have Hi := hide hi; clear hi
  have Hz0 := hide hz0; clear hz0
  have Hz1 := hide hz1; clear hz1
  have Hz2 := hide hz2; clear hz2
  obtain ⟨bx, hbx⟩ : ∃ bx : Obj, bx = .cells #[.int .i64 q.n, .slice ta q.tail.length tc, .slice na q.tail.length nc, .slice ca q.cap.length cc] 34 := ⟨_, rfl⟩
  have HBX : Hid (∀ w', Below (w.heap.size + 1) (w.alloc bx) w' → w'.cell? ⟨w.heap.size, 1, none⟩ = some (.slice ta q.tail.length tc) ∧ w'.cell? ⟨w.heap.size, 2, none⟩ = some (.slice na q.tail.length nc)) := by
    refine hide fun w' hb => ?_
    subst hbx
    obtain ⟨-, k1, k2, -⟩ := net_new w (.int .i64 q.n) (.slice ta q.tail.length tc) (.slice na q.tail.length nc) (.slice ca q.cap.length cc) 34
    exact ⟨(hb.cell (by show w.heap.size < _; omega)).trans k1, (hb.cell (by show w.heap.size < _; omega)).trans k2⟩
  have hB1 : ∀ o, Below (w.heap.size + 1) (w.alloc bx) ((w.alloc bx).alloc o) := fun o => (Below.refl _ _).alloc (by simp) o
  have HB2 : Hid (∀ w', Below (w.heap.size + 1) (w.alloc bx) w' → Below w.heap.size w w') := hide fun w' hb => (hb0 bx).trans (hb.mono (by omega))
  obtain ⟨b, u, c, e1, e2, -⟩ := unhide HT _ (unhide HB2 _ (hB1 (.cells #[.int .i64 d] 3)))
  have e2' : ((w.alloc bx).alloc (.cells #[.int .i64 d] 3)).cell? ⟨b, u + d, none⟩ = some (.int .i64 x) := by rw [e2, hxd, Sp.getD_eq _ _ hd]
  injection e1 with e1 _ e1c
  subst e1 e1c
  obtain ⟨k1, k2⟩ := unhide HBX _ (hB1 (.cells #[.int .i64 d] 3))
  have hd' : (d : Int) < q.tail.length := by omega
  have HC := hide (unhide HCN _ (unhide HB2 _ (hB1 (.cells #[.int .i64 d] 3))))
  have HO : Hid (OwnI ((w.alloc bx).alloc (.cells #[.int .i64 d] 3)) (w.heap.size + 1) (.slice (some ⟨w.heap.size + 1, 0, none⟩) 1 1) (Sp.rounds q.next d 1)) := by
    refine hide ⟨rfl, .inr ⟨w.heap.size + 1, 1, #[.int .i64 d], rfl, by omega, ?_, Nat.le_refl _, by decide, rfl, rfl⟩⟩
    have h := heap_alloc_new (w.alloc bx) (.cells #[.int .i64 d] 3)
    simp only [World.size_alloc] at h
    exact h
  clear e2 hxd HT HCN hb0
  have Hnl := hide hnl; clear hnl
  subst hbx
  go_enter Tryd.func38, Tryd.ntmps38
  go_wp2
  go_quiet ((go_at_call 48; exact Calls.quiet_of_same (countOf_any _ _ _ _ (unhide HC) (by omega))))
  rw [hm]
  clear e2' k1 k2
  have HO' := hide (own_dn (w1 := (((w.alloc (.cells #[.int .i64 q.n, .slice (some ⟨b, u, none⟩) q.tail.length tc, .slice na q.tail.length nc, .slice ca q.cap.length cc] 34)).alloc (.cells #[.int .i64 d] 3)).drewN nq)) (unhide HO) ⟨nq, rfl⟩)
  have HB' := hide (below_dn (hB1 (.cells #[.int .i64 d] 3)) nq)
  clear HO hB1 HC
  generalize hW1 : w.alloc (.cells #[.int .i64 q.n, .slice (some ⟨b, u, none⟩) q.tail.length tc, .slice na q.tail.length nc, .slice ca q.cap.length cc] 34) = W1 at *
  have hWs : W1.heap.size = w.heap.size + 1 := by rw [← hW1]; simp
  clear hW1
  have hm2 : (1 : Int) ≤ m := by omega
  go_wp2
  go_loopw [1, 5, 17] (fun dv lv i wr => ∃ k : Nat, k + 1 ≤ m ∧ i = .int .i64 k ∧ dv = .int .i64 (Sp.nth q.next d k) ∧ OwnI wr (w.heap.size + 1) lv (Sp.rounds q.next d (k + 1)) ∧ Below (w.heap.size + 1) W1 wr) (fun _ _ i _ => m - (intOf i).toNat)
  case atStart => exact ⟨0, by omega, rfl, rfl, unhide HO', unhide HB'⟩
  case round =>
    clear HO' HB'
    obtain ⟨k, hk, rfl, rfl, hown, hb⟩ := hrel
    by_cases hlt : k + 1 < m
    · have hlt' : (k : Int) < (m : Int) - 1 := by omega
      obtain ⟨-, c2⟩ := unhide HBX _ hb
      obtain ⟨y0, y1⟩ := unhide Hbd k
      obtain ⟨j, hj⟩ : ∃ j : Nat, Sp.nth q.next d k = j := ⟨(Sp.nth q.next d k).toNat, by omega⟩
      have HS : Hid (Sp.rounds q.next d (k + 1 + 1) = Sp.rounds q.next d (k + 1) ++ [Sp.nth q.next d (k + 1)]) := hide (Sp.rounds_succ _ _ _)
      have hj2 : j < q.next.length := by rw [unhide Hnl]; omega
      have hnx : Sp.nth q.next d (k + 1) = q.next[j] := by
        show q.next.getD (Sp.nth q.next d k).toNat 0 = _
        rw [hj, Int.toNat_natCast, Sp.getD_eq _ _ hj2]
      obtain ⟨b2, u2, c3, e1, e2, hlt2⟩ := unhide HN _ (unhide HB2 _ hb) j hj2
      rw [← hnx] at e2
      injection e1 with e1 _ e1c
      subst e1 e1c
      have hj3 : (j : Int) < q.tail.length := by omega
      rw [hj]
      clear hj hnx y0 y1
      have HO := hide hown; have hs1 := hb.size; clear hown
      rw [hWs] at hs1
      have hlen := Sp.rounds_len q.next d (k + 1)
      obtain ⟨y, hy⟩ : ∃ y, y = Sp.nth q.next d (k + 1) := ⟨_, rfl⟩
      rw [← hy] at e2 HS
      have Hy := hide hy; clear hy
      go_wp2_with (first
        | (at_builtin; refine wpList_append_own _ rfl _ _ 22 rfl (w.heap.size + 1) 3 i0 (.int .i64 0) 1 8 Tryd.underlying22 (unhide Hi) (unhide Hz0) (unhide Hz1) (unhide Hz2) rfl (by decide) _ _ _ rfl ((unhide HO).alloc _) ⟨wr.heap.size, 0, none⟩ 1 1 [.int .i64 y] rfl rfl (cell_one_new _ _ _) (one_int _) (by unfold maxLen; omega) (by omega) (by simp; omega) ?_)
        | go_in)
      intro v' w3 hown' hgrow _
      have R1 := own_push (x := y) (unhide HO) hb (by rw [hlen]; exact hown') hgrow (by omega)
      rw [← unhide HS] at R1
      clear hown' hgrow HO hb e2 c2
      go_wp2
      go_roundw
      case rel => exact ⟨k + 1, by omega, by go_num, by rw [unhide Hy], R1.1, R1.2⟩
      case measure => simp [intOf]; omega
    · obtain rfl : m = k + 1 := by omega
      go_wp2
      go_ret
      exact ⟨_, rfl, own_mono hown (by omega), unhide HB2 _ hb⟩
end Go.Proofs.YtkmcfjkfoafkoaaDoor
