/- The walks of net.walkable and net.round at a net. -/
import Derived.Test.YtkmcfjkfoafkoaaDoorT4
import Derived.Test.YtkmcfjkfoafkoaaDoorT3
namespace Go.Proofs.YtkmcfjkfoafkoaaDoor
open Go Go.RowKit

/-- What a list's cell holds, in whatever world behind. -/
theorem Ints.cellAt {w w' : World} {v : Value} {l : List Int} (h : Ints w v l) (hb : Below w.heap.size w w') (k : Nat) (hk : k < l.length) :
    ∃ b o c, v = .slice (some ⟨b, o, none⟩) l.length c ∧ w'.cell? ⟨b, o + k, none⟩ = some (.int .i64 l[k]) ∧ b < w.heap.size := by
  obtain ⟨b, o, c, hv, -, -, hlt, hc⟩ := h.at (by omega)
  exact ⟨b, o, c, hv, (hb.cell (by exact hlt)).trans (hc k hk), hlt⟩
theorem Ints.form {w : World} {v : Value} {l : List Int} (h : Ints w v l) : ∃ a c, v = .slice a l.length c ∧ l.length ≤ c ∧ c ≤ maxLen := by
  obtain ⟨a, c, hv, hc, hm, -⟩ := h
  exact ⟨a, c, hv, hc, hm⟩
set_option maxRecDepth 100000 in
set_option maxHeartbeats 2000000 in
theorem walkable_any (q : Sp.Net) (v tv nv cv : Value) (w : World) (hv : NetI w v q tv nv cv) (hq : Sp.Lists q) (hx : ∀ x ∈ q.next, 0 ≤ x ∧ x < q.tail.length) :
    Calls Tryd.prog 37 #[v] w fun e w' => e = .returned (.bool true) ∧ Below w.heap.size w w' := by
  obtain ⟨rfl, h1, h2, h3⟩ := hv
  have hn0 := hq.n0
  have hn1 := hq.n1
  have hev := hq.ev
  have htl := hq.tl
  have hnl := hq.nl
  have hcl := hq.cl
  have Htb := hide hq.tb
  have Hx := hide hx; clear hx hq
  have hb0 : ∀ o, Below w.heap.size w (w.alloc o) := fun o => (Below.refl _ w).alloc (Nat.le_refl _) o
  have HC : Hid (∀ o (k : Nat) (hk : k < q.tail.length) (hk2 : k < q.next.length), ∃ b u c, tv = .slice (some ⟨b, u, none⟩) q.tail.length c ∧ (w.alloc o).cell? ⟨b, u + k, none⟩ = some (.int .i64 q.tail[k]) ∧ ∃ b' u' c', nv = .slice (some ⟨b', u', none⟩) q.next.length c' ∧ (w.alloc o).cell? ⟨b', u' + k, none⟩ = some (.int .i64 q.next[k])) := by
    refine hide ?_
    intro o k hk hk2
    obtain ⟨b, u, c, e1, e2, -⟩ := h1.cellAt (hb0 o) k hk
    obtain ⟨b', u', c', e3, e4, -⟩ := h2.cellAt (hb0 o) k hk2
    exact ⟨b, u, c, e1, e2, b', u', c', e3, e4⟩
  obtain ⟨ta, tc, rfl, htc, htm⟩ := h1.form
  obtain ⟨na, nc, rfl, hnc, hnm⟩ := h2.form
  obtain ⟨ca, cc, rfl, hcc, hcm⟩ := h3.form
  rw [hnl] at hnc
  rw [hcl] at hcc
  rw [hnl, hcl]
  clear h1 h2 h3
  have hev' : (((q.tail.length : Int) % 2) == 0) = true := beq_iff_eq.2 (by omega)
  have g1 : ¬ q.n < 0 := by omega
  have g2 : ¬ 60 < q.n := by omega
  have g3 : ¬ 240 < (q.tail.length : Int) := by omega
  obtain ⟨k0, k1, k2, k3⟩ := net_new w (.int .i64 q.n) (.slice ta q.tail.length tc) (.slice na q.tail.length nc) (.slice ca q.tail.length cc) 34
  go_enter Tryd.func37, Tryd.ntmps37
  go_wp2
  go_loopw [38] (fun i wr => ∃ k : Nat, k ≤ q.tail.length ∧ i = .int .i64 k ∧ ∃ d, wr = (w.alloc (.cells #[.int .i64 q.n, .slice ta q.tail.length tc, .slice na q.tail.length nc, .slice ca q.tail.length cc] 34)).drewN d) (fun i _ => q.tail.length - (intOf i).toNat)
  case atStart => exact ⟨0, by omega, rfl, 0, rfl⟩
  case round =>
    obtain ⟨k, hk, rfl, d, rfl⟩ := hrel
    by_cases hlt : k < q.tail.length
    · have hlt' : (k : Int) < q.tail.length := by omega
      obtain ⟨b, u, c, e1, e2, b', u', c', e3, e4⟩ := unhide HC (.cells #[.int .i64 q.n, .slice ta q.tail.length tc, .slice na q.tail.length nc, .slice ca q.tail.length cc] 34) k hlt (by omega)
      have t1 := unhide Htb q.tail[k] (List.getElem_mem hlt)
      have t2 := unhide Hx q.next[k] (List.getElem_mem (by omega))
      obtain ⟨t10, t11⟩ := t1
      obtain ⟨t20, t21⟩ := t2
      injection e1 with e1 _ e1c
      injection e3 with e3 _ e3c
      subst e1 e3 e1c e3c
      generalize q.tail[k] = x at *
      generalize q.next[k] = y at *
      have l1 : ¬ x < 0 := by omega
      have l2 : ¬ q.n ≤ x := by omega
      have l3 : ¬ y < 0 := by omega
      have l4 : ¬ (q.tail.length : Int) ≤ y := by omega
      go_wp2
      go_quiet (fail)
      go_wp2
      go_roundw
      case rel => exact ⟨k + 1, by omega, by go_num, _, rfl⟩
      case measure => simp [intOf]; omega
    · go_wp2
      go_ret
      exact ⟨rfl, below_dn (hb0 _) _⟩
end Go.Proofs.YtkmcfjkfoafkoaaDoor
