/- The walks of package rot: other, Head. -/
import Derived.Test.YtnkkgeammohemabS2
namespace Go.Proofs.Ytnkkgeammohemab
open Go Go.RowKit

/-- A dart's other. -/
def Sp.oth (d : Nat) : Nat := if d % 2 = 0 then d + 1 else d - 1
theorem xor_oth : ∀ d : Fin 1001, bits .xor .i64 ((d.val : Nat) : Int) 1 = ((Sp.oth d.val : Nat) : Int) := by decide +kernel
theorem oth_lt {d n : Nat} (h : d < n) (he : n % 2 = 0) : Sp.oth d < n := by unfold Sp.oth; split <;> omega
theorem oth_oth (d : Nat) : Sp.oth (Sp.oth d) = d := by unfold Sp.oth; split <;> split <;> omega
set_option maxRecDepth 100000 in
set_option maxHeartbeats 400000 in
theorem other_any (d : Nat) (w : World) (hd : d ≤ 1000) :
    Calls Try.prog 31 #[.int .i64 (d : Int)] w fun e w' => e = .returned (.int .i64 ((Sp.oth d : Nat) : Int)) ∧ w' = w := by
  have HX := hide (xor_oth ⟨d, by omega⟩)
  go_enter Try.func31, Try.ntmps31
  go_wp2
  go_ret
  refine ⟨?_, rfl⟩
  show Ending.returned (.int .i64 (bits .xor .i64 (d : Int) 1)) = _
  rw [unhide HX]
set_option maxRecDepth 100000 in
set_option maxHeartbeats 400000 in
theorem head_any' (q : Sp.Net) (v tv nv cv : Value) (d : Nat) (w : World) (hv : NetI w v q tv nv cv) (hd : d < q.tail.length) (hev : q.tail.length % 2 = 0) (h240 : q.tail.length ≤ 240) :
    Calls Try.prog 13 #[v, .int .i64 (d : Int)] w fun e w' => e = .returned (.int .i64 (q.tail.getD (Sp.oth d) 0)) ∧ Below w.heap.size w w' := by
  obtain ⟨rfl, h1, h2, h3⟩ := hv
  obtain ⟨ta, tc, rfl, htc, htm, HT⟩ := h1.all
  obtain ⟨na, nc, rfl, -, -⟩ := h2.form
  obtain ⟨ca, cc, rfl, -, -⟩ := h3.form
  clear h1 h2 h3
  have ho := oth_lt hd hev
  have HO := hide (fun w' => other_any d w' (by omega))
  obtain ⟨b, o, rfl, -, hcx⟩ := unhide HT _ ho
  have HF : Hid (q.tail.getD (Sp.oth d) 0 = q.tail[Sp.oth d]) := hide (Sp.getD_eq _ _ ho)
  have hb : ∀ ob, Below w.heap.size w (w.alloc ob) := fun ob => (Below.refl _ w).alloc (Nat.le_refl _) ob
  have HB := hide hb
  generalize q.tail[Sp.oth d] = z at *
  have g := fun ob => hcx _ (hb ob)
  generalize q.tail.getD (Sp.oth d) 0 = R at *
  have hd0 : decide ((d : Int) < 0) = false := decide_eq_false (by omega)
  generalize Sp.oth d = od at *
  have ho' : (od : Int) < q.tail.length := by omega
  have ho2 : decide ((q.tail.length : Int) ≤ (od : Int)) = false := decide_eq_false (by omega)
  clear hcx hb HT
  go_enter Try.func13, Try.ntmps13
  go_wp2
  go_quiet ((go_at_call 31; exact Calls.quiet_of_same (unhide HO _)))
  go_wp2_with fail
  have HBz := hide (below_dn (unhide HB (.cells #[.int .i64 q.n, .slice (some ⟨b, o, none⟩) q.tail.length tc, .slice na q.next.length nc, .slice ca q.cap.length cc] 25)) nq)
  have k1 : ((w.alloc (.cells #[.int .i64 q.n, .slice (some ⟨b, o, none⟩) q.tail.length tc, .slice na q.next.length nc, .slice ca q.cap.length cc] 25)).drewN nq).cell? ⟨w.heap.size, 1, none⟩ = some (.slice (some ⟨b, o, none⟩) q.tail.length tc) := (net_new w (.int .i64 q.n) (.slice (some ⟨b, o, none⟩) q.tail.length tc) (.slice na q.next.length nc) (.slice ca q.cap.length cc) 25).2.1
  have k2 : ((w.alloc (.cells #[.int .i64 q.n, .slice (some ⟨b, o, none⟩) q.tail.length tc, .slice na q.next.length nc, .slice ca q.cap.length cc] 25)).drewN nq).cell? ⟨b, o + od, none⟩ = some (.int .i64 z) := g _
  clear g
  generalize (w.alloc (.cells #[.int .i64 q.n, .slice (some ⟨b, o, none⟩) q.tail.length tc, .slice na q.next.length nc, .slice ca q.cap.length cc] 25)).drewN nq = wz at *
  go_wp2
  go_quiet ((go_at_call 31; exact Calls.quiet_of_same (unhide HO _)))
  go_wp2
  go_ret
  exact ⟨by rw [unhide HF]; rfl, below_dn (unhide HBz) _⟩
end Go.Proofs.Ytnkkgeammohemab


