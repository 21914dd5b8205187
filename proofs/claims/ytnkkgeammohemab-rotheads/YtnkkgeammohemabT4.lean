/- The walks of the reference's has, Same and of the law's Cap. -/
import Derived.Test.YtnkkgeammohemabW12
namespace Go.Proofs.Ytnkkgeammohemab
open Go Go.RowKit

/-- What a dart holds, of a number. -/
def Sp.capOf (n : Int) : Int :=
  if n % 1099511627776 % 7 = 0 then 0 else if n % 1099511627776 % 7 = 1 then 2147483648 - n % 1099511627776 / 7 % 3
  else if n % 1099511627776 % 7 = 2 then n % 1099511627776 / 7 % 1000000 else n % 1099511627776 / 7 % 9
theorem Sp.capOf_bd (n : Int) : 0 ≤ Sp.capOf n ∧ Sp.capOf n ≤ 2147483648 := by
  unfold Sp.capOf
  split
  · omega
  · split
    · omega
    · split <;> omega
set_option maxRecDepth 100000 in
set_option maxHeartbeats 1000000 in
theorem cap_any (n : Int) (w : World) :
    Calls Try.prog 29 #[.int .i64 n] w fun e w' => e = .returned (.int .i64 (Sp.capOf n)) ∧ w' = w := by
  have HW := hide (within_any n 1099511627776 w (by omega) (by omega))
  have h0 : 0 ≤ n % 1099511627776 := Int.emod_nonneg n (by omega)
  have h1 : n % 1099511627776 < 1099511627776 := Int.emod_lt_of_pos n (by omega)
  have HF : Hid (Sp.capOf n = if n % 1099511627776 % 7 = 0 then 0 else if n % 1099511627776 % 7 = 1 then 2147483648 - n % 1099511627776 / 7 % 3
    else if n % 1099511627776 % 7 = 2 then n % 1099511627776 / 7 % 1000000 else n % 1099511627776 / 7 % 9) := hide rfl
  generalize Sp.capOf n = R at *
  generalize n % 1099511627776 = k at *
  have d7 : k.tdiv 7 = k / 7 := Int.tdiv_eq_ediv_of_nonneg h0
  have q0 : 0 ≤ k / 7 := by omega
  have m3 : (k / 7).tmod 3 = k / 7 % 3 := Int.tmod_eq_emod_of_nonneg q0
  have m6 : (k / 7).tmod 1000000 = k / 7 % 1000000 := Int.tmod_eq_emod_of_nonneg q0
  have m9 : (k / 7).tmod 9 = k / 7 % 9 := Int.tmod_eq_emod_of_nonneg q0
  have HE : Hid ((k % 7 = 0 → R = 0) ∧ (k % 7 ≠ 0 → k % 7 = 1 → R = 2147483648 - (k.tdiv 7).tmod 3) ∧ (k % 7 ≠ 0 → k % 7 ≠ 1 → k % 7 = 2 → R = (k.tdiv 7).tmod 1000000) ∧ (k % 7 ≠ 0 → k % 7 ≠ 1 → k % 7 ≠ 2 → R = (k.tdiv 7).tmod 9)) := by
    refine hide ?_
    rw [d7, m3, m6, m9]
    have h := unhide HF
    refine ⟨fun a => ?_, fun a b => ?_, fun a b c => ?_, fun a b c => ?_⟩
    · rw [h, if_pos a]
    · rw [h, if_neg a, if_pos b]
    · rw [h, if_neg a, if_neg b, if_pos c]
    · rw [h, if_neg a, if_neg b, if_neg c]
  have b3 : 0 ≤ (k.tdiv 7).tmod 3 ∧ (k.tdiv 7).tmod 3 < 3 := by rw [d7, m3]; omega
  obtain ⟨b30, b31⟩ := b3
  have bd : -9223372036854775808 ≤ k.tdiv 7 ∧ k.tdiv 7 ≤ 9223372036854775807 := by rw [d7]; omega
  obtain ⟨bd0, bd1⟩ := bd
  clear HF d7 q0 m3 m6 m9
  by_cases c0 : k % 7 = 0
  · have c0' : (k % 7 == 0) = true := beq_iff_eq.2 c0
    have HF := hide ((unhide HE).1 c0)
    clear HE c0
    go_enter Try.func29, Try.ntmps29
    go_wp2_with fail
    refine (unhide HW).mono ?_
    rintro e w1 ⟨rfl, rfl⟩
    clear HW
    go_wp2
    go_ret
    exact ⟨by rw [unhide HF]; rfl, rfl⟩
  · have c0' : (k % 7 == 0) = false := beq_eq_false_iff_ne.2 c0
    by_cases c1 : k % 7 = 1
    · have c1' : (k % 7 == 1) = true := beq_iff_eq.2 c1
      have HF := hide ((unhide HE).2.1 c0 c1)
      clear HE c0 c1
      go_enter Try.func29, Try.ntmps29
      go_wp2_with fail
      refine (unhide HW).mono ?_
      rintro e w1 ⟨rfl, rfl⟩
      clear HW
      go_wp2
      go_ret
      exact ⟨by rw [unhide HF]; rfl, rfl⟩
    · have c1' : (k % 7 == 1) = false := beq_eq_false_iff_ne.2 c1
      by_cases c2 : k % 7 = 2
      · have c2' : (k % 7 == 2) = true := beq_iff_eq.2 c2
        have HF := hide ((unhide HE).2.2.1 c0 c1 c2)
        clear HE c0 c1 c2
        go_enter Try.func29, Try.ntmps29
        go_wp2_with fail
        refine (unhide HW).mono ?_
        rintro e w1 ⟨rfl, rfl⟩
        clear HW
        go_wp2
        go_ret
        exact ⟨by rw [unhide HF]; rfl, rfl⟩
      · have c2' : (k % 7 == 2) = false := beq_eq_false_iff_ne.2 c2
        have HF := hide ((unhide HE).2.2.2 c0 c1 c2)
        clear HE c0 c1 c2
        go_enter Try.func29, Try.ntmps29
        go_wp2_with fail
        refine (unhide HW).mono ?_
        rintro e w1 ⟨rfl, rfl⟩
        clear HW
        go_wp2
        go_ret
        exact ⟨by rw [unhide HF]; rfl, rfl⟩
/-- A net's value, its lists wherever they lie. -/
structure NetI (w : World) (v : Value) (q : Sp.Net) (tv nv cv : Value) : Prop where
  val : v = .agg #[.int .i64 q.n, tv, nv, cv]
  tail : Ints w tv q.tail
  next : Ints w nv q.next
  cap : Ints w cv q.cap
theorem NetI.below {w w' : World} {v : Value} {q : Sp.Net} {tv nv cv : Value} (h : NetI w v q tv nv cv) (hb : Below w.heap.size w w') : NetI w' v q tv nv cv :=
  ⟨h.val, h.tail.below hb, h.next.below hb, h.cap.below hb⟩
theorem NetV.netI {w : World} {B : Nat} {v : Value} {q : Sp.Net} {tv nv cv : Value} (h : NetV w B v q tv nv cv) : NetI w v q tv nv cv := ⟨h.val, h.tail.ints, h.next.ints, h.cap.ints⟩
/-- A net's block: its four cells. -/
theorem net_new (w : World) (a b c d : Value) (t : TypeId) :
    (w.alloc (.cells #[a, b, c, d] t (0, 0))).cell? ⟨w.heap.size, 0, none⟩ = some a ∧ (w.alloc (.cells #[a, b, c, d] t (0, 0))).cell? ⟨w.heap.size, 1, none⟩ = some b ∧ (w.alloc (.cells #[a, b, c, d] t (0, 0))).cell? ⟨w.heap.size, 2, none⟩ = some c ∧ (w.alloc (.cells #[a, b, c, d] t (0, 0))).cell? ⟨w.heap.size, 3, none⟩ = some d := by
  have h := heap_alloc_new w (.cells #[a, b, c, d] t (0, 0))
  refine ⟨?_, ?_, ?_, ?_⟩ <;> rw [cell_of_row _ _ _ _ _ _ h] <;> rfl
end Go.Proofs.Ytnkkgeammohemab


