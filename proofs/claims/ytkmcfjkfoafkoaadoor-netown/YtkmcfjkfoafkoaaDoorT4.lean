/- The walks of the reference's has, Same and of the law's Cap. -/
import Derived.Test.YtkmcfjkfoafkoaaDoorR6
import Derived.Test.YtkmcfjkfoafkoaaDoorW14
namespace Go.Proofs.YtkmcfjkfoafkoaaDoor
open Go Go.RowKit

set_option maxRecDepth 100000 in
set_option maxHeartbeats 1000000 in
/-- Is a number in a row? -/
theorem has_any (L : List Int) (v : Value) (d : Int) (w : World) (hv : Ints w v L) (hn : L.length ≤ 1000001) :
    Calls Tryd.prog 45 #[v, .int .i64 d] w fun e w' => e = .returned (.bool (decide (d ∈ L))) ∧ w' = w := by
  obtain ⟨a, c, rfl, hc, hm, hcell⟩ := hv
  have Hc := hide hcell; clear hcell
  obtain ⟨R, hR⟩ : ∃ R, R = decide (d ∈ L) := ⟨_, rfl⟩
  rw [← hR]
  have HR := hide hR; clear hR
  go_enter Tryd.func45, Tryd.ntmps45
  go_wp2
  go_loopw [5] (fun i wr => ∃ k : Nat, k ≤ L.length ∧ i = .int .i64 k ∧ Hid (d ∉ L.take k) ∧ wr = w) (fun i _ => L.length - (intOf i).toNat)
  case atStart => exact ⟨0, by omega, rfl, hide (by simp), rfl⟩
  case round =>
    obtain ⟨k, hk, rfl, he, rfl⟩ := hrel
    by_cases hlt : k < L.length
    · obtain ⟨b, o, rfl, hbl, hcx⟩ := unhide Hc k hlt
      have T1 := hide (List.take_succ_eq_append_getElem hlt)
      have HM := hide (List.getElem_mem hlt)
      generalize L[k] = x at *
      by_cases hxy : x = d
      · have hxy' : (x == d) = true := beq_iff_eq.2 hxy
        have HF : Hid (R = true) := hide (by rw [unhide HR]; exact decide_eq_true (hxy ▸ unhide HM))
        have Hxy := hide hxy; clear hxy
        go_wp2
        go_ret
        exact ⟨by rw [unhide HF]; rfl, rfl⟩
      · have hxy' : (x == d) = false := beq_eq_false_iff_ne.2 hxy
        have HN : Hid (d ∉ L.take (k + 1)) := hide (by
          rw [unhide T1, List.mem_append]
          rintro (h | h)
          · exact unhide he h
          · exact hxy (List.mem_singleton.1 h).symm)
        have Hxy := hide hxy; clear hxy
        go_wp2
        go_roundw
        case rel => exact ⟨k + 1, by omega, by go_num, HN, trivial⟩
        case measure => simp [intOf]; omega
    · have HF : Hid (R = false) := by
        have h1 := unhide he
        rw [List.take_of_length_le (by omega)] at h1
        exact hide (by rw [unhide HR]; exact decide_eq_false h1)
      go_wp2
      go_ret
      exact ⟨by rw [unhide HF]; rfl, rfl⟩

/-- What a dart holds, of a number. -/
def Sp.capOf (n : Int) : Int :=
  if n % 1099511627776 % 7 = 0 then 0 else if n % 1099511627776 % 7 = 1 then 2147483648 - n % 1099511627776 / 7 % 3
  else if n % 1099511627776 % 7 = 2 then n % 1099511627776 / 7 % 1000000 else n % 1099511627776 / 7 % 9
theorem Sp.capOf_bd (n : Int) : 0 ≤ Sp.capOf n ∧ Sp.capOf n ≤ 2147483648 := by
  unfold Sp.capOf
  split
  · omega
  · split
    · omega
    · split <;> omega
set_option maxRecDepth 100000 in
set_option maxHeartbeats 1000000 in
theorem cap_any (n : Int) (w : World) :
    Calls Tryd.prog 28 #[.int .i64 n] w fun e w' => e = .returned (.int .i64 (Sp.capOf n)) ∧ w' = w := by
  have HW := hide (within_any n 1099511627776 w (by omega) (by omega))
  have h0 : 0 ≤ n % 1099511627776 := Int.emod_nonneg n (by omega)
  have h1 : n % 1099511627776 < 1099511627776 := Int.emod_lt_of_pos n (by omega)
  have HF : Hid (Sp.capOf n = if n % 1099511627776 % 7 = 0 then 0 else if n % 1099511627776 % 7 = 1 then 2147483648 - n % 1099511627776 / 7 % 3
    else if n % 1099511627776 % 7 = 2 then n % 1099511627776 / 7 % 1000000 else n % 1099511627776 / 7 % 9) := hide rfl
  generalize Sp.capOf n = R at *
  generalize n % 1099511627776 = k at *
  have d7 : k.tdiv 7 = k / 7 := Int.tdiv_eq_ediv_of_nonneg h0
  have q0 : 0 ≤ k / 7 := by omega
  have m3 : (k / 7).tmod 3 = k / 7 % 3 := Int.tmod_eq_emod_of_nonneg q0
  have m6 : (k / 7).tmod 1000000 = k / 7 % 1000000 := Int.tmod_eq_emod_of_nonneg q0
  have m9 : (k / 7).tmod 9 = k / 7 % 9 := Int.tmod_eq_emod_of_nonneg q0
  have HE : Hid ((k % 7 = 0 → R = 0) ∧ (k % 7 ≠ 0 → k % 7 = 1 → R = 2147483648 - (k.tdiv 7).tmod 3) ∧ (k % 7 ≠ 0 → k % 7 ≠ 1 → k % 7 = 2 → R = (k.tdiv 7).tmod 1000000) ∧ (k % 7 ≠ 0 → k % 7 ≠ 1 → k % 7 ≠ 2 → R = (k.tdiv 7).tmod 9)) := by
    refine hide ?_
    rw [d7, m3, m6, m9]
    have h := unhide HF
    refine ⟨fun a => ?_, fun a b => ?_, fun a b c => ?_, fun a b c => ?_⟩
    · rw [h, if_pos a]
    · rw [h, if_neg a, if_pos b]
    · rw [h, if_neg a, if_neg b, if_pos c]
    · rw [h, if_neg a, if_neg b, if_neg c]
  have b3 : 0 ≤ (k.tdiv 7).tmod 3 ∧ (k.tdiv 7).tmod 3 < 3 := by rw [d7, m3]; omega
  obtain ⟨b30, b31⟩ := b3
  have bd : -9223372036854775808 ≤ k.tdiv 7 ∧ k.tdiv 7 ≤ 9223372036854775807 := by rw [d7]; omega
  obtain ⟨bd0, bd1⟩ := bd
  clear HF d7 q0 m3 m6 m9
  by_cases c0 : k % 7 = 0
  · have c0' : (k % 7 == 0) = true := beq_iff_eq.2 c0
    have HF := hide ((unhide HE).1 c0)
    clear HE c0
    go_enter Tryd.func28, Tryd.ntmps28
    go_wp2_with fail
    refine (unhide HW).mono ?_
    rintro e w1 ⟨rfl, rfl⟩
    clear HW
    go_wp2
    go_ret
    exact ⟨by rw [unhide HF]; rfl, rfl⟩
  · have c0' : (k % 7 == 0) = false := beq_eq_false_iff_ne.2 c0
    by_cases c1 : k % 7 = 1
    · have c1' : (k % 7 == 1) = true := beq_iff_eq.2 c1
      have HF := hide ((unhide HE).2.1 c0 c1)
      clear HE c0 c1
      go_enter Tryd.func28, Tryd.ntmps28
      go_wp2_with fail
      refine (unhide HW).mono ?_
      rintro e w1 ⟨rfl, rfl⟩
      clear HW
      go_wp2
      go_ret
      exact ⟨by rw [unhide HF]; rfl, rfl⟩
    · have c1' : (k % 7 == 1) = false := beq_eq_false_iff_ne.2 c1
      by_cases c2 : k % 7 = 2
      · have c2' : (k % 7 == 2) = true := beq_iff_eq.2 c2
        have HF := hide ((unhide HE).2.2.1 c0 c1 c2)
        clear HE c0 c1 c2
        go_enter Tryd.func28, Tryd.ntmps28
        go_wp2_with fail
        refine (unhide HW).mono ?_
        rintro e w1 ⟨rfl, rfl⟩
        clear HW
        go_wp2
        go_ret
        exact ⟨by rw [unhide HF]; rfl, rfl⟩
      · have c2' : (k % 7 == 2) = false := beq_eq_false_iff_ne.2 c2
        have HF := hide ((unhide HE).2.2.2 c0 c1 c2)
        clear HE c0 c1 c2
        go_enter Tryd.func28, Tryd.ntmps28
        go_wp2_with fail
        refine (unhide HW).mono ?_
        rintro e w1 ⟨rfl, rfl⟩
        clear HW
        go_wp2
        go_ret
        exact ⟨by rw [unhide HF]; rfl, rfl⟩
/-- A net's value, its lists wherever they lie. -/
structure NetI (w : World) (v : Value) (q : Sp.Net) (tv nv cv : Value) : Prop where
  val : v = .agg #[.int .i64 q.n, tv, nv, cv]
  tail : Ints w tv q.tail
  next : Ints w nv q.next
  cap : Ints w cv q.cap
theorem NetI.below {w w' : World} {v : Value} {q : Sp.Net} {tv nv cv : Value} (h : NetI w v q tv nv cv) (hb : Below w.heap.size w w') : NetI w' v q tv nv cv :=
  ⟨h.val, h.tail.below hb, h.next.below hb, h.cap.below hb⟩
theorem NetV.netI {w : World} {B : Nat} {v : Value} {q : Sp.Net} {tv nv cv : Value} (h : NetV w B v q tv nv cv) : NetI w v q tv nv cv := ⟨h.val, h.tail.ints, h.next.ints, h.cap.ints⟩
/-- A net's block: its four cells. -/
theorem net_new (w : World) (a b c d : Value) (t : TypeId) :
    (w.alloc (.cells #[a, b, c, d] t (0, 0))).cell? ⟨w.heap.size, 0, none⟩ = some a ∧ (w.alloc (.cells #[a, b, c, d] t (0, 0))).cell? ⟨w.heap.size, 1, none⟩ = some b ∧ (w.alloc (.cells #[a, b, c, d] t (0, 0))).cell? ⟨w.heap.size, 2, none⟩ = some c ∧ (w.alloc (.cells #[a, b, c, d] t (0, 0))).cell? ⟨w.heap.size, 3, none⟩ = some d := by
  have h := heap_alloc_new w (.cells #[a, b, c, d] t (0, 0))
  refine ⟨?_, ?_, ?_, ?_⟩ <;> rw [cell_of_row _ _ _ _ _ _ h] <;> rfl
theorem two_nets (w w' : World) (a b c d a' b' c' d' : Value) (t : TypeId) (hb : Below ((w.alloc (.cells #[a, b, c, d] t (0, 0))).alloc (.cells #[a', b', c', d'] t (0, 0))).heap.size ((w.alloc (.cells #[a, b, c, d] t (0, 0))).alloc (.cells #[a', b', c', d'] t (0, 0))) w') :
    w'.cell? ⟨w.heap.size, 2, none⟩ = some c ∧ w'.cell? ⟨w.heap.size, 3, none⟩ = some d ∧ w'.cell? ⟨w.heap.size + 1, 2, none⟩ = some c' ∧ w'.cell? ⟨w.heap.size + 1, 3, none⟩ = some d' ∧ w.heap.size + 1 < w'.heap.size ∧ Below w.heap.size w w' := by
  have h1 := net_new w a b c d t
  have h2 := net_new (w.alloc (.cells #[a, b, c, d] t (0, 0))) a' b' c' d' t
  have hz : (w.alloc (.cells #[a, b, c, d] t (0, 0))).heap.size = w.heap.size + 1 := by simp
  have hz2 : ((w.alloc (.cells #[a, b, c, d] t (0, 0))).alloc (.cells #[a', b', c', d'] t (0, 0))).heap.size = w.heap.size + 2 := by simp
  have hB1 : Below (w.alloc (.cells #[a, b, c, d] t (0, 0))).heap.size (w.alloc (.cells #[a, b, c, d] t (0, 0))) ((w.alloc (.cells #[a, b, c, d] t (0, 0))).alloc (.cells #[a', b', c', d'] t (0, 0))) := (Below.refl _ _).alloc (Nat.le_refl _) _
  have hs := hb.size
  rw [hz] at h2
  refine ⟨?_, ?_, ?_, ?_, by omega, ?_⟩
  · exact (hb.cell (by show w.heap.size < _; omega)).trans ((hB1.cell (by show w.heap.size < _; omega)).trans h1.2.2.1)
  · exact (hb.cell (by show w.heap.size < _; omega)).trans ((hB1.cell (by show w.heap.size < _; omega)).trans h1.2.2.2)
  · exact (hb.cell (by show w.heap.size + 1 < _; omega)).trans h2.2.2.1
  · exact (hb.cell (by show w.heap.size + 1 < _; omega)).trans h2.2.2.2
  · exact (((Below.refl _ w).alloc (Nat.le_refl _) _).alloc (by simp) _).trans (hb.mono (by omega))
def netEq (p q : Sp.Net) : Bool := decide (p.n = q.n) && (decide (p.tail = q.tail) && (decide (p.next = q.next) && decide (p.cap = q.cap)))
theorem netEq_iff (p q : Sp.Net) : netEq p q = true ↔ p = q := by
  cases p; cases q; simp [netEq]
theorem netEq_refl (p : Sp.Net) : netEq p p = true := (netEq_iff p p).2 rfl
set_option maxRecDepth 100000 in
set_option maxHeartbeats 4000000 in
/-- Are two nets the same? -/
theorem same_any (p q : Sp.Net) (u v tu nu cu tv nv cv : Value) (w : World) (hu : NetI w u p tu nu cu) (hv : NetI w v q tv nv cv) (hp : p.tail.length ≤ 1000001 ∧ p.next.length ≤ 1000001 ∧ p.cap.length ≤ 1000001) (hq : q.tail.length ≤ 1000001 ∧ q.next.length ≤ 1000001 ∧ q.cap.length ≤ 1000001) :
    Calls Tryd.prog 18 #[u, v] w fun e w' => e = .returned (.bool (netEq p q)) ∧ Below w.heap.size w w' := by
  obtain ⟨rfl, u1, u2, u3⟩ := hu
  obtain ⟨rfl, v1, v2, v3⟩ := hv
  obtain ⟨hp1, hp2, hp3⟩ := hp
  obtain ⟨hq1, hq2, hq3⟩ := hq
  -- the world behind the two boxes
  have hB : ∀ o o', Below w.heap.size w ((w.alloc o).alloc o') := fun o o' => ((Below.refl _ w).alloc (Nat.le_refl _) o).alloc (by simp) o'
  have C1 := hide (fun w' (hb : Below w.heap.size w w') => rInts_any p.tail q.tail tu tv w' (u1.below hb) (v1.below hb) hp1 hq1)
  have C2 := hide (fun w' (hb : Below w.heap.size w w') => rInts_any p.next q.next nu nv w' (u2.below hb) (v2.below hb) hp2 hq2)
  have C3 := hide (fun w' (hb : Below w.heap.size w w') => rInts_any p.cap q.cap cu cv w' (u3.below hb) (v3.below hb) hp3 hq3)
  obtain ⟨tua, tuc, rfl, -, -, -⟩ := u1
  obtain ⟨nua, nuc, rfl, -, -, -⟩ := u2
  obtain ⟨cua, cuc, rfl, -, -, -⟩ := u3
  obtain ⟨tva, tvc, rfl, -, -, -⟩ := v1
  obtain ⟨nva, nvc, rfl, -, -, -⟩ := v2
  obtain ⟨cva, cvc, rfl, -, -, -⟩ := v3
  clear hp1 hp2 hp3 hq1 hq2 hq3
  have HF : Hid (netEq p q = (decide (p.n = q.n) && (decide (p.tail = q.tail) && (decide (p.next = q.next) && decide (p.cap = q.cap))))) := hide rfl
  generalize netEq p q = R at *
  by_cases hn : p.n = q.n
  · have hn' : (p.n == q.n) = true := beq_iff_eq.2 hn
    rw [decide_eq_true hn, Bool.true_and] at HF
    clear hn
    go_enter Tryd.func18, Tryd.ntmps18
    go_wp2_with fail
    refine (unhide C1 _ (hB _ _)).mono ?_
    rintro e w1 ⟨rfl, hb1⟩
    obtain ⟨c2, c3, c2', c3', hz1, hb1'⟩ := two_nets w w1 _ _ _ _ _ _ _ _ _ hb1
    clear hb1 C1 hB
    by_cases ht : p.tail = q.tail
    · rw [decide_eq_true ht] at HF ⊢
      clear ht
      go_wp2_with fail
      refine (unhide C2 _ hb1').mono ?_
      rintro e w2 ⟨rfl, hb2⟩
      have c3 := (hb2.cell (by show w.heap.size < _; omega)).trans c3
      have c3' := (hb2.cell (by show w.heap.size + 1 < _; omega)).trans c3'
      have hb2' := hb1'.trans (hb2.mono (by omega))
      have hz2 := hb2.size
      clear C2 hb2 c2 c2' hb1'
      by_cases ht : p.next = q.next
      · rw [decide_eq_true ht] at HF ⊢
        clear ht
        go_wp2_with fail
        refine (unhide C3 _ hb2').mono ?_
        rintro e w3 ⟨rfl, hb3⟩
        have hb3' := hb2'.trans (hb3.mono (by omega))
        clear C3 hb3 c3 c3' hb2'
        rw [Bool.true_and, Bool.true_and] at HF
        go_wp2
        go_ret
        exact ⟨by rw [unhide HF]; rfl, hb3'⟩
      · rw [decide_eq_false ht] at HF ⊢
        clear ht C3
        go_wp2
        go_ret
        exact ⟨by rw [unhide HF]; rfl, hb2'⟩
    · rw [decide_eq_false ht] at HF ⊢
      clear ht C3 C2
      go_wp2
      go_ret
      exact ⟨by rw [unhide HF]; rfl, hb1'⟩
  · have hn' : (p.n == q.n) = false := beq_eq_false_iff_ne.2 hn
    rw [decide_eq_false hn, Bool.false_and] at HF
    clear hn C1 C2 C3
    go_enter Tryd.func18, Tryd.ntmps18
    go_wp2
    go_ret
    exact ⟨by rw [unhide HF]; rfl, hB _ _⟩
end Go.Proofs.YtkmcfjkfoafkoaaDoor
