/- The walks of package rot: few, matched, placed, held. -/
import Derived.Test.YtnkkgeammohemabE6
namespace Go.Proofs.Ytnkkgeammohemab
open Go Go.RowKit

def Sp.fewB (q : Sp.Net) : Bool := decide (q.n ≤ 60) && decide (q.tail.length ≤ 240)
def Sp.inB (n : Int) (x : Int) : Bool := decide (0 ≤ x) && decide (x < n)
def Sp.capB (x : Int) : Bool := decide (0 ≤ x) && decide (x ≤ 2147483648)
def Sp.matchedB (q : Sp.Net) : Bool := decide (q.tail.length % 2 = 0 ∧ q.next.length = q.tail.length ∧ q.cap.length = q.tail.length) && q.next.all (Sp.inB q.tail.length)
def Sp.placedB (q : Sp.Net) : Bool := q.tail.all (Sp.inB q.n) && decide (0 ≤ q.n)
def Sp.heldB (q : Sp.Net) : Bool := q.cap.all Sp.capB
theorem all_take_snoc (p : Int → Bool) (L : List Int) (k : Nat) (h : k < L.length) : (L.take (k + 1)).all p = ((L.take k).all p && p L[k]) := by
  rw [List.take_succ_eq_append_getElem h, List.all_append]; simp
theorem all_stop (p : Int → Bool) (L : List Int) (k : Nat) (h : k < L.length) (hb : p L[k] = false) : L.all p = false := by
  rw [List.all_eq_false]; exact ⟨L[k], List.getElem_mem h, by simp [hb]⟩
set_option maxRecDepth 100000 in
set_option maxHeartbeats 1000000 in
theorem few_any (q : Sp.Net) (v tv nv cv : Value) (w : World) (hv : NetI w v q tv nv cv) :
    Calls Try.prog 24 #[v] w fun e w' => e = .returned (.bool (Sp.fewB q)) ∧ Below w.heap.size w w' := by
  obtain ⟨rfl, h1, h2, h3⟩ := hv
  obtain ⟨ta, tc, rfl, htc, htm⟩ := h1.form
  obtain ⟨na, nc, rfl, -, -⟩ := h2.form
  obtain ⟨ca, cc, rfl, -, -⟩ := h3.form
  clear h1 h2 h3
  have HF : Hid (Sp.fewB q = (decide (q.n ≤ 60) && decide (q.tail.length ≤ 240))) := hide rfl
  generalize Sp.fewB q = R at *
  unfold maxLen at htm
  have hb : ∀ o, Below w.heap.size w (w.alloc o) := fun o => (Below.refl _ w).alloc (Nat.le_refl _) o
  by_cases c1 : q.n ≤ 60
  · by_cases c2 : q.tail.length ≤ 240
    · have c2' : (q.tail.length : Int) ≤ 240 := by omega
      rw [decide_eq_true c1, decide_eq_true c2] at HF
      go_enter Try.func24, Try.ntmps24
      go_wp2
      go_ret
      exact ⟨by rw [unhide HF]; rfl, hb _⟩
    · have c2' : ¬ (q.tail.length : Int) ≤ 240 := by omega
      rw [decide_eq_true c1, decide_eq_false c2] at HF
      go_enter Try.func24, Try.ntmps24
      go_wp2
      go_ret
      exact ⟨by rw [unhide HF]; rfl, hb _⟩
  · rw [decide_eq_false c1] at HF
    go_enter Try.func24, Try.ntmps24
    go_wp2
    go_ret
    exact ⟨by rw [unhide HF]; rfl, hb _⟩
set_option maxRecDepth 100000 in
set_option maxHeartbeats 1000000 in
theorem placed_any (q : Sp.Net) (v tv nv cv : Value) (w : World) (hv : NetI w v q tv nv cv) :
    Calls Try.prog 26 #[v] w fun e w' => e = .returned (.bool (Sp.placedB q)) ∧ Below w.heap.size w w' := by
  obtain ⟨rfl, h1, h2, h3⟩ := hv
  obtain ⟨ta, tc, rfl, htc, htm, HT⟩ := h1.all
  obtain ⟨na, nc, rfl, -, -⟩ := h2.form
  obtain ⟨ca, cc, rfl, -, -⟩ := h3.form
  clear h1 h2 h3
  have HF : Hid (Sp.placedB q = (q.tail.all (Sp.inB q.n) && decide (0 ≤ q.n))) := hide rfl
  generalize Sp.placedB q = R at *
  unfold maxLen at htm
  have hb : ∀ o, Below w.heap.size w (w.alloc o) := fun o => (Below.refl _ w).alloc (Nat.le_refl _) o
  have HB := hide hb
  clear hb
  go_enter Try.func26, Try.ntmps26
  go_wp2
  go_loop [8] (fun i => ∃ k : Nat, k ≤ q.tail.length ∧ i = .int .i64 (k : Int) ∧ Hid ((q.tail.take k).all (Sp.inB q.n) = true)) (fun i => q.tail.length - (intOf i).toNat)
  case atStart => exact ⟨0, by omega, rfl, hide rfl⟩
  case round =>
    obtain ⟨k, hk, rfl, hall⟩ := hrel
    by_cases hlt : k < q.tail.length
    · obtain ⟨b, o, rfl, -, hcx⟩ := unhide HT k hlt
      have g := fun ob => hcx _ (unhide HB ob)
      have HS := hide (all_take_snoc (Sp.inB q.n) q.tail k hlt)
      have HX := hide (all_stop (Sp.inB q.n) q.tail k hlt)
      clear hcx
      generalize q.tail[k] = z at *
      by_cases c1 : z < 0
      · have HF2 : Hid (R = false) := hide (by rw [unhide HF, unhide HX (by simp [Sp.inB]; omega)]; rfl)
        go_wp2
        go_ret
        exact ⟨by rw [unhide HF2]; rfl, unhide HB _⟩
      · by_cases c2 : q.n ≤ z
        · have HF2 : Hid (R = false) := hide (by rw [unhide HF, unhide HX (by simp [Sp.inB]; omega)]; rfl)
          go_wp2
          go_ret
          exact ⟨by rw [unhide HF2]; rfl, unhide HB _⟩
        · have HN : Hid ((q.tail.take (k + 1)).all (Sp.inB q.n) = true) := hide (by rw [unhide HS, unhide hall]; simp [Sp.inB]; omega)
          go_wp2
          go_round
          case rel => exact ⟨k + 1, by omega, by go_num, HN⟩
          case measure => simp [intOf]; omega
    · have hA := unhide hall
      rw [List.take_of_length_le (by omega)] at hA
      have HF2 : Hid (R = decide (0 ≤ q.n)) := hide (by rw [unhide HF, hA]; rfl)
      clear hA
      go_wp2
      go_ret
      exact ⟨by rw [unhide HF2]; rfl, unhide HB _⟩
set_option maxRecDepth 100000 in
set_option maxHeartbeats 1000000 in
theorem held_any (q : Sp.Net) (v tv nv cv : Value) (w : World) (hv : NetI w v q tv nv cv) :
    Calls Try.prog 28 #[v] w fun e w' => e = .returned (.bool (Sp.heldB q)) ∧ Below w.heap.size w w' := by
  obtain ⟨rfl, h1, h2, h3⟩ := hv
  obtain ⟨ta, tc, rfl, -, -⟩ := h1.form
  obtain ⟨na, nc, rfl, -, -⟩ := h2.form
  obtain ⟨ca, cc, rfl, htc, htm, HT⟩ := h3.all
  clear h1 h2 h3
  have HF : Hid (Sp.heldB q = q.cap.all Sp.capB) := hide rfl
  generalize Sp.heldB q = R at *
  unfold maxLen at htm
  have hb : ∀ o, Below w.heap.size w (w.alloc o) := fun o => (Below.refl _ w).alloc (Nat.le_refl _) o
  have HB := hide hb
  clear hb
  go_enter Try.func28, Try.ntmps28
  go_wp2
  go_loop [8] (fun i => ∃ k : Nat, k ≤ q.cap.length ∧ i = .int .i64 (k : Int) ∧ Hid ((q.cap.take k).all Sp.capB = true)) (fun i => q.cap.length - (intOf i).toNat)
  case atStart => exact ⟨0, by omega, rfl, hide rfl⟩
  case round =>
    obtain ⟨k, hk, rfl, hall⟩ := hrel
    by_cases hlt : k < q.cap.length
    · obtain ⟨b, o, rfl, -, hcx⟩ := unhide HT k hlt
      have g := fun ob => hcx _ (unhide HB ob)
      have HS := hide (all_take_snoc Sp.capB q.cap k hlt)
      have HX := hide (all_stop Sp.capB q.cap k hlt)
      clear hcx
      generalize q.cap[k] = z at *
      by_cases c1 : z < 0
      · have HF2 : Hid (R = false) := hide (by rw [unhide HF, unhide HX (by simp [Sp.capB]; omega)])
        go_wp2
        go_ret
        exact ⟨by rw [unhide HF2]; rfl, unhide HB _⟩
      · by_cases c2 : 2147483648 < z
        · have HF2 : Hid (R = false) := hide (by rw [unhide HF, unhide HX (by simp [Sp.capB]; omega)])
          go_wp2
          go_ret
          exact ⟨by rw [unhide HF2]; rfl, unhide HB _⟩
        · have HN : Hid ((q.cap.take (k + 1)).all Sp.capB = true) := hide (by rw [unhide HS, unhide hall]; simp [Sp.capB]; omega)
          go_wp2
          go_round
          case rel => exact ⟨k + 1, by omega, by go_num, HN⟩
          case measure => simp [intOf]; omega
    · have hA := unhide hall
      rw [List.take_of_length_le (by omega)] at hA
      have HF2 : Hid (R = true) := hide (by rw [unhide HF, hA])
      clear hA
      go_wp2
      go_ret
      exact ⟨by rw [unhide HF2]; rfl, unhide HB _⟩
end Go.Proofs.Ytnkkgeammohemab


