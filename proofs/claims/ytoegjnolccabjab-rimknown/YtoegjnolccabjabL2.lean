/- What the proof needs, part 2. -/
import Derived.Laws.OwnMore
import Derived.OwnWalk
import Derived.Below
import Derived.Deep.RegionHeld3
import Derived.Deep.DeepCutAuto
import Derived.BigRegion
import Derived.Test.YtoegjnolccabjabL1
/- The walks of package rot: few, matched, placed, held. -/
namespace Go.Proofs.Ytoegjnolccabjab
open Go Go.RowKit

def Sp.fewB (q : Sp.Net) : Bool := decide (q.n ≤ 60) && decide (q.tail.length ≤ 240)
def Sp.inB (n : Int) (x : Int) : Bool := decide (0 ≤ x) && decide (x < n)
def Sp.capB (x : Int) : Bool := decide (0 ≤ x) && decide (x ≤ 2147483648)
def Sp.matchedB (q : Sp.Net) : Bool := decide (q.tail.length % 2 = 0 ∧ q.next.length = q.tail.length ∧ q.cap.length = q.tail.length) && q.next.all (Sp.inB q.tail.length)
def Sp.placedB (q : Sp.Net) : Bool := q.tail.all (Sp.inB q.n) && decide (0 ≤ q.n)
def Sp.heldB (q : Sp.Net) : Bool := q.cap.all Sp.capB
theorem all_take_snoc (p : Int → Bool) (L : List Int) (k : Nat) (h : k < L.length) : (L.take (k + 1)).all p = ((L.take k).all p && p L[k]) := by
  rw [List.take_succ_eq_append_getElem h, List.all_append]; simp
theorem all_stop (p : Int → Bool) (L : List Int) (k : Nat) (h : k < L.length) (hb : p L[k] = false) : L.all p = false := by
  rw [List.all_eq_false]; exact ⟨L[k], List.getElem_mem h, by simp [hb]⟩
set_option maxRecDepth 100000 in
set_option maxHeartbeats 1000000 in
theorem few_any (q : Sp.Net) (v tv nv cv : Value) (w : World) (hv : NetI w v q tv nv cv) :
    Calls Try.prog 71 #[v] w fun e w' => e = .returned (.bool (Sp.fewB q)) ∧ Below w.heap.size w w' := by
  obtain ⟨rfl, h1, h2, h3⟩ := hv
  obtain ⟨ta, tc, rfl, htc, htm⟩ := h1.form
  obtain ⟨na, nc, rfl, -, -⟩ := h2.form
  obtain ⟨ca, cc, rfl, -, -⟩ := h3.form
  clear h1 h2 h3
  have HF : Hid (Sp.fewB q = (decide (q.n ≤ 60) && decide (q.tail.length ≤ 240))) := hide rfl
  generalize Sp.fewB q = R at *
  unfold maxLen at htm
  have hb : ∀ o, Below w.heap.size w (w.alloc o) := fun o => (Below.refl _ w).alloc (Nat.le_refl _) o
  by_cases c1 : q.n ≤ 60
  · by_cases c2 : q.tail.length ≤ 240
    · have c2' : (q.tail.length : Int) ≤ 240 := by omega
      rw [decide_eq_true c1, decide_eq_true c2] at HF
      go_enter Try.func71, Try.ntmps71
      go_wp2
      go_ret
      exact ⟨by rw [unhide HF]; rfl, hb _⟩
    · have c2' : ¬ (q.tail.length : Int) ≤ 240 := by omega
      rw [decide_eq_true c1, decide_eq_false c2] at HF
      go_enter Try.func71, Try.ntmps71
      go_wp2
      go_ret
      exact ⟨by rw [unhide HF]; rfl, hb _⟩
  · rw [decide_eq_false c1] at HF
    go_enter Try.func71, Try.ntmps71
    go_wp2
    go_ret
    exact ⟨by rw [unhide HF]; rfl, hb _⟩
set_option maxRecDepth 100000 in
set_option maxHeartbeats 1000000 in
theorem placed_any (q : Sp.Net) (v tv nv cv : Value) (w : World) (hv : NetI w v q tv nv cv) :
    Calls Try.prog 73 #[v] w fun e w' => e = .returned (.bool (Sp.placedB q)) ∧ Below w.heap.size w w' := by
  obtain ⟨rfl, h1, h2, h3⟩ := hv
  obtain ⟨ta, tc, rfl, htc, htm, HT⟩ := h1.all
  obtain ⟨na, nc, rfl, -, -⟩ := h2.form
  obtain ⟨ca, cc, rfl, -, -⟩ := h3.form
  clear h1 h2 h3
  have HF : Hid (Sp.placedB q = (q.tail.all (Sp.inB q.n) && decide (0 ≤ q.n))) := hide rfl
  generalize Sp.placedB q = R at *
  unfold maxLen at htm
  have hb : ∀ o, Below w.heap.size w (w.alloc o) := fun o => (Below.refl _ w).alloc (Nat.le_refl _) o
  have HB := hide hb
  clear hb
  go_enter Try.func73, Try.ntmps73
  go_wp2
  go_loop [8] (fun i => ∃ k : Nat, k ≤ q.tail.length ∧ i = .int .i64 (k : Int) ∧ Hid ((q.tail.take k).all (Sp.inB q.n) = true)) (fun i => q.tail.length - (intOf i).toNat)
  case atStart => exact ⟨0, by omega, rfl, hide rfl⟩
  case round =>
    obtain ⟨k, hk, rfl, hall⟩ := hrel
    by_cases hlt : k < q.tail.length
    · obtain ⟨b, o, rfl, -, hcx⟩ := unhide HT k hlt
      have g := fun ob => hcx _ (unhide HB ob)
      have HS := hide (all_take_snoc (Sp.inB q.n) q.tail k hlt)
      have HX := hide (all_stop (Sp.inB q.n) q.tail k hlt)
      clear hcx
      generalize q.tail[k] = z at *
      by_cases c1 : z < 0
      · have HF2 : Hid (R = false) := hide (by rw [unhide HF, unhide HX (by simp [Sp.inB]; omega)]; rfl)
        go_wp2
        go_ret
        exact ⟨by rw [unhide HF2]; rfl, unhide HB _⟩
      · by_cases c2 : q.n ≤ z
        · have HF2 : Hid (R = false) := hide (by rw [unhide HF, unhide HX (by simp [Sp.inB]; omega)]; rfl)
          go_wp2
          go_ret
          exact ⟨by rw [unhide HF2]; rfl, unhide HB _⟩
        · have HN : Hid ((q.tail.take (k + 1)).all (Sp.inB q.n) = true) := hide (by rw [unhide HS, unhide hall]; simp [Sp.inB]; omega)
          go_wp2
          go_round
          case rel => exact ⟨k + 1, by omega, by go_num, HN⟩
          case measure => simp [intOf]; omega
    · have hA := unhide hall
      rw [List.take_of_length_le (by omega)] at hA
      have HF2 : Hid (R = decide (0 ≤ q.n)) := hide (by rw [unhide HF, hA]; rfl)
      clear hA
      go_wp2
      go_ret
      exact ⟨by rw [unhide HF2]; rfl, unhide HB _⟩
set_option maxRecDepth 100000 in
set_option maxHeartbeats 1000000 in
theorem held_any (q : Sp.Net) (v tv nv cv : Value) (w : World) (hv : NetI w v q tv nv cv) :
    Calls Try.prog 75 #[v] w fun e w' => e = .returned (.bool (Sp.heldB q)) ∧ Below w.heap.size w w' := by
  obtain ⟨rfl, h1, h2, h3⟩ := hv
  obtain ⟨ta, tc, rfl, -, -⟩ := h1.form
  obtain ⟨na, nc, rfl, -, -⟩ := h2.form
  obtain ⟨ca, cc, rfl, htc, htm, HT⟩ := h3.all
  clear h1 h2 h3
  have HF : Hid (Sp.heldB q = q.cap.all Sp.capB) := hide rfl
  generalize Sp.heldB q = R at *
  unfold maxLen at htm
  have hb : ∀ o, Below w.heap.size w (w.alloc o) := fun o => (Below.refl _ w).alloc (Nat.le_refl _) o
  have HB := hide hb
  clear hb
  go_enter Try.func75, Try.ntmps75
  go_wp2
  go_loop [8] (fun i => ∃ k : Nat, k ≤ q.cap.length ∧ i = .int .i64 (k : Int) ∧ Hid ((q.cap.take k).all Sp.capB = true)) (fun i => q.cap.length - (intOf i).toNat)
  case atStart => exact ⟨0, by omega, rfl, hide rfl⟩
  case round =>
    obtain ⟨k, hk, rfl, hall⟩ := hrel
    by_cases hlt : k < q.cap.length
    · obtain ⟨b, o, rfl, -, hcx⟩ := unhide HT k hlt
      have g := fun ob => hcx _ (unhide HB ob)
      have HS := hide (all_take_snoc Sp.capB q.cap k hlt)
      have HX := hide (all_stop Sp.capB q.cap k hlt)
      clear hcx
      generalize q.cap[k] = z at *
      by_cases c1 : z < 0
      · have HF2 : Hid (R = false) := hide (by rw [unhide HF, unhide HX (by simp [Sp.capB]; omega)])
        go_wp2
        go_ret
        exact ⟨by rw [unhide HF2]; rfl, unhide HB _⟩
      · by_cases c2 : 2147483648 < z
        · have HF2 : Hid (R = false) := hide (by rw [unhide HF, unhide HX (by simp [Sp.capB]; omega)])
          go_wp2
          go_ret
          exact ⟨by rw [unhide HF2]; rfl, unhide HB _⟩
        · have HN : Hid ((q.cap.take (k + 1)).all Sp.capB = true) := hide (by rw [unhide HS, unhide hall]; simp [Sp.capB]; omega)
          go_wp2
          go_round
          case rel => exact ⟨k + 1, by omega, by go_num, HN⟩
          case measure => simp [intOf]; omega
    · have hA := unhide hall
      rw [List.take_of_length_le (by omega)] at hA
      have HF2 : Hid (R = true) := hide (by rw [unhide HF, hA])
      clear hA
      go_wp2
      go_ret
      exact ⟨by rw [unhide HF2]; rfl, unhide HB _⟩
end Go.Proofs.Ytoegjnolccabjab


/- The walks of package rot: matched, walkable. -/
namespace Go.Proofs.Ytoegjnolccabjab
open Go Go.RowKit

set_option maxRecDepth 100000 in
set_option maxHeartbeats 1000000 in
theorem matched_any (q : Sp.Net) (v tv nv cv : Value) (w : World) (hv : NetI w v q tv nv cv) :
    Calls Try.prog 72 #[v] w fun e w' => e = .returned (.bool (Sp.matchedB q)) ∧ Below w.heap.size w w' := by
  obtain ⟨rfl, h1, h2, h3⟩ := hv
  obtain ⟨ta, tc, rfl, htc, htm⟩ := h1.form
  obtain ⟨na, nc, rfl, hnc, hnm, HT⟩ := h2.all
  obtain ⟨ca, cc, rfl, hcc, hcm⟩ := h3.form
  clear h1 h2 h3
  have HF : Hid (Sp.matchedB q = (decide (q.tail.length % 2 = 0 ∧ q.next.length = q.tail.length ∧ q.cap.length = q.tail.length) && q.next.all (Sp.inB q.tail.length))) := hide rfl
  generalize Sp.matchedB q = R at *
  unfold maxLen at htm hnm hcm
  have hb : ∀ o, Below w.heap.size w (w.alloc o) := fun o => (Below.refl _ w).alloc (Nat.le_refl _) o
  have HB := hide hb
  clear hb
  have hm : (q.tail.length : Int).tmod 2 = ((q.tail.length % 2 : Nat) : Int) := by
    rw [Int.tmod_eq_emod_of_nonneg (by omega)]; simp
  have hm2 : (q.tail.length : Int) % 2 = ((q.tail.length % 2 : Nat) : Int) := by simp
  by_cases c1 : q.tail.length % 2 = 0
  · have c1' : ((q.tail.length : Int) % 2 != 0) = false := by simp; omega
    by_cases c2 : q.next.length = q.tail.length
    · by_cases c3 : q.cap.length = q.tail.length
      · rw [decide_eq_true ⟨c1, c2, c3⟩, Bool.true_and] at HF
        rw [c2] at hnc ⊢
        rw [c3] at hcc ⊢
        have C2 := hide c2
        clear c1 c2 c3 hm hm2
        go_enter Try.func72, Try.ntmps72
        go_wp2
        go_loop [29] (fun i => ∃ k : Nat, k ≤ q.tail.length ∧ i = .int .i64 (k : Int) ∧ Hid ((q.next.take k).all (Sp.inB q.tail.length) = true)) (fun i => q.tail.length - (intOf i).toNat)
        case atStart => exact ⟨0, by omega, rfl, hide rfl⟩
        case round =>
          obtain ⟨k, hk, rfl, hall⟩ := hrel
          by_cases hlt : k < q.tail.length
          · have hltn : k < q.next.length := by rw [unhide C2]; exact hlt
            obtain ⟨b, o, rfl, -, hcx⟩ := unhide HT k hltn
            have g := fun ob => hcx _ (unhide HB ob)
            have HS := hide (all_take_snoc (Sp.inB q.tail.length) q.next k hltn)
            have HX := hide (all_stop (Sp.inB q.tail.length) q.next k hltn)
            clear hcx
            generalize q.next[k] = z at *
            clear hltn
            by_cases d1 : z < 0
            · have HF2 : Hid (R = false) := hide (by rw [unhide HF, unhide HX (by simp [Sp.inB]; omega)])
              go_wp2
              go_ret
              exact ⟨by rw [unhide HF2]; rfl, unhide HB _⟩
            · by_cases d2 : (q.tail.length : Int) ≤ z
              · have HF2 : Hid (R = false) := hide (by rw [unhide HF, unhide HX (by simp [Sp.inB]; omega)])
                go_wp2
                go_ret
                exact ⟨by rw [unhide HF2]; rfl, unhide HB _⟩
              · have HN : Hid ((q.next.take (k + 1)).all (Sp.inB q.tail.length) = true) := hide (by rw [unhide HS, unhide hall]; simp [Sp.inB]; omega)
                go_wp2
                go_round
                case rel => exact ⟨k + 1, by omega, by go_num, HN⟩
                case measure => simp [intOf]; omega
          · have hA := unhide hall
            rw [List.take_of_length_le (by rw [unhide C2]; omega)] at hA
            have HF2 : Hid (R = true) := hide (by rw [unhide HF, hA])
            clear hA
            go_wp2
            go_ret
            exact ⟨by rw [unhide HF2]; rfl, unhide HB _⟩
      · rw [decide_eq_false (fun h => c3 h.2.2)] at HF
        have c2' : ((q.next.length : Int) != (q.tail.length : Int)) = false := by simp; omega
        have c3' : ((q.cap.length : Int) != (q.tail.length : Int)) = true := by simp; omega
        clear c1 c2 c3 hm hm2
        go_enter Try.func72, Try.ntmps72
        go_wp2
        go_ret
        exact ⟨by rw [unhide HF]; rfl, unhide HB _⟩
    · rw [decide_eq_false (fun h => c2 h.2.1)] at HF
      have c2' : ((q.next.length : Int) != (q.tail.length : Int)) = true := by simp; omega
      clear c1 c2 hm hm2
      go_enter Try.func72, Try.ntmps72
      go_wp2
      go_ret
      exact ⟨by rw [unhide HF]; rfl, unhide HB _⟩
  · have c1' : ((q.tail.length : Int) % 2 != 0) = true := by simp; omega
    rw [decide_eq_false (fun h => c1 h.1)] at HF
    clear c1 hm hm2
    go_enter Try.func72, Try.ntmps72
    go_wp2
    go_ret
    exact ⟨by rw [unhide HF]; rfl, unhide HB _⟩
def Sp.walkB (q : Sp.Net) : Bool := Sp.fewB q && (Sp.matchedB q && Sp.placedB q)
set_option maxRecDepth 100000 in
set_option maxHeartbeats 1000000 in
theorem rwalkable_any (q : Sp.Net) (v tv nv cv : Value) (w : World) (hv : NetI w v q tv nv cv) :
    Calls Try.prog 79 #[v] w fun e w' => e = .returned (.bool (Sp.walkB q)) ∧ Below w.heap.size w w' := by
  have H1 := hide (fun w' (hb : Below w.heap.size w w') => few_any q v tv nv cv w' (hv.below hb))
  have H2 := hide (fun w' (hb : Below w.heap.size w w') => matched_any q v tv nv cv w' (hv.below hb))
  have H3 := hide (fun w' (hb : Below w.heap.size w w') => placed_any q v tv nv cv w' (hv.below hb))
  obtain ⟨rfl, h1, h2, h3⟩ := hv
  obtain ⟨ta, tc, rfl, -, -⟩ := h1.form
  obtain ⟨na, nc, rfl, -, -⟩ := h2.form
  obtain ⟨ca, cc, rfl, -, -⟩ := h3.form
  clear h1 h2 h3
  have HBX := hide (box_new w q.n (.slice ta q.tail.length tc) (.slice na q.next.length nc) (.slice ca q.cap.length cc))
  have HF : Hid (Sp.walkB q = (Sp.fewB q && (Sp.matchedB q && Sp.placedB q))) := hide rfl
  generalize Sp.walkB q = R at *
  obtain ⟨W1, hW1⟩ : ∃ W1, W1 = w.alloc (.cells #[.int .i64 q.n, .slice ta q.tail.length tc, .slice na q.next.length nc, .slice ca q.cap.length cc] 26) := ⟨_, rfl⟩
  rw [← hW1] at HBX
  have hb1 : Below w.heap.size w W1 := by rw [hW1]; exact (Below.refl _ w).alloc (Nat.le_refl _) _
  have hs1 : W1.heap.size = w.heap.size + 1 := by rw [hW1]; simp
  have HW : Hid (∀ w', Below W1.heap.size W1 w' → Below w.heap.size w w' ∧ Below (w.heap.size + 1) W1 w') := hide fun w' hb => ⟨hb1.trans (hb.mono (by omega)), hb.mono (by omega)⟩
  have HC1 := hide (unhide H1 W1 hb1)
  clear H1 hb1 hs1
  subst hW1
  go_enter Try.func79, Try.ntmps79
  go_wp2_with fail
  refine (unhide HC1).mono ?_
  rintro e w2 ⟨rfl, hb2⟩
  clear HC1
  generalize w.alloc (.cells #[.int .i64 q.n, .slice ta q.tail.length tc, .slice na q.next.length nc, .slice ca q.cap.length cc] 26) = W1 at *
  obtain ⟨x0, x1, x2, x3, -⟩ := unhide HBX _ (unhide HW _ hb2).2
  generalize Sp.fewB q = F1 at *
  cases F1
  · have HF2 : Hid (R = false) := hide (unhide HF)
    clear HF
    go_wp2
    go_ret
    exact ⟨by rw [unhide HF2]; rfl, (unhide HW _ hb2).1⟩
  · rw [Bool.true_and] at HF
    have HC2 := hide (unhide H2 _ (unhide HW _ hb2).1)
    go_wp2_with fail
    refine (unhide HC2).mono ?_
    rintro e w3 ⟨rfl, hb3⟩
    clear HC2 x0 x1 x2 x3
    have hb3' := hb2.trans (hb3.mono hb2.size)
    obtain ⟨x0, x1, x2, x3, -⟩ := unhide HBX _ (unhide HW _ hb3').2
    generalize Sp.matchedB q = F2 at *
    cases F2
    · have HF2 : Hid (R = false) := hide (unhide HF)
      clear HF
      go_wp2
      go_ret
      exact ⟨by rw [unhide HF2]; rfl, (unhide HW _ hb3').1⟩
    · rw [Bool.true_and] at HF
      have HC3 := hide (unhide H3 _ (unhide HW _ hb3').1)
      go_wp2_with fail
      refine (unhide HC3).mono ?_
      rintro e w4 ⟨rfl, hb4⟩
      clear HC3 x0 x1 x2 x3
      have hb4' := hb3'.trans (hb4.mono hb3'.size)
      go_wp2
      go_ret
      exact ⟨by rw [unhide HF]; rfl, (unhide HW _ hb4').1⟩
end Go.Proofs.Ytoegjnolccabjab


/- The walks of package rot: other, Head. -/
namespace Go.Proofs.Ytoegjnolccabjab
open Go Go.RowKit

/-- A dart's other. -/
def Sp.oth (d : Nat) : Nat := if d % 2 = 0 then d + 1 else d - 1
theorem xor_oth : ∀ d : Fin 1001, bits .xor .i64 ((d.val : Nat) : Int) 1 = ((Sp.oth d.val : Nat) : Int) := by decide +kernel
theorem oth_lt {d n : Nat} (h : d < n) (he : n % 2 = 0) : Sp.oth d < n := by unfold Sp.oth; split <;> omega
theorem oth_oth (d : Nat) : Sp.oth (Sp.oth d) = d := by unfold Sp.oth; split <;> split <;> omega
set_option maxRecDepth 100000 in
set_option maxHeartbeats 400000 in
theorem other_any (d : Nat) (w : World) (hd : d ≤ 1000) :
    Calls Try.prog 92 #[.int .i64 (d : Int)] w fun e w' => e = .returned (.int .i64 ((Sp.oth d : Nat) : Int)) ∧ w' = w := by
  have HX := hide (xor_oth ⟨d, by omega⟩)
  go_enter Try.func92, Try.ntmps92
  go_wp2
  go_ret
  refine ⟨?_, rfl⟩
  show Ending.returned (.int .i64 (bits .xor .i64 (d : Int) 1)) = _
  rw [unhide HX]
set_option maxRecDepth 100000 in
set_option maxHeartbeats 400000 in
theorem head_any' (q : Sp.Net) (v tv nv cv : Value) (d : Nat) (w : World) (hv : NetI w v q tv nv cv) (hd : d < q.tail.length) (hev : q.tail.length % 2 = 0) (h240 : q.tail.length ≤ 240) :
    Calls Try.prog 89 #[v, .int .i64 (d : Int)] w fun e w' => e = .returned (.int .i64 (q.tail.getD (Sp.oth d) 0)) ∧ Below w.heap.size w w' := by
  obtain ⟨rfl, h1, h2, h3⟩ := hv
  obtain ⟨ta, tc, rfl, htc, htm, HT⟩ := h1.all
  obtain ⟨na, nc, rfl, -, -⟩ := h2.form
  obtain ⟨ca, cc, rfl, -, -⟩ := h3.form
  clear h1 h2 h3
  have ho := oth_lt hd hev
  have HO := hide (fun w' => other_any d w' (by omega))
  obtain ⟨b, o, rfl, -, hcx⟩ := unhide HT _ ho
  have HF : Hid (q.tail.getD (Sp.oth d) 0 = q.tail[Sp.oth d]) := hide (Sp.getD_eq _ _ ho)
  have hb : ∀ ob, Below w.heap.size w (w.alloc ob) := fun ob => (Below.refl _ w).alloc (Nat.le_refl _) ob
  have HB := hide hb
  generalize q.tail[Sp.oth d] = z at *
  have g := fun ob => hcx _ (hb ob)
  generalize q.tail.getD (Sp.oth d) 0 = R at *
  have hd0 : decide ((d : Int) < 0) = false := decide_eq_false (by omega)
  generalize Sp.oth d = od at *
  have ho' : (od : Int) < q.tail.length := by omega
  have ho2 : decide ((q.tail.length : Int) ≤ (od : Int)) = false := decide_eq_false (by omega)
  clear hcx hb HT
  go_enter Try.func89, Try.ntmps89
  go_wp2
  go_quiet ((go_at_call 92; exact Calls.quiet_of_same (unhide HO _)))
  go_wp2_with fail
  have HBz := hide (below_dn (unhide HB (.cells #[.int .i64 q.n, .slice (some ⟨b, o, none⟩) q.tail.length tc, .slice na q.next.length nc, .slice ca q.cap.length cc] 26)) nq)
  have k1 : ((w.alloc (.cells #[.int .i64 q.n, .slice (some ⟨b, o, none⟩) q.tail.length tc, .slice na q.next.length nc, .slice ca q.cap.length cc] 26)).drewN nq).cell? ⟨w.heap.size, 1, none⟩ = some (.slice (some ⟨b, o, none⟩) q.tail.length tc) := (net_new w (.int .i64 q.n) (.slice (some ⟨b, o, none⟩) q.tail.length tc) (.slice na q.next.length nc) (.slice ca q.cap.length cc) 26).2.1
  have k2 : ((w.alloc (.cells #[.int .i64 q.n, .slice (some ⟨b, o, none⟩) q.tail.length tc, .slice na q.next.length nc, .slice ca q.cap.length cc] 26)).drewN nq).cell? ⟨b, o + od, none⟩ = some (.int .i64 z) := g _
  clear g
  generalize (w.alloc (.cells #[.int .i64 q.n, .slice (some ⟨b, o, none⟩) q.tail.length tc, .slice na q.next.length nc, .slice ca q.cap.length cc] 26)).drewN nq = wz at *
  go_wp2
  go_quiet ((go_at_call 92; exact Calls.quiet_of_same (unhide HO _)))
  go_wp2
  go_ret
  exact ⟨by rw [unhide HF]; rfl, below_dn (unhide HBz) _⟩
end Go.Proofs.Ytoegjnolccabjab


/- Arcs told but once: of those with the same ends the shortest; the shortest ways are the same. -/
namespace Go.Proofs.Ytoegjnolccabjab

def Sp.putA : List Sp.Arc → Sp.Arc → List Sp.Arc
  | [], a => [a]
  | b :: l, a => if b.f = a.f ∧ b.t = a.t then ⟨b.f, b.t, min b.l a.l⟩ :: l else b :: Sp.putA l a
theorem Sp.putA_mem : ∀ (L : List Sp.Arc) (a x : Sp.Arc), x ∈ Sp.putA L a → x ∈ L ∨ x = a
  | [], a, x, h => .inr (by simpa [Sp.putA] using h)
  | b :: l, a, x, h => by
    unfold Sp.putA at h
    split at h
    · rename_i h1
      rcases List.mem_cons.1 h with rfl | h2
      · rcases Int.le_total b.l a.l with h3 | h3
        · left
          rw [Int.min_eq_left h3]
          exact List.mem_cons_self ..
        · right
          rw [Int.min_eq_right h3, h1.1, h1.2]
      · exact .inl (List.mem_cons_of_mem _ h2)
    · rcases List.mem_cons.1 h with rfl | h2
      · exact .inl (List.mem_cons_self ..)
      · rcases Sp.putA_mem l a x h2 with h3 | h3
        · exact .inl (List.mem_cons_of_mem _ h3)
        · exact .inr h3
theorem Sp.putA_dom : ∀ (L : List Sp.Arc) (a x : Sp.Arc), (x ∈ L ∨ x = a) → ∃ y ∈ Sp.putA L a, y.f = x.f ∧ y.t = x.t ∧ y.l ≤ x.l
  | [], a, x, h => by
    rcases h with h | rfl
    · cases h
    · exact ⟨x, by simp [Sp.putA], rfl, rfl, Int.le_refl _⟩
  | b :: l, a, x, h => by
    unfold Sp.putA
    split
    · rename_i h1
      rcases h with h | rfl
      · rcases List.mem_cons.1 h with rfl | h2
        · exact ⟨_, List.mem_cons_self .., rfl, rfl, Int.min_le_left ..⟩
        · exact ⟨x, List.mem_cons_of_mem _ h2, rfl, rfl, Int.le_refl _⟩
      · exact ⟨_, List.mem_cons_self .., h1.1, h1.2, Int.min_le_right ..⟩
    · rcases h with h | rfl
      · rcases List.mem_cons.1 h with rfl | h2
        · exact ⟨x, List.mem_cons_self .., rfl, rfl, Int.le_refl _⟩
        · obtain ⟨y, h3, h4⟩ := Sp.putA_dom l a x (.inl h2)
          exact ⟨y, List.mem_cons_of_mem _ h3, h4⟩
      · obtain ⟨y, h3, h4⟩ := Sp.putA_dom l x x (.inr rfl)
        exact ⟨y, List.mem_cons_of_mem _ h3, h4⟩
theorem Sp.putA_len : ∀ (L : List Sp.Arc) (a : Sp.Arc), (Sp.putA L a).length ≤ L.length + 1
  | [], a => Nat.le_refl _
  | b :: l, a => by
    unfold Sp.putA
    split
    · simp only [List.length_cons]; omega
    · simp only [List.length_cons]; have := Sp.putA_len l a; omega
theorem Sp.putA_end : ∀ (L : List Sp.Arc) (a : Sp.Arc), (∀ j, j < L.length → ¬ ((L.getD j Sp.arc0).f = a.f ∧ (L.getD j Sp.arc0).t = a.t)) → Sp.putA L a = L ++ [a]
  | [], a, _ => rfl
  | b :: l, a, h => by
    unfold Sp.putA
    rw [if_neg (by have := h 0 (by simp); simpa using this), Sp.putA_end l a (fun j hj => by have := h (j + 1) (by simpa using hj); simpa using this)]
    rfl
theorem Sp.putA_at : ∀ (L : List Sp.Arc) (a : Sp.Arc) (i : Nat), i < L.length → (∀ j, j < i → ¬ ((L.getD j Sp.arc0).f = a.f ∧ (L.getD j Sp.arc0).t = a.t)) → ((L.getD i Sp.arc0).f = a.f ∧ (L.getD i Sp.arc0).t = a.t) → Sp.putA L a = L.set i ⟨(L.getD i Sp.arc0).f, (L.getD i Sp.arc0).t, min (L.getD i Sp.arc0).l a.l⟩
  | [], a, i, h, _, _ => by simp at h
  | b :: l, a, 0, h, _, h2 => by
    unfold Sp.putA
    rw [if_pos (by simpa using h2)]
    rfl
  | b :: l, a, i + 1, h, h1, h2 => by
    unfold Sp.putA
    rw [if_neg (by have := h1 0 (by omega); simpa using this), Sp.putA_at l a i (by simpa using h) (fun j hj => by have := h1 (j + 1) (by omega); simpa using this) (by simpa using h2)]
    rfl
/-- Arc d of a land: from dart d's face to its other's. -/
def Sp.rimA (F C : List Int) (d : Nat) : Sp.Arc := ⟨(F.getD d 0).toNat, (F.getD (Sp.oth d) 0).toNat, C.getD d 0⟩
def Sp.rimL (F C : List Int) : Nat → List Sp.Arc
  | 0 => []
  | d + 1 => Sp.putA (Sp.rimL F C d) (Sp.rimA F C d)
def Sp.rimR (F C : List Int) (m : Nat) : List Sp.Arc := (List.range m).map (Sp.rimA F C)
theorem Sp.rimR_succ (F C : List Int) (m : Nat) : Sp.rimR F C (m + 1) = Sp.rimR F C m ++ [Sp.rimA F C m] := by
  unfold Sp.rimR; rw [List.range_succ, List.map_append]; rfl
theorem Sp.rimR_len (F C : List Int) (m : Nat) : (Sp.rimR F C m).length = m := by unfold Sp.rimR; simp
theorem Sp.mem_rimR {F C : List Int} {m : Nat} {x : Sp.Arc} : x ∈ Sp.rimR F C m ↔ ∃ d, d < m ∧ Sp.rimA F C d = x := by
  unfold Sp.rimR; simp
theorem Sp.rimL_len (F C : List Int) : ∀ m, (Sp.rimL F C m).length ≤ m
  | 0 => Nat.le_refl _
  | m + 1 => by unfold Sp.rimL; have := Sp.putA_len (Sp.rimL F C m) (Sp.rimA F C m); have := Sp.rimL_len F C m; omega
theorem Sp.rimL_mem (F C : List Int) : ∀ m x, x ∈ Sp.rimL F C m → x ∈ Sp.rimR F C m
  | 0, x, h => by cases h
  | m + 1, x, h => by
    rw [Sp.rimR_succ]
    rcases Sp.putA_mem _ _ _ h with h1 | rfl
    · exact List.mem_append_left _ (Sp.rimL_mem F C m x h1)
    · exact List.mem_append_right _ (List.mem_cons_self ..)
theorem Sp.rimL_dom (F C : List Int) : ∀ m x, x ∈ Sp.rimR F C m → ∃ y ∈ Sp.rimL F C m, y.f = x.f ∧ y.t = x.t ∧ y.l ≤ x.l
  | 0, x, h => by cases h
  | m + 1, x, h => by
    rw [Sp.rimR_succ] at h
    rcases List.mem_append.1 h with h1 | h1
    · obtain ⟨y, h2, h3, h4, h5⟩ := Sp.rimL_dom F C m x h1
      obtain ⟨z, h6, h7, h8, h9⟩ := Sp.putA_dom (Sp.rimL F C m) (Sp.rimA F C m) y (.inl h2)
      exact ⟨z, h6, h7.trans h3, h8.trans h4, Int.le_trans h9 h5⟩
    · exact Sp.putA_dom (Sp.rimL F C m) (Sp.rimA F C m) x (.inr (by simpa using h1))
theorem Sp.wk_sub {L L' : List Sp.Arc} (h : ∀ x ∈ L, x ∈ L') {s : Nat} : ∀ m v x, Sp.Wk L s m v x → Sp.Wk L' s m v x
  | 0, _, _, hw => hw
  | m + 1, _, _, ⟨a, ha, e, hw⟩ => ⟨a, h a ha, e, Sp.wk_sub h m a.f _ hw⟩
theorem Sp.short_dom {far : Int} {L L' : List Sp.Arc} {s n : Nat} {D : Nat → Int} (h : Sp.Short far L s n D) (hs : ∀ x ∈ L, x ∈ L') (hd : ∀ x ∈ L', ∃ y ∈ L, y.f = x.f ∧ y.t = x.t ∧ y.l ≤ x.l) : Sp.Short far L' s n D where
  src := h.src
  arc := fun a ha hf => by
    obtain ⟨y, h1, h2, h3, h4⟩ := hd a ha
    have := h.arc y h1 (by rwa [h2])
    rw [h2, h3] at this
    exact ⟨this.1, by omega⟩
  att := fun v hv hf => by
    obtain ⟨m, hm⟩ := h.att v hv hf
    exact ⟨m, Sp.wk_sub hs m v _ hm⟩
theorem Sp.rim_short {far : Int} {F C : List Int} {m s n : Nat} {D : Nat → Int} (h : Sp.Short far (Sp.rimL F C m) s n D) : Sp.Short far (Sp.rimR F C m) s n D :=
  Sp.short_dom h (Sp.rimL_mem F C m) (Sp.rimL_dom F C m)
end Go.Proofs.Ytoegjnolccabjab


/- Rows of arcs changed in place; rim's small functions. -/
namespace Go.Proofs.Ytoegjnolccabjab
open Go Go.RowKit

theorem Sp.cells3_set : ∀ (L : List Sp.Arc) (i : Nat) (z : Int), Sp.cells3 (L.set i ⟨(L.getD i Sp.arc0).f, (L.getD i Sp.arc0).t, z⟩) = (Sp.cells3 L).set (i * 3 + 2) (.int .i64 z)
  | [], i, z => by simp [Sp.cells3]
  | p :: l, 0, z => by simp [Sp.cells3]
  | p :: l, i + 1, z => by
    have e : (i + 1) * 3 + 2 = i * 3 + 2 + 1 + 1 + 1 := by omega
    rw [e]
    simp only [List.set_cons_succ, Sp.cells3, List.getD_cons_succ, Sp.cells3_set l i z]
theorem OwnA.set {w : World} {B g n c : Nat} {L : List Sp.Arc} (h : OwnA w B (.slice (some ⟨g, 0, none⟩) n c) L) (hn : L.length = n) (i : Nat) (z : Int) : OwnA (w.setCell ⟨g, i * 3 + 2, none⟩ (.int .i64 z)) B (.slice (some ⟨g, 0, none⟩) n c) (L.set i ⟨(L.getD i Sp.arc0).f, (L.getD i Sp.arc0).t, z⟩) := by
  subst hn
  unfold OwnA at h ⊢
  rw [List.length_set, Sp.cells3_set]
  exact (World.ownsRow.stored h (i * 3 + 2) (.int .i64 z)).1
theorem OwnA.frozen {w : World} {B g n c : Nat} {L : List Sp.Arc} (h : OwnA w B (.slice (some ⟨g, 0, none⟩) n c) L) (k : Nat) : w.frozen? ⟨g, k, none⟩ = false := by
  obtain ⟨_, ⟨h', _⟩ | ⟨g', cap', cur, h', hb, hg, _⟩⟩ := h
  · cases h'
  · injection h' with h1
    injection h1 with h1
    injection h1 with h1
    subst h1
    simp only [World.frozen?, hg]
    rfl
set_option maxRecDepth 100000 in
set_option maxHeartbeats 400000 in
theorem rmother_any (d : Nat) (w : World) (hd : d ≤ 1000) :
    Calls Try.prog 33 #[.int .i64 (d : Int)] w fun e w' => e = .returned (.int .i64 ((Sp.oth d : Nat) : Int)) ∧ w' = w := by
  have HX := hide (xor_oth ⟨d, by omega⟩)
  go_enter Try.func33, Try.ntmps33
  go_wp2
  go_ret
  refine ⟨?_, rfl⟩
  show Ending.returned (.int .i64 (bits .xor .i64 (d : Int) 1)) = _
  rw [unhide HX]
set_option maxRecDepth 100000 in
set_option maxHeartbeats 400000 in
theorem rmvertex_any (q : Sp.Net) (v tv nv cv : Value) (x : Int) (w : World) (hv : NetI w v q tv nv cv) :
    Calls Try.prog 29 #[v, .int .i64 x] w fun e w' => e = .returned (.bool (decide (0 ≤ x ∧ x < q.n))) ∧ Below w.heap.size w w' := by
  obtain ⟨rfl, h1, h2, h3⟩ := hv
  obtain ⟨ta, tc, rfl, -, -⟩ := h1.form
  obtain ⟨na, nc, rfl, -, -⟩ := h2.form
  obtain ⟨ca, cc, rfl, -, -⟩ := h3.form
  have HB := hide ((Below.refl _ w).alloc (Nat.le_refl _) (.cells #[.int .i64 q.n, .slice ta q.tail.length tc, .slice na q.next.length nc, .slice ca q.cap.length cc] 26))
  clear h1 h2 h3
  by_cases h0 : 0 ≤ x
  · by_cases hn : x < q.n
    · have HR : Hid (decide (0 ≤ x ∧ x < q.n) = true) := hide (decide_eq_true ⟨h0, hn⟩)
      generalize decide (0 ≤ x ∧ x < q.n) = R at *
      go_enter Try.func29, Try.ntmps29
      go_wp2
      go_ret
      exact ⟨by rw [unhide HR]; rfl, unhide HB⟩
    · have HR : Hid (decide (0 ≤ x ∧ x < q.n) = false) := hide (decide_eq_false fun h => hn h.2)
      generalize decide (0 ≤ x ∧ x < q.n) = R at *
      go_enter Try.func29, Try.ntmps29
      go_wp2
      go_ret
      exact ⟨by rw [unhide HR]; rfl, unhide HB⟩
  · have HR : Hid (decide (0 ≤ x ∧ x < q.n) = false) := hide (decide_eq_false fun h => h0 h.1)
    generalize decide (0 ≤ x ∧ x < q.n) = R at *
    go_enter Try.func29, Try.ntmps29
    go_wp2
    go_ret
    exact ⟨by rw [unhide HR]; rfl, unhide HB⟩
end Go.Proofs.Ytoegjnolccabjab


/- The walk of package rot: behind. -/
namespace Go.Proofs.Ytoegjnolccabjab
open Go Go.RowKit

theorem made_ints (n : Nat) : (madeCells (Value.int .i64 0).cells (n * 1)).toList = (List.replicate n (0 : Int)).map (Value.int .i64) := by
  show (madeCells #[.int .i64 0] (n * 1)).toList = _
  rw [Nat.mul_one, toList_madeCells_one]
  simp
theorem wpList_mk {w : World} {ops : Array Oper} {rest : List Oper} {o : Oper} {a : Act} {Q : Exit → Act → World → Prop} (hg : o.guard = none) (l c : Operand) (hop : o.op = Op.makeSlice 22 l c)
    (base n : Nat) (hl : a.eval l = .int .i64 (n : Int)) (hc : a.eval c = .int .i64 (n : Int)) (hn : n ≤ 1000000) (b4 : base ≤ w.heap.size)
    (hK : ∀ w', OwnI w' base (.slice (some ⟨w.heap.size, 0, none⟩) n n) (List.replicate n 0) → Below base w w' → w.heap.size < w'.heap.size → wpList Try.prog ops Q rest (a.put o.dst (.slice (some ⟨w.heap.size, 0, none⟩) n n)) w') : wpList Try.prog ops Q (o :: rest) a w := by
  obtain ⟨i0, hi, hz0, hz1, hz2⟩ := info_parts info3
  refine wpList_make_full w hg l c 22 hop base 3 i0 (.int .i64 0) 1 Try.underlying22 hi hz0 hz1 .i64 .i64 _ _ n hl hc rfl rfl (by rw [hz2]; omega) (by unfold maxLen; omega) b4 ?_
  intro w' h1 h2
  rw [made_ints] at h1
  have h1' : OwnI w' base (.slice (some ⟨w.heap.size, 0, none⟩) n n) (List.replicate n 0) := by
    unfold OwnI
    rw [List.length_replicate]
    exact h1
  exact hK w' h1' ((Below.refl _ _).grown h2 b4 fun k hk => by cases hk) (h1'.lt w.heap.size rfl).2
set_option maxRecDepth 100000 in
set_option maxHeartbeats 400000 in
theorem behind_any (q : Sp.Net) (v tv nv cv : Value) (w : World) (hv : NetI w v q tv nv cv) (hev : q.next.length % 2 = 0) (h240 : q.next.length ≤ 240) :
    Calls Try.prog 81 #[v] w fun e w' => ∃ sv, e = .returned sv ∧ OwnI w' w.heap.size sv ((List.range q.next.length).map fun d => q.next.getD (Sp.oth d) 0) ∧ Below w.heap.size w w' := by
  obtain ⟨rfl, h1, h2, h3⟩ := hv
  obtain ⟨ta, tc, rfl, -, -⟩ := h1.form
  obtain ⟨na, nc, rfl, hnc, hnm, HT⟩ := h2.all
  obtain ⟨ca, cc, rfl, -, -⟩ := h3.form
  clear h1 h2 h3
  obtain ⟨f, hf⟩ : ∃ f : Nat → Int, f = fun d => q.next.getD (Sp.oth d) 0 := ⟨_, rfl⟩
  rw [← hf]
  have Hf := hide hf
  clear hf
  have HBX := hide (box_new w q.n (.slice ta q.tail.length tc) (.slice na q.next.length nc) (.slice ca q.cap.length cc))
  obtain ⟨W1, hW1⟩ : ∃ W1, W1 = w.alloc (.cells #[.int .i64 q.n, .slice ta q.tail.length tc, .slice na q.next.length nc, .slice ca q.cap.length cc] 26) := ⟨_, rfl⟩
  rw [← hW1] at HBX
  have hb1 : Below w.heap.size w W1 := by rw [hW1]; exact (Below.refl _ w).alloc (Nat.le_refl _) _
  have hs1 : W1.heap.size = w.heap.size + 1 := by rw [hW1]; simp
  have HW : Hid (∀ w', Below (w.heap.size + 1) W1 w' → Below w.heap.size w w') := hide fun w' hb => hb1.trans (hb.mono (by omega))
  have HS1 := hide hs1
  clear hb1 hs1
  subst hW1
  go_enter Try.func81, Try.ntmps81
  go_wp2_with (at_make; refine wpList_mk rfl _ _ rfl (w.heap.size + 1) q.next.length rfl rfl (by omega) (by simp) ?_)
  intro w5 hown5 hb5 hlt5
  generalize w.alloc (.cells #[.int .i64 q.n, .slice ta q.tail.length tc, .slice na q.next.length nc, .slice ca q.cap.length cc] 26) = W1 at *
  have HO5 := hide hown5
  clear hown5 hlt5
  go_wp2
  go_loopw [11] (fun i wr => ∃ k : Nat, k ≤ q.next.length ∧ i = .int .i64 (k : Int) ∧ Hid (OwnI wr (w.heap.size + 1) (.slice (some ⟨w.heap.size + 1, 0, none⟩) q.next.length q.next.length) ((List.range k).map f ++ List.replicate (q.next.length - k) 0)) ∧ Below (w.heap.size + 1) W1 wr) (fun i _ => q.next.length - (intOf i).toNat)
  case atStart => exact ⟨0, by omega, rfl, by simpa using HO5, hb5⟩
  case round =>
    clear HO5 hb5
    obtain ⟨k, hk, rfl, hO, hb⟩ := hrel
    obtain ⟨x0, x1, x2, x3, hsz⟩ := unhide HBX _ hb
    by_cases hlt : k < q.next.length
    · have ho := oth_lt hlt hev
      obtain ⟨b, o, rfl, hbl, hcx⟩ := unhide HT _ ho
      have hfk : f k = q.next[Sp.oth k] := by rw [unhide Hf]; exact Sp.getD_eq _ _ ho
      have HKp : Hid (∀ w', Below (w.heap.size + 1) W1 w' → w'.cell? ⟨w.heap.size, 2, none⟩ = some (.slice (some ⟨b, o, none⟩) q.next.length nc) ∧ w'.cell? ⟨b, o + Sp.oth k, none⟩ = some (.int .i64 (f k))) := hide fun w' hb' => ⟨(unhide HBX _ hb').2.2.1, by rw [hfk]; exact hcx _ (unhide HW _ hb')⟩
      have HOt := hide (fun w' => other_any k w' (by omega))
      have hll : ((List.range k).map f ++ List.replicate (q.next.length - k) 0).length = q.next.length := by simp; omega
      have r1 := own_cell (unhide hO) k (by rw [hll]; exact hlt)
      have y1 := own_frozen (unhide hO) k
      have HL1 : Hid (((List.range k).map f ++ List.replicate (q.next.length - k) 0).set k (f k) = (List.range (k + 1)).map f ++ List.replicate (q.next.length - (k + 1)) 0) := by
        refine hide ?_
        rw [List.set_append_right _ _ (by simp), List.range_succ, List.map_append, List.append_assoc]
        congr 1
        obtain ⟨m, hm⟩ : ∃ m, q.next.length - k = m + 1 := ⟨q.next.length - k - 1, by omega⟩
        rw [hm, show q.next.length - (k + 1) = m by omega, List.replicate_succ]
        simp
      generalize ((List.range k).map f ++ List.replicate (q.next.length - k) 0)[k]'_ = z0 at *
      generalize f k = z at *
      have hltI : (k : Int) < q.next.length := by omega
      have h0k : (0 : Int) ≤ (k : Int) := by omega
      clear hcx hfk hll x0 x1 x3
      generalize Sp.oth k = ok at *
      have hokI : (ok : Int) < q.next.length := by omega
      have h0o : (0 : Int) ≤ (ok : Int) := by omega
      go_wp2
      go_region_held3 (fun w' => w'.cell? ⟨w.heap.size, 2, none⟩ = some (.slice (some ⟨b, o, none⟩) q.next.length nc) ∧ w'.cell? ⟨b, o + ok, none⟩ = some (.int .i64 z))
        (first
          | exact unhide HKp _ hb.drew
          | exact unhide HKp _ (hb.setCell (by exact Nat.le_refl _) _).drew)
        (first
          | (go_at_call 92
             refine (unhide HOt _).mono ?_
             rintro e w6 ⟨rfl, hw6⟩
             subst hw6))
      all_goals
        go_wp2
        go_roundw
        case rel => exact ⟨k + 1, by omega, by go_num, hide (by rw [← unhide HL1]; exact own_drew (own_setCell (unhide hO) k z)), (hb.setCell (by exact Nat.le_refl _) _).drew⟩
        case measure => simp [intOf]; omega
    · obtain rfl : k = q.next.length := by omega
      have HOf : Hid (OwnI wr (w.heap.size + 1) (.slice (some ⟨w.heap.size + 1, 0, none⟩) q.next.length q.next.length) ((List.range q.next.length).map f)) := by simpa using hO
      go_wp2
      go_ret
      exact ⟨_, rfl, own_base (unhide HOf) (by omega), unhide HW _ hb⟩
end Go.Proofs.Ytoegjnolccabjab


/- Package path: isPlace, isArc, forward, sound. -/
namespace Go.Proofs.Ytoegjnolccabjab
open Go Go.RowKit

/-- Arcs that may be, between n places. -/
structure Sp.Snd (n : Nat) (L : List Sp.Arc) : Prop where
  few : L.length ≤ 1000
  at_ : ∀ a ∈ L, a.f < n ∧ a.t < n ∧ -1099511627776 ≤ a.l ∧ a.l ≤ 1099511627776
theorem Ints.allA {w : World} {v : Value} {l : List Int} (h : Ints w v l) : ∃ (a : Option Addr) (c : Nat), v = .slice a l.length c ∧ l.length ≤ c ∧ c ≤ maxLen ∧ Hid (∀ k, k < l.length → ∃ b o, a = some ⟨b, o, none⟩ ∧ b < w.heap.size ∧ ∀ w', Below w.heap.size w w' → w'.cell? ⟨b, o + k, none⟩ = some (.int .i64 (l.getD k 0))) := by
  obtain ⟨a, c, e, h1, h2, h3⟩ := h
  refine ⟨a, c, e, h1, h2, hide fun k hk => ?_⟩
  obtain ⟨b, o, e1, e2, e3⟩ := h3 k hk
  refine ⟨b, o, e1, e2, fun w' hb => ?_⟩
  rw [hb.cell (p := ⟨b, o + k, none⟩) e2, e3, List.getD_eq_getElem?_getD, List.getElem?_eq_getElem hk]; rfl
theorem Sp.getD_memA {l : List Int} {k : Nat} (h : k < l.length) : l.getD k 0 ∈ l := by
  rw [List.getD_eq_getElem?_getD, List.getElem?_eq_getElem h]; exact List.getElem_mem h
theorem Sp.arc_mem {L : List Sp.Arc} {k : Nat} (h : k < L.length) : L.getD k Sp.arc0 ∈ L := by
  rw [List.getD_eq_getElem?_getD, List.getElem?_eq_getElem h]; exact List.getElem_mem h
set_option maxRecDepth 100000 in
set_option maxHeartbeats 1000000 in
theorem isPlace_yes (n v : Int) (w : World) (h0 : 0 ≤ v) (h1 : v < n) : Calls Try.prog 58 #[.int .i64 n, .int .i64 v] w fun e w' => e = .returned (.bool true) ∧ w' = w := by
  go_enter Try.func58, Try.ntmps58
  go_wp2
  go_ret
  exact ⟨rfl, rfl⟩
set_option maxRecDepth 100000 in
set_option maxHeartbeats 1000000 in
theorem isArc_yes (n : Int) (f t l : Int) (w : World) (h0 : 0 ≤ f) (h1 : f < n) (h2 : 0 ≤ t) (h3 : t < n) (h4 : -1099511627776 ≤ l) (h5 : l ≤ 1099511627776) : Calls Try.prog 61 #[.int .i64 n, .agg #[.int .i64 f, .int .i64 t, .int .i64 l]] w fun e w' => e = .returned (.bool true) ∧ Below w.heap.size w w' := by
  have HC1 := hide (isPlace_yes n f (w.alloc (.cells #[.int .i64 f, .int .i64 t, .int .i64 l] 65)) h0 h1)
  have HC2 := hide (isPlace_yes n t (w.alloc (.cells #[.int .i64 f, .int .i64 t, .int .i64 l] 65)) h2 h3)
  obtain ⟨x0, x1, x2⟩ := arc_new w (.int .i64 f) (.int .i64 t) (.int .i64 l)
  have HB := hide ((Below.refl _ w).alloc (Nat.le_refl _) (.cells #[.int .i64 f, .int .i64 t, .int .i64 l] 65))
  clear h0 h1 h2 h3
  go_enter Try.func61, Try.ntmps61
  go_wp2_with fail
  go_at_call 58
  generalize w.alloc (.cells #[.int .i64 f, .int .i64 t, .int .i64 l] 65) = W1 at *
  refine (unhide HC1).mono ?_
  rintro e w2 ⟨rfl, rfl⟩
  go_wp2_with fail
  go_at_call 58
  refine (unhide HC2).mono ?_
  rintro e w3 ⟨rfl, rfl⟩
  go_wp2
  go_ret
  exact ⟨by rfl, unhide HB⟩
set_option maxRecDepth 100000 in
set_option maxHeartbeats 1000000 in
theorem psound1_any (n v : Int) (b : Nat) (w : World) (h0 : 0 ≤ v) (h1 : v < n) (hc : w.cell? ⟨b, 0, none⟩ = some (.int .i64 n)) : Calls Try.prog 57 #[.int .i64 v, .pointer (some ⟨b, 0, none⟩)] w fun e w' => e = .returned (.bool false) ∧ Below w.heap.size w w' := by
  have HC1 := hide (isPlace_yes n v w h0 h1)
  have HB := hide (Below.refl w.heap.size w)
  clear h0 h1
  go_enter Try.func57, Try.ntmps57
  go_wp2_with fail
  go_at_call 58
  refine (unhide HC1).mono ?_
  rintro e w2 ⟨rfl, rfl⟩
  go_wp2
  go_ret
  exact ⟨by rfl, unhide HB⟩
set_option maxRecDepth 100000 in
set_option maxHeartbeats 1000000 in
theorem psound2_any (n f t l : Int) (b : Nat) (w : World) (h0 : 0 ≤ f) (h1 : f < n) (h2 : 0 ≤ t) (h3 : t < n) (h4 : -1099511627776 ≤ l) (h5 : l ≤ 1099511627776) (hb : b < w.heap.size) (hc : w.cell? ⟨b, 0, none⟩ = some (.int .i64 n)) : Calls Try.prog 60 #[.agg #[.int .i64 f, .int .i64 t, .int .i64 l], .pointer (some ⟨b, 0, none⟩)] w fun e w' => e = .returned (.bool false) ∧ Below w.heap.size w w' := by
  have HC1 := hide (isArc_yes n f t l (w.alloc (.cells #[.int .i64 f, .int .i64 t, .int .i64 l] 65)) h0 h1 h2 h3 h4 h5)
  obtain ⟨x0, x1, x2⟩ := arc_new w (.int .i64 f) (.int .i64 t) (.int .i64 l)
  have hb1 := (Below.refl _ w).alloc (Nat.le_refl _) (.cells #[.int .i64 f, .int .i64 t, .int .i64 l] 65)
  have hc1 := (hb1.cell hb).trans hc
  have HB := hide (And.intro hb1 hb1.size)
  clear h0 h1 h2 h3 h4 h5 hb1
  go_enter Try.func60, Try.ntmps60
  go_wp2_with fail
  go_at_call 61
  generalize w.alloc (.cells #[.int .i64 f, .int .i64 t, .int .i64 l] 65) = W1 at *
  refine (unhide HC1).mono ?_
  rintro e w2 ⟨rfl, hb2⟩
  have HB2 := hide ((unhide HB).1.trans (hb2.mono (unhide HB).2))
  clear hb2
  go_wp2
  go_ret
  exact ⟨by rfl, unhide HB2⟩
set_option maxRecDepth 100000 in
set_option maxHeartbeats 1000000 in
theorem pforward1_any (f t l : Int) (w : World) (h0 : ¬ l < 0) : Calls Try.prog 62 #[.agg #[.int .i64 f, .int .i64 t, .int .i64 l]] w fun e w' => e = .returned (.bool false) ∧ Below w.heap.size w w' := by
  obtain ⟨x0, x1, x2⟩ := arc_new w (.int .i64 f) (.int .i64 t) (.int .i64 l)
  have HB := hide ((Below.refl _ w).alloc (Nat.le_refl _) (.cells #[.int .i64 f, .int .i64 t, .int .i64 l] 65))
  go_enter Try.func62, Try.ntmps62
  go_wp2
  go_ret
  exact ⟨by rfl, unhide HB⟩
set_option maxRecDepth 100000 in
set_option maxHeartbeats 2000000 in
theorem indexEnds (n : Nat) (L : List Int) (lv : Value) (b : Nat) (w : World) (hl : Ints w lv L) (h1000 : L.length ≤ 1000) (hld : ∀ x ∈ L, 0 ≤ x ∧ x < (n : Int)) (hb : b < w.heap.size) (hc : w.cell? ⟨b, 0, none⟩ = some (.int .i64 (n : Int))) :
    Calls Try.prog 54 #[lv, .func (.func 57) #[] #[.pointer (some ⟨b, 0, none⟩)]] w fun e w' => e = .returned (.int .i64 (-1)) ∧ Below w.heap.size w w' := by
  have HC : Hid (∀ w' j, Below w.heap.size w w' → j < L.length → Calls Try.prog 57 #[.int .i64 (L.getD j 0), .pointer (some ⟨b, 0, none⟩)] w' fun e w'' => e = .returned (.bool false) ∧ Below w'.heap.size w' w'') := hide fun w' j hw hj =>
    psound1_any n (L.getD j 0) b w' (hld _ (Sp.getD_memA hj)).1 (hld _ (Sp.getD_memA hj)).2 ((hw.cell hb).trans hc)
  obtain ⟨la, lc, rfl, -, -, HL⟩ := hl.allA
  obtain ⟨P, hP⟩ : ∃ P : Ending → World → Prop, P = fun e w' => e = .returned (.int .i64 (-1)) ∧ Below w.heap.size w w' := ⟨_, rfl⟩
  rw [← hP]
  have HP := hide hP
  clear hP hl hld hb hc
  go_enter Try.func54, Try.ntmps54
  go_wp2
  go_loopg [8] L.length (fun g s8 wr => ∃ k : Nat, k + g = L.length ∧ s8 = .int .i64 (k : Int) ∧ Hid (Below w.heap.size w wr))
  case atStart => exact ⟨0, by omega, rfl, hide (Below.refl _ _)⟩
  case round =>
    obtain ⟨k, hk, rfl, HB⟩ := hrel
    cases gk with
    | zero =>
      obtain rfl : k = L.length := by omega
      go_wp2
      rw [unhide HP]
      exact ⟨by rfl, unhide HB⟩
    | succ g' =>
      have hlt : k < L.length := by omega
      have hltI : (k : Int) < (L.length : Int) := by omega
      obtain ⟨b', o, rfl, -, hcx⟩ := unhide HL k hlt
      have c1 := hcx wr (unhide HB)
      have HCl := hide (unhide HC wr k (unhide HB) hlt)
      generalize L.getD k 0 = z at *
      clear hcx
      go_wp2_with fail
      go_at_call 57
      refine (unhide HCl).mono ?_
      rintro e w2 ⟨rfl, hb2⟩
      have HB2 := hide ((unhide HB).trans (hb2.mono (unhide HB).size))
      clear hb2 HCl HB c1
      go_wp2
      go_roundg g'
      case rel => exact ⟨k + 1, by omega, by go_num, HB2⟩
      case measure => omega
set_option maxRecDepth 100000 in
set_option maxHeartbeats 1000000 in
theorem containsEnds (n : Nat) (L : List Int) (lv : Value) (b : Nat) (w : World) (hl : Ints w lv L) (h1000 : L.length ≤ 1000) (hld : ∀ x ∈ L, 0 ≤ x ∧ x < (n : Int)) (hb : b < w.heap.size) (hc : w.cell? ⟨b, 0, none⟩ = some (.int .i64 (n : Int))) :
    Calls Try.prog 56 #[lv, .func (.func 57) #[] #[.pointer (some ⟨b, 0, none⟩)]] w fun e w' => e = .returned (.bool false) ∧ Below w.heap.size w w' := by
  have HL := hide (indexEnds n L lv b w hl h1000 hld hb hc)
  clear hl hld hb hc
  go_enter Try.func56, Try.ntmps56
  go_wp2_with fail
  go_at_call 54
  refine (unhide HL).mono ?_
  rintro e w2 ⟨rfl, hb2⟩
  have HB := hide hb2
  clear hb2
  go_wp2
  go_ret
  exact ⟨by rfl, unhide HB⟩
set_option maxRecDepth 100000 in
set_option maxHeartbeats 2000000 in
theorem indexArcs (n : Nat) (L : List Sp.Arc) (lv : Value) (b : Nat) (w : World) (hl : ArcsI w lv L) (h1000 : L.length ≤ 1000) (hld : Sp.Snd n L) (hb : b < w.heap.size) (hc : w.cell? ⟨b, 0, none⟩ = some (.int .i64 (n : Int))) :
    Calls Try.prog 82 #[lv, .func (.func 60) #[] #[.pointer (some ⟨b, 0, none⟩)]] w fun e w' => e = .returned (.int .i64 (-1)) ∧ Below w.heap.size w w' := by
  have HC : Hid (∀ w' j, Below w.heap.size w w' → j < L.length → Calls Try.prog 60 #[.agg #[.int .i64 ((L.getD j Sp.arc0).f : Int), .int .i64 ((L.getD j Sp.arc0).t : Int), .int .i64 (L.getD j Sp.arc0).l], .pointer (some ⟨b, 0, none⟩)] w' fun e w'' => e = .returned (.bool false) ∧ Below w'.heap.size w' w'') := hide fun w' j hw hj =>
    psound2_any n _ _ _ b w' (by omega) (by have := (hld.at_ _ (Sp.arc_mem hj)).1; omega) (by omega) (by have := (hld.at_ _ (Sp.arc_mem hj)).2.1; omega) (hld.at_ _ (Sp.arc_mem hj)).2.2.1 (hld.at_ _ (Sp.arc_mem hj)).2.2.2 (by have := hw.size; omega) ((hw.cell hb).trans hc)
  obtain ⟨la, lc, rfl, -, -, HL⟩ := hl.all
  obtain ⟨P, hP⟩ : ∃ P : Ending → World → Prop, P = fun e w' => e = .returned (.int .i64 (-1)) ∧ Below w.heap.size w w' := ⟨_, rfl⟩
  rw [← hP]
  have HP := hide hP
  clear hP hl hld hb hc
  go_enter Try.func82, Try.ntmps82
  go_wp2
  go_loopg [8] L.length (fun g s8 wr => ∃ k : Nat, k + g = L.length ∧ s8 = .int .i64 (k : Int) ∧ Hid (Below w.heap.size w wr))
  case atStart => exact ⟨0, by omega, rfl, hide (Below.refl _ _)⟩
  case round =>
    obtain ⟨k, hk, rfl, HB⟩ := hrel
    cases gk with
    | zero =>
      obtain rfl : k = L.length := by omega
      go_wp2
      rw [unhide HP]
      exact ⟨by rfl, unhide HB⟩
    | succ g' =>
      have hlt : k < L.length := by omega
      have hltI : (k : Int) < (L.length : Int) := by omega
      obtain ⟨b', o, rfl, -, hcx⟩ := unhide HL k hlt
      obtain ⟨c1, c2, c3⟩ := hcx wr (unhide HB)
      have HCl := hide (unhide HC wr k (unhide HB) hlt)
      generalize (L.getD k Sp.arc0).f = zf at *
      generalize (L.getD k Sp.arc0).t = zt at *
      generalize (L.getD k Sp.arc0).l = zl at *
      clear hcx
      go_wp2_with fail
      go_at_call 60
      refine (unhide HCl).mono ?_
      rintro e w2 ⟨rfl, hb2⟩
      have HB2 := hide ((unhide HB).trans (hb2.mono (unhide HB).size))
      clear hb2 HCl HB c1
      go_wp2
      go_roundg g'
      case rel => exact ⟨k + 1, by omega, by go_num, HB2⟩
      case measure => omega
set_option maxRecDepth 100000 in
set_option maxHeartbeats 1000000 in
theorem containsArcs (n : Nat) (L : List Sp.Arc) (lv : Value) (b : Nat) (w : World) (hl : ArcsI w lv L) (h1000 : L.length ≤ 1000) (hld : Sp.Snd n L) (hb : b < w.heap.size) (hc : w.cell? ⟨b, 0, none⟩ = some (.int .i64 (n : Int))) :
    Calls Try.prog 59 #[lv, .func (.func 60) #[] #[.pointer (some ⟨b, 0, none⟩)]] w fun e w' => e = .returned (.bool false) ∧ Below w.heap.size w w' := by
  have HL := hide (indexArcs n L lv b w hl h1000 hld hb hc)
  clear hl hld hb hc
  go_enter Try.func59, Try.ntmps59
  go_wp2_with fail
  go_at_call 82
  refine (unhide HL).mono ?_
  rintro e w2 ⟨rfl, hb2⟩
  have HB := hide hb2
  clear hb2
  go_wp2
  go_ret
  exact ⟨by rfl, unhide HB⟩
set_option maxRecDepth 100000 in
set_option maxHeartbeats 2000000 in
theorem indexFwd (L : List Sp.Arc) (lv : Value) (w : World) (hl : ArcsI w lv L) (h1000 : L.length ≤ 1000) (hld : ∀ a ∈ L, 0 ≤ a.l) :
    Calls Try.prog 82 #[lv, .func (.func 62) #[] #[]] w fun e w' => e = .returned (.int .i64 (-1)) ∧ Below w.heap.size w w' := by
  have HC : Hid (∀ w' j, Below w.heap.size w w' → j < L.length → Calls Try.prog 62 #[.agg #[.int .i64 ((L.getD j Sp.arc0).f : Int), .int .i64 ((L.getD j Sp.arc0).t : Int), .int .i64 (L.getD j Sp.arc0).l]] w' fun e w'' => e = .returned (.bool false) ∧ Below w'.heap.size w' w'') := hide fun w' j hw hj =>
    pforward1_any _ _ _ w' (Int.not_lt.2 (hld _ (Sp.arc_mem hj)))
  obtain ⟨la, lc, rfl, -, -, HL⟩ := hl.all
  obtain ⟨P, hP⟩ : ∃ P : Ending → World → Prop, P = fun e w' => e = .returned (.int .i64 (-1)) ∧ Below w.heap.size w w' := ⟨_, rfl⟩
  rw [← hP]
  have HP := hide hP
  clear hP hl hld
  go_enter Try.func82, Try.ntmps82
  go_wp2
  go_loopg [8] L.length (fun g s8 wr => ∃ k : Nat, k + g = L.length ∧ s8 = .int .i64 (k : Int) ∧ Hid (Below w.heap.size w wr))
  case atStart => exact ⟨0, by omega, rfl, hide (Below.refl _ _)⟩
  case round =>
    obtain ⟨k, hk, rfl, HB⟩ := hrel
    cases gk with
    | zero =>
      obtain rfl : k = L.length := by omega
      go_wp2
      rw [unhide HP]
      exact ⟨by rfl, unhide HB⟩
    | succ g' =>
      have hlt : k < L.length := by omega
      have hltI : (k : Int) < (L.length : Int) := by omega
      obtain ⟨b', o, rfl, -, hcx⟩ := unhide HL k hlt
      obtain ⟨c1, c2, c3⟩ := hcx wr (unhide HB)
      have HCl := hide (unhide HC wr k (unhide HB) hlt)
      generalize (L.getD k Sp.arc0).f = zf at *
      generalize (L.getD k Sp.arc0).t = zt at *
      generalize (L.getD k Sp.arc0).l = zl at *
      clear hcx
      go_wp2_with fail
      go_at_call 62
      refine (unhide HCl).mono ?_
      rintro e w2 ⟨rfl, hb2⟩
      have HB2 := hide ((unhide HB).trans (hb2.mono (unhide HB).size))
      clear hb2 HCl HB c1
      go_wp2
      go_roundg g'
      case rel => exact ⟨k + 1, by omega, by go_num, HB2⟩
      case measure => omega
set_option maxRecDepth 100000 in
set_option maxHeartbeats 1000000 in
theorem containsFwd (L : List Sp.Arc) (lv : Value) (w : World) (hl : ArcsI w lv L) (h1000 : L.length ≤ 1000) (hld : ∀ a ∈ L, 0 ≤ a.l) :
    Calls Try.prog 59 #[lv, .func (.func 62) #[] #[]] w fun e w' => e = .returned (.bool false) ∧ Below w.heap.size w w' := by
  have HL := hide (indexFwd L lv w hl h1000 hld)
  clear hl hld
  go_enter Try.func59, Try.ntmps59
  go_wp2_with fail
  go_at_call 82
  refine (unhide HL).mono ?_
  rintro e w2 ⟨rfl, hb2⟩
  have HB := hide hb2
  clear hb2
  go_wp2
  go_ret
  exact ⟨by rfl, unhide HB⟩
set_option maxRecDepth 100000 in
set_option maxHeartbeats 1000000 in
theorem forward_yes (L : List Sp.Arc) (lv : Value) (w : World) (hl : ArcsI w lv L) (h1000 : L.length ≤ 1000) (hld : ∀ a ∈ L, 0 ≤ a.l) :
    Calls Try.prog 44 #[lv] w fun e w' => e = .returned (.bool true) ∧ Below w.heap.size w w' := by
  have HC := hide (containsFwd L lv w hl h1000 hld)
  obtain ⟨a, c, rfl, -⟩ := hl.form
  clear hl hld
  go_enter Try.func44, Try.ntmps44
  go_wp2_with fail
  go_at_call 59
  refine (unhide HC).mono ?_
  rintro e w2 ⟨rfl, hb2⟩
  have HB := hide hb2
  clear hb2
  go_wp2
  go_ret
  exact ⟨by rfl, unhide HB⟩
set_option maxRecDepth 100000 in
set_option maxHeartbeats 2000000 in
theorem psound_yes (n : Nat) (L : List Sp.Arc) (E : List Int) (lv ev : Value) (w : World) (hl : ArcsI w lv L) (he : Ints w ev E) (hE : E.length ≤ 1000) (hn : 1 ≤ n ∧ n ≤ 300) (hS : Sp.Snd n L) (hld : ∀ x ∈ E, 0 ≤ x ∧ x < (n : Int)) :
    Calls Try.prog 43 #[.int .i64 (n : Int), lv, ev] w fun e w' => e = .returned (.bool true) ∧ Below w.heap.size w w' := by
  have hn1 : ¬ (n : Int) < 1 := by omega
  have hn2 : ¬ 300 < (n : Int) := by omega
  have hf := hS.few
  have hl3 : ¬ 1000 < (L.length : Int) := by omega
  obtain ⟨W1, hW1⟩ : ∃ W1, W1 = w.alloc (.cells #[.int .i64 (n : Int)] 3) := ⟨_, rfl⟩
  have hb1 : Below w.heap.size w W1 := by rw [hW1]; exact (Below.refl _ w).alloc (Nat.le_refl _) _
  have hs1 : W1.heap.size = w.heap.size + 1 := by rw [hW1]; simp
  have hc1 : W1.cell? ⟨w.heap.size, 0, none⟩ = some (.int .i64 (n : Int)) := by
    have e : W1.heap[w.heap.size]? = some (.cells #[.int .i64 (n : Int)] 3) := by
      rw [hW1]; show (w.heap.push _)[w.heap.size]? = _; simp
    simp only [World.cell?, e]; rfl
  have HC1 := hide (containsEnds n E ev w.heap.size W1 (he.below hb1) hE hld (by omega) hc1)
  have HC2 : Hid (∀ w', Below W1.heap.size W1 w' → Calls Try.prog 59 #[lv, .func (.func 60) #[] #[.pointer (some ⟨w.heap.size, 0, none⟩)]] w' fun e w'' => e = .returned (.bool false) ∧ Below w'.heap.size w' w'') := hide fun w' hw =>
    containsArcs n L lv w.heap.size w' ((hl.below hb1).below hw) hf hS (by have := hw.size; omega) ((hw.cell (by show w.heap.size < _; omega)).trans hc1)
  have HB : Hid (∀ w' w'', Below W1.heap.size W1 w' → Below w'.heap.size w' w'' → Below w.heap.size w w'') := hide fun w' w'' h h' => hb1.trans ((h.trans (h'.mono h.size)).mono (by omega))
  obtain ⟨a, c, rfl, -⟩ := hl.form
  obtain ⟨a2, c2, rfl, -⟩ := he.form
  clear hl he hS hld hb1 hs1
  subst hW1
  go_enter Try.func43, Try.ntmps43
  go_wp2_with fail
  go_at_call 56
  generalize w.alloc (.cells #[.int .i64 (n : Int)] 3) = W1 at *
  refine (unhide HC1).mono ?_
  rintro e w2 ⟨rfl, hb2⟩
  have HB2 := hide hb2
  have HC3 := hide (unhide HC2 _ hb2)
  clear hb2 HC1 hc1
  go_wp2_with fail
  go_at_call 59
  refine (unhide HC3).mono ?_
  rintro e w3 ⟨rfl, hb3⟩
  have HB3 := hide (unhide HB _ _ (unhide HB2) hb3)
  clear hb3
  go_wp2
  go_ret
  exact ⟨by rfl, unhide HB3⟩
end Go.Proofs.Ytoegjnolccabjab


/- A heap's block: 901 numbers; what a store into it leaves. -/
namespace Go.Proofs.Ytoegjnolccabjab
open Go Go.RowKit

/-- One number of a row turned. -/
def Sp.upd (z : Nat → Int) (j : Nat) (v : Int) : Nat → Int := fun k => if k = j then v else z k
theorem Sp.upd_same (z : Nat → Int) (j : Nat) (v : Int) : Sp.upd z j v j = v := by simp [Sp.upd]
theorem Sp.upd_other (z : Nat → Int) {j k : Nat} (v : Int) (h : k ≠ j) : Sp.upd z j v k = z k := by simp [Sp.upd, h]

/-- Block b holds a heap's numbers. -/
def HpAt (w : World) (b : Nat) (z : Nat → Int) : Prop := ∃ c, w.heap[b]? = some (.cells c 111) ∧ c.size = 901 ∧ ∀ j, j < 901 → c[j]? = some (.int .i64 (z j))
theorem HpAt.lt {w : World} {b : Nat} {z : Nat → Int} (h : HpAt w b z) : b < w.heap.size := by
  obtain ⟨c, hc, -⟩ := h
  exact (Array.getElem?_eq_some_iff.1 hc).1
theorem HpAt.cell {w : World} {b : Nat} {z : Nat → Int} (h : HpAt w b z) {j : Nat} (hj : j < 901) : w.cell? ⟨b, j, none⟩ = some (.int .i64 (z j)) := by
  obtain ⟨c, hc, -, hz⟩ := h
  simp only [World.cell?, hc]
  exact hz j hj
theorem HpAt.frozen {w : World} {b : Nat} {z : Nat → Int} (h : HpAt w b z) (j : Nat) (s : Option Nat) : w.frozen? ⟨b, j, s⟩ = false := by
  obtain ⟨c, hc, -⟩ := h
  simp only [World.frozen?, hc]
  simp
theorem HpAt.of_block {w w' : World} {b : Nat} {z : Nat → Int} (h : HpAt w b z) (e : w'.heap[b]? = w.heap[b]?) : HpAt w' b z := by
  obtain ⟨c, hc, h1⟩ := h
  exact ⟨c, by rw [e]; exact hc, h1⟩
theorem HpAt.set {w : World} {b : Nat} {z : Nat → Int} (h : HpAt w b z) (j : Nat) (v : Int) : HpAt (w.setCell ⟨b, j, none⟩ (.int .i64 v)) b (Sp.upd z j v) := by
  obtain ⟨c, hc, hs, hz⟩ := h
  refine ⟨c.setIfInBounds j (.int .i64 v), ?_, by simpa using hs, fun k hk => ?_⟩
  · simp only [World.setCell, Array.getElem?_modify, if_pos, hc]
    rfl
  · rw [Array.getElem?_setIfInBounds]
    by_cases hjk : j = k
    · rw [if_pos hjk, if_pos (by omega), ← hjk, Sp.upd_same]
    · rw [if_neg hjk, hz k hk, Sp.upd_other _ _ (by omega)]
/-- All but block b is as it was. -/
structure But (b : Nat) (w w' : World) : Prop where
  os : w'.os = w.os
  tape : w'.tape = w.tape
  output : w'.output = w.output
  size : w.heap.size ≤ w'.heap.size
  block : ∀ k, k < w.heap.size → k ≠ b → w'.heap[k]? = w.heap[k]?
theorem But.refl (b : Nat) (w : World) : But b w w := ⟨rfl, rfl, rfl, Nat.le_refl _, fun _ _ _ => rfl⟩
theorem But.trans {b : Nat} {u v w : World} (h : But b u v) (k : But b v w) : But b u w :=
  ⟨k.os.trans h.os, k.tape.trans h.tape, k.output.trans h.output, Nat.le_trans h.size k.size, fun i hi hb => (k.block i (Nat.lt_of_lt_of_le hi h.size) hb).trans (h.block i hi hb)⟩
theorem But.of {b : Nat} {w w' : World} (h : Below w.heap.size w w') : But b w w' := ⟨h.os, h.tape, h.output, h.size, fun k hk _ => h.block k hk⟩
theorem But.below {b B : Nat} {w w' : World} (h : But b w w') (hB : B ≤ b) (hw : B ≤ w.heap.size) : Below B w w' := ⟨h.os, h.tape, h.output, h.size, fun k hk => h.block k (by omega) (by omega)⟩
theorem But.drew {b : Nat} {u w : World} (h : But b u w) : But b u w.drew := h.trans ⟨rfl, rfl, rfl, Nat.le_refl _, fun _ _ _ => rfl⟩
theorem But.alloc {b : Nat} {u w : World} (h : But b u w) (o : Obj) : But b u (w.alloc o) := h.trans (But.of ((Below.refl _ w).alloc (Nat.le_refl _) o))
theorem But.set {b : Nat} {u w : World} (h : But b u w) (j : Nat) (s : Option Nat) (v : Value) : But b u (w.setCell ⟨b, j, s⟩ v) :=
  h.trans ⟨rfl, rfl, rfl, by simp [World.setCell], fun k _ hb => Below.heap_setCell _ _ _ _ hb⟩
theorem But.cell {b : Nat} {w w' : World} (h : But b w w') {p : Addr} (hp : p.block < w.heap.size) (hb : p.block ≠ b) : w'.cell? p = w.cell? p := World.cell?_of_block (w := w) (h.block p.block hp hb)
theorem HpAt.below {w w' : World} {b : Nat} {z : Nat → Int} (h : HpAt w b z) (hb : Below w.heap.size w w') : HpAt w' b z := h.of_block (hb.block b h.lt)
theorem HpAt.alloc {w : World} {b : Nat} {z : Nat → Int} (h : HpAt w b z) (o : Obj) : HpAt (w.alloc o) b z := h.below ((Below.refl _ w).alloc (Nat.le_refl _) o)
theorem HpAt.drew {w : World} {b : Nat} {z : Nat → Int} (h : HpAt w b z) : HpAt w.drew b z := h.of_block rfl
/-- An item in a block of its own. -/
theorem item_new (w : World) (k r : Value) : (w.alloc (.cells #[k, r] 98)).cell? ⟨w.heap.size, 0, none⟩ = some k ∧ (w.alloc (.cells #[k, r] 98)).cell? ⟨w.heap.size, 1, none⟩ = some r := by
  have e : (w.alloc (.cells #[k, r] 98)).heap[w.heap.size]? = some (.cells #[k, r] 98) := by
    show (w.heap.push _)[w.heap.size]? = _
    simp
  constructor <;> simp only [World.cell?, e] <;> rfl

set_option maxRecDepth 100000 in
set_option maxHeartbeats 1000000 in
theorem isKey_any (k : Int) (w : World) : Calls Try.prog 83 #[.int .i64 k] w fun e w' => e = .returned (.bool (decide (0 ≤ k ∧ k < 300))) ∧ w' = w := by
  by_cases h0 : 0 ≤ k
  · by_cases h1 : k < 300
    · have HR := hide (decide_eq_true (And.intro h0 h1))
      generalize decide (0 ≤ k ∧ k < 300) = R at *
      go_enter Try.func83, Try.ntmps83
      go_wp2
      go_ret
      exact ⟨by rw [unhide HR]; rfl, rfl⟩
    · have HR := hide (show decide (0 ≤ k ∧ k < 300) = false from decide_eq_false (by omega))
      generalize decide (0 ≤ k ∧ k < 300) = R at *
      go_enter Try.func83, Try.ntmps83
      go_wp2
      go_ret
      exact ⟨by rw [unhide HR]; rfl, rfl⟩
  · have HR := hide (show decide (0 ≤ k ∧ k < 300) = false from decide_eq_false (by omega))
    generalize decide (0 ≤ k ∧ k < 300) = R at *
    go_enter Try.func83, Try.ntmps83
    go_wp2
    go_ret
    exact ⟨by rw [unhide HR]; rfl, rfl⟩

/-- Whether one item is to be taken before another one: keys, ranks. -/
def Sp.aheadB (k r k' r' : Int) : Bool := decide (r < r') || (decide (r = r') && decide (k < k'))
set_option maxRecDepth 100000 in
set_option maxHeartbeats 1000000 in
theorem ahead_any (k r k' r' : Int) (w : World) : Calls Try.prog 96 #[.agg #[.int .i64 k, .int .i64 r], .agg #[.int .i64 k', .int .i64 r']] w fun e w' => e = .returned (.bool (Sp.aheadB k r k' r')) ∧ Below w.heap.size w w' := by
  have HB : Hid (∀ o o', Below w.heap.size w ((w.alloc o).alloc o')) := hide fun o o' => ((Below.refl _ w).alloc (Nat.le_refl _) o).alloc (by simp) o'
  by_cases h0 : r < r'
  · have HR : Hid (Sp.aheadB k r k' r' = true) := hide (by simp [Sp.aheadB, h0])
    generalize Sp.aheadB k r k' r' = R at *
    go_enter Try.func96, Try.ntmps96
    go_wp2
    go_ret
    exact ⟨by rw [unhide HR]; rfl, unhide HB _ _⟩
  · by_cases h1 : r = r'
    · subst h1
      by_cases h2 : k < k'
      · have HR : Hid (Sp.aheadB k r k' r = true) := hide (by simp [Sp.aheadB, h2])
        generalize Sp.aheadB k r k' r = R at *
        go_enter Try.func96, Try.ntmps96
        go_wp2
        go_ret
        exact ⟨by rw [unhide HR]; rfl, unhide HB _ _⟩
      · have HR : Hid (Sp.aheadB k r k' r = false) := hide (by simp [Sp.aheadB, h2])
        generalize Sp.aheadB k r k' r = R at *
        go_enter Try.func96, Try.ntmps96
        go_wp2
        go_ret
        exact ⟨by rw [unhide HR]; rfl, unhide HB _ _⟩
    · have HR : Hid (Sp.aheadB k r k' r' = false) := hide (by simp [Sp.aheadB, h0, h1])
      generalize Sp.aheadB k r k' r' = R at *
      go_enter Try.func96, Try.ntmps96
      go_wp2
      go_ret
      exact ⟨by rw [unhide HR]; rfl, unhide HB _ _⟩
end Go.Proofs.Ytoegjnolccabjab


/- Package heap: find, stand. -/
namespace Go.Proofs.Ytoegjnolccabjab
open Go Go.RowKit

theorem cell_set_ne {w : World} {b j b' j' : Nat} {v : Value} (h : b ≠ b' ∨ j ≠ j') : (w.setCell ⟨b, j, none⟩ v).cell? ⟨b', j', none⟩ = w.cell? ⟨b', j', none⟩ := by
  apply World.cell?_setCell_other
  intro e
  injection e with e1 e2
  omega
/-- An item laid at a place. -/
def Sp.stand (z : Nat → Int) (p k : Nat) (r : Int) : Nat → Int := Sp.upd (Sp.upd (Sp.upd z (p * 2) (k : Int)) (p * 2 + 1) r) (601 + k) ((p : Int) + 1)

set_option maxRecDepth 100000 in
set_option maxHeartbeats 1000000 in
theorem stand_any (z : Nat → Int) (b p k : Nat) (r : Int) (w : World) (h : HpAt w b z) (hp : p < 300) (hk : k < 300) :
    Calls Try.prog 95 #[.pointer (some ⟨b, 0, none⟩), .int .i64 (p : Int), .agg #[.int .i64 (k : Int), .int .i64 r]] w fun e w' => e = .returned (.tuple #[]) ∧ But b w w' ∧ HpAt w' b (Sp.stand z p k r) := by
  have hpI : (p : Int) < 300 := by omega
  have hkI : (k : Int) < 300 := by omega
  have hb := h.lt
  obtain ⟨x0, x1⟩ := item_new w (.int .i64 (k : Int)) (.int .i64 r)
  have h1 := h.alloc (.cells #[.int .i64 (k : Int), .int .i64 r] 98)
  have c0 := h1.cell (j := p * 2) (by omega)
  have c1 := h1.cell (j := p * 2 + 1) (by omega)
  have f := fun j => h1.frozen j none
  have c1' := fun v : Value => show ((w.alloc (.cells #[.int .i64 (k : Int), .int .i64 r] 98)).setCell ⟨b, p * 2, none⟩ v).cell? ⟨b, p * 2 + 1, none⟩ = some (.int .i64 (z (p * 2 + 1))) by rw [cell_set_ne (by omega)]; exact c1
  have H := hide h1
  clear h h1
  go_enter Try.func95, Try.ntmps95
  go_wp2_with fail
  generalize hW : w.alloc (.cells #[.int .i64 (k : Int), .int .i64 r] 98) = W1 at *
  have HW := hide hW
  clear hW
  go_region
  go_wp2_with fail
  obtain ⟨W2, hW2⟩ : ∃ W2, W2 = ((W1.setCell ⟨b, p * 2, none⟩ (.int .i64 (k : Int))).setCell ⟨b, p * 2 + 1, none⟩ (.int .i64 r)).drew := ⟨_, rfl⟩
  have h2 : HpAt W2 b (Sp.upd (Sp.upd z (p * 2) (k : Int)) (p * 2 + 1) r) := by rw [hW2]; exact (((unhide H).set _ _).set _ _).drew
  have HB2 : Hid (But b w W2) := hide (by rw [hW2, ← unhide HW]; exact ((((But.refl b w).alloc _).set _ _ _).set _ _ _).drew)
  have y0 : W2.cell? ⟨w.heap.size, 0, none⟩ = some (.int .i64 (k : Int)) := by
    rw [hW2]; show World.cell? (World.setCell _ _ _) _ = _; rw [cell_set_ne (by omega), cell_set_ne (by omega)]; exact x0
  rw [← hW2]
  clear x0 x1 c0 c1 f c1' H HW hW2
  have c2 := h2.cell (j := 601 + k) (by omega)
  have f2 := fun j => h2.frozen j none
  have H2 := hide h2
  clear h2
  go_region
  go_wp2
  go_end0
  exact ⟨rfl, ((unhide HB2).set _ _ _).drew, ((unhide H2).set _ _).drew⟩
end Go.Proofs.Ytoegjnolccabjab


