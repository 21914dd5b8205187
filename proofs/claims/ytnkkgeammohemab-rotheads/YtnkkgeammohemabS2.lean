/- The walks of package rot: matched, walkable. -/
import Derived.Test.YtnkkgeammohemabS1
namespace Go.Proofs.Ytnkkgeammohemab
open Go Go.RowKit

set_option maxRecDepth 100000 in
set_option maxHeartbeats 1000000 in
theorem matched_any (q : Sp.Net) (v tv nv cv : Value) (w : World) (hv : NetI w v q tv nv cv) :
    Calls Try.prog 25 #[v] w fun e w' => e = .returned (.bool (Sp.matchedB q)) ∧ Below w.heap.size w w' := by
  obtain ⟨rfl, h1, h2, h3⟩ := hv
  obtain ⟨ta, tc, rfl, htc, htm⟩ := h1.form
  obtain ⟨na, nc, rfl, hnc, hnm, HT⟩ := h2.all
  obtain ⟨ca, cc, rfl, hcc, hcm⟩ := h3.form
  clear h1 h2 h3
  have HF : Hid (Sp.matchedB q = (decide (q.tail.length % 2 = 0 ∧ q.next.length = q.tail.length ∧ q.cap.length = q.tail.length) && q.next.all (Sp.inB q.tail.length))) := hide rfl
  generalize Sp.matchedB q = R at *
  unfold maxLen at htm hnm hcm
  have hb : ∀ o, Below w.heap.size w (w.alloc o) := fun o => (Below.refl _ w).alloc (Nat.le_refl _) o
  have HB := hide hb
  clear hb
  have hm : (q.tail.length : Int).tmod 2 = ((q.tail.length % 2 : Nat) : Int) := by
    rw [Int.tmod_eq_emod_of_nonneg (by omega)]; simp
  have hm2 : (q.tail.length : Int) % 2 = ((q.tail.length % 2 : Nat) : Int) := by simp
  by_cases c1 : q.tail.length % 2 = 0
  · have c1' : ((q.tail.length : Int) % 2 != 0) = false := by simp; omega
    by_cases c2 : q.next.length = q.tail.length
    · by_cases c3 : q.cap.length = q.tail.length
      · rw [decide_eq_true ⟨c1, c2, c3⟩, Bool.true_and] at HF
        rw [c2] at hnc ⊢
        rw [c3] at hcc ⊢
        have C2 := hide c2
        clear c1 c2 c3 hm hm2
        go_enter Try.func25, Try.ntmps25
        go_wp2
        go_loop [29] (fun i => ∃ k : Nat, k ≤ q.tail.length ∧ i = .int .i64 (k : Int) ∧ Hid ((q.next.take k).all (Sp.inB q.tail.length) = true)) (fun i => q.tail.length - (intOf i).toNat)
        case atStart => exact ⟨0, by omega, rfl, hide rfl⟩
        case round =>
          obtain ⟨k, hk, rfl, hall⟩ := hrel
          by_cases hlt : k < q.tail.length
          · have hltn : k < q.next.length := by rw [unhide C2]; exact hlt
            obtain ⟨b, o, rfl, -, hcx⟩ := unhide HT k hltn
            have g := fun ob => hcx _ (unhide HB ob)
            have HS := hide (all_take_snoc (Sp.inB q.tail.length) q.next k hltn)
            have HX := hide (all_stop (Sp.inB q.tail.length) q.next k hltn)
            clear hcx
            generalize q.next[k] = z at *
            clear hltn
            by_cases d1 : z < 0
            · have HF2 : Hid (R = false) := hide (by rw [unhide HF, unhide HX (by simp [Sp.inB]; omega)])
              go_wp2
              go_ret
              exact ⟨by rw [unhide HF2]; rfl, unhide HB _⟩
            · by_cases d2 : (q.tail.length : Int) ≤ z
              · have HF2 : Hid (R = false) := hide (by rw [unhide HF, unhide HX (by simp [Sp.inB]; omega)])
                go_wp2
                go_ret
                exact ⟨by rw [unhide HF2]; rfl, unhide HB _⟩
              · have HN : Hid ((q.next.take (k + 1)).all (Sp.inB q.tail.length) = true) := hide (by rw [unhide HS, unhide hall]; simp [Sp.inB]; omega)
                go_wp2
                go_round
                case rel => exact ⟨k + 1, by omega, by go_num, HN⟩
                case measure => simp [intOf]; omega
          · have hA := unhide hall
            rw [List.take_of_length_le (by rw [unhide C2]; omega)] at hA
            have HF2 : Hid (R = true) := hide (by rw [unhide HF, hA])
            clear hA
            go_wp2
            go_ret
            exact ⟨by rw [unhide HF2]; rfl, unhide HB _⟩
      · rw [decide_eq_false (fun h => c3 h.2.2)] at HF
        have c2' : ((q.next.length : Int) != (q.tail.length : Int)) = false := by simp; omega
        have c3' : ((q.cap.length : Int) != (q.tail.length : Int)) = true := by simp; omega
        clear c1 c2 c3 hm hm2
        go_enter Try.func25, Try.ntmps25
        go_wp2
        go_ret
        exact ⟨by rw [unhide HF]; rfl, unhide HB _⟩
    · rw [decide_eq_false (fun h => c2 h.2.1)] at HF
      have c2' : ((q.next.length : Int) != (q.tail.length : Int)) = true := by simp; omega
      clear c1 c2 hm hm2
      go_enter Try.func25, Try.ntmps25
      go_wp2
      go_ret
      exact ⟨by rw [unhide HF]; rfl, unhide HB _⟩
  · have c1' : ((q.tail.length : Int) % 2 != 0) = true := by simp; omega
    rw [decide_eq_false (fun h => c1 h.1)] at HF
    clear c1 hm hm2
    go_enter Try.func25, Try.ntmps25
    go_wp2
    go_ret
    exact ⟨by rw [unhide HF]; rfl, unhide HB _⟩
def Sp.walkB (q : Sp.Net) : Bool := Sp.fewB q && (Sp.matchedB q && Sp.placedB q)
set_option maxRecDepth 100000 in
set_option maxHeartbeats 1000000 in
theorem rwalkable_any (q : Sp.Net) (v tv nv cv : Value) (w : World) (hv : NetI w v q tv nv cv) :
    Calls Try.prog 32 #[v] w fun e w' => e = .returned (.bool (Sp.walkB q)) ∧ Below w.heap.size w w' := by
  have H1 := hide (fun w' (hb : Below w.heap.size w w') => few_any q v tv nv cv w' (hv.below hb))
  have H2 := hide (fun w' (hb : Below w.heap.size w w') => matched_any q v tv nv cv w' (hv.below hb))
  have H3 := hide (fun w' (hb : Below w.heap.size w w') => placed_any q v tv nv cv w' (hv.below hb))
  obtain ⟨rfl, h1, h2, h3⟩ := hv
  obtain ⟨ta, tc, rfl, -, -⟩ := h1.form
  obtain ⟨na, nc, rfl, -, -⟩ := h2.form
  obtain ⟨ca, cc, rfl, -, -⟩ := h3.form
  clear h1 h2 h3
  have HBX := hide (box_new w q.n (.slice ta q.tail.length tc) (.slice na q.next.length nc) (.slice ca q.cap.length cc))
  have HF : Hid (Sp.walkB q = (Sp.fewB q && (Sp.matchedB q && Sp.placedB q))) := hide rfl
  generalize Sp.walkB q = R at *
  obtain ⟨W1, hW1⟩ : ∃ W1, W1 = w.alloc (.cells #[.int .i64 q.n, .slice ta q.tail.length tc, .slice na q.next.length nc, .slice ca q.cap.length cc] 25) := ⟨_, rfl⟩
  rw [← hW1] at HBX
  have hb1 : Below w.heap.size w W1 := by rw [hW1]; exact (Below.refl _ w).alloc (Nat.le_refl _) _
  have hs1 : W1.heap.size = w.heap.size + 1 := by rw [hW1]; simp
  have HW : Hid (∀ w', Below W1.heap.size W1 w' → Below w.heap.size w w' ∧ Below (w.heap.size + 1) W1 w') := hide fun w' hb => ⟨hb1.trans (hb.mono (by omega)), hb.mono (by omega)⟩
  have HC1 := hide (unhide H1 W1 hb1)
  clear H1 hb1 hs1
  subst hW1
  go_enter Try.func32, Try.ntmps32
  go_wp2_with fail
  refine (unhide HC1).mono ?_
  rintro e w2 ⟨rfl, hb2⟩
  clear HC1
  generalize w.alloc (.cells #[.int .i64 q.n, .slice ta q.tail.length tc, .slice na q.next.length nc, .slice ca q.cap.length cc] 25) = W1 at *
  obtain ⟨x0, x1, x2, x3, -⟩ := unhide HBX _ (unhide HW _ hb2).2
  generalize Sp.fewB q = F1 at *
  cases F1
  · have HF2 : Hid (R = false) := hide (unhide HF)
    clear HF
    go_wp2
    go_ret
    exact ⟨by rw [unhide HF2]; rfl, (unhide HW _ hb2).1⟩
  · rw [Bool.true_and] at HF
    have HC2 := hide (unhide H2 _ (unhide HW _ hb2).1)
    go_wp2_with fail
    refine (unhide HC2).mono ?_
    rintro e w3 ⟨rfl, hb3⟩
    clear HC2 x0 x1 x2 x3
    have hb3' := hb2.trans (hb3.mono hb2.size)
    obtain ⟨x0, x1, x2, x3, -⟩ := unhide HBX _ (unhide HW _ hb3').2
    generalize Sp.matchedB q = F2 at *
    cases F2
    · have HF2 : Hid (R = false) := hide (unhide HF)
      clear HF
      go_wp2
      go_ret
      exact ⟨by rw [unhide HF2]; rfl, (unhide HW _ hb3').1⟩
    · rw [Bool.true_and] at HF
      have HC3 := hide (unhide H3 _ (unhide HW _ hb3').1)
      go_wp2_with fail
      refine (unhide HC3).mono ?_
      rintro e w4 ⟨rfl, hb4⟩
      clear HC3 x0 x1 x2 x3
      have hb4' := hb3'.trans (hb4.mono hb3'.size)
      go_wp2
      go_ret
      exact ⟨by rw [unhide HF]; rfl, (unhide HW _ hb4').1⟩
end Go.Proofs.Ytnkkgeammohemab


