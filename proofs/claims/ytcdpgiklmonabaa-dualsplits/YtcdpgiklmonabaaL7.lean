/- What the proof needs, part 7. -/
import Derived.WalkMore
import Derived.Scope
import Derived.Test.YtcdpgiklmonabaaL6
/- Package dual: meets; the reference's. -/
namespace Go.Proofs.Ytcdpgiklmonabaa
open Go Go.RowKit

/-- Has a face a dart that begins at a vertex? -/
def Sp.meets (T F : List Int) (f v : Int) : Prop := ∃ d, d < T.length ∧ T.getD d 0 = v ∧ F.getD d 0 = f
noncomputable def Sp.meetsB (T F : List Int) (f v : Int) : Bool := @decide (Sp.meets T F f v) (Classical.propDecidable _)
theorem Sp.meetsB_true {T F : List Int} {f v : Int} (h : Sp.meets T F f v) : Sp.meetsB T F f v = true := @decide_eq_true _ (Classical.propDecidable _) h
theorem Sp.meetsB_false {T F : List Int} {f v : Int} (h : ¬ Sp.meets T F f v) : Sp.meetsB T F f v = false := @decide_eq_false _ (Classical.propDecidable _) h
theorem Sp.meetsB_of {T F : List Int} {f v : Int} (h : Sp.meetsB T F f v = true) : Sp.meets T F f v := @of_decide_eq_true _ (Classical.propDecidable _) h
set_option maxRecDepth 100000 in
set_option maxHeartbeats 2000000 in
theorem meets_any (q : Sp.Net) (F : List Int) (K : Nat) (v tv nv cv fv : Value) (f x : Int) (w : World) (hv : MeshI w v q F K tv nv cv fv) (hF : F.length = q.tail.length) (hn : q.tail.length ≤ 240) :
    Calls Try.prog 61 #[v, .int .i64 f, .int .i64 x] w fun e w' => e = .returned (.bool (Sp.meetsB q.tail F f x)) ∧ Below w.heap.size w w' := by
  have hval := hv.val
  obtain ⟨ta, tc, rfl, -, -, HT⟩ := hv.tail.allG
  obtain ⟨na, nc, rfl, -, -⟩ := hv.next.form
  obtain ⟨ca, cc, rfl, -, -⟩ := hv.cap.form
  obtain ⟨fa, fc, rfl, -, -, HF⟩ := hv.of.allG
  subst hval
  have HBX := hide (mesh_new w q.n (.slice ta q.tail.length tc) (.slice na q.next.length nc) (.slice ca q.cap.length cc) (.slice fa F.length fc) (K : Int))
  obtain ⟨W1, hW1⟩ : ∃ W1, W1 = w.alloc (.cells #[.int .i64 q.n, .slice ta q.tail.length tc, .slice na q.next.length nc, .slice ca q.cap.length cc, .slice fa F.length fc, .int .i64 (K : Int)] 62) := ⟨_, rfl⟩
  have hb1 : Below w.heap.size w W1 := by rw [hW1]; exact (Below.refl _ w).alloc (Nat.le_refl _) _
  rw [← hW1] at HBX
  have HB1 := hide hb1
  have HTr := hide (fun (h : Sp.meets q.tail F f x) => Sp.meetsB_true h)
  have HFa := hide (fun (h : ¬ Sp.meets q.tail F f x) => Sp.meetsB_false h)
  have HDf : Hid (Sp.meets q.tail F f x = ∃ d, d < q.tail.length ∧ q.tail.getD d 0 = x ∧ F.getD d 0 = f) := hide rfl
  generalize Sp.meetsB q.tail F f x = R at *
  generalize Sp.meets q.tail F f x = M at *
  obtain ⟨P, hP⟩ : ∃ P : Ending → World → Prop, P = fun e w' => e = .returned (.bool R) ∧ Below w.heap.size w w' := ⟨_, rfl⟩
  rw [← hP]
  have HP := hide hP
  obtain ⟨x0, x1, x2, x3, x4, x5, -⟩ := unhide HBX W1 (Below.refl _ _)
  have HX := hide (And.intro x1 x4)
  clear hP hb1 hv
  rw [hF] at *
  subst hW1
  go_enter Try.func61, Try.ntmps61
  go_wp2
  clear x0 x1 x2 x3 x4 x5
  generalize w.alloc (.cells #[.int .i64 q.n, .slice ta q.tail.length tc, .slice na q.next.length nc, .slice ca q.cap.length cc, .slice fa q.tail.length fc, .int .i64 (K : Int)] 62) = W1 at *
  generalize hln : q.tail.length = n at *
  go_loop [13] (fun i => ∃ k : Nat, k ≤ n ∧ i = .int .i64 (k : Int) ∧ Hid (∀ j, j < k → ¬ (q.tail.getD j 0 = x ∧ F.getD j 0 = f))) (fun i => n - (intOf i).toNat)
  case atStart => exact ⟨0, by omega, rfl, hide (fun j h => by omega)⟩
  case round =>
    obtain ⟨k, hk, rfl, HA⟩ := hrel
    obtain ⟨x1, x4⟩ := unhide HX
    by_cases hlt : k < n
    · have hltI : (k : Int) < (n : Int) := by omega
      obtain ⟨b, o, rfl, -, hcx⟩ := unhide HT k hlt
      obtain ⟨b2, o2, rfl, -, hcy⟩ := unhide HF k hlt
      have c1 := hcx W1 (unhide HB1)
      have c2 := hcy W1 (unhide HB1)
      by_cases ht : q.tail.getD k 0 = x ∧ F.getD k 0 = f
      · have HM : Hid (R = true) := hide (unhide HTr (by rw [unhide HDf]; exact ⟨k, hlt, ht⟩))
        rw [ht.1] at c1
        rw [ht.2] at c2
        have e1 : (x == x) = true := beq_self_eq_true _
        have e2 : (f == f) = true := beq_self_eq_true _
        clear hcx hcy ht
        go_wp2
        rw [unhide HP]
        exact ⟨by rw [unhide HM], unhide HB1⟩
      · have HN : Hid (∀ j, j < k + 1 → ¬ (q.tail.getD j 0 = x ∧ F.getD j 0 = f)) := hide fun j h => by
          rcases Nat.lt_or_ge j k with h' | h'
          · exact unhide HA j h'
          · obtain rfl : j = k := by omega
            exact ht
        generalize q.tail.getD k 0 = z at *
        generalize F.getD k 0 = z2 at *
        clear hcx hcy
        by_cases ht1 : z = x
        · have ht2 : ¬ z2 = f := fun e => ht ⟨ht1, e⟩
          subst ht1
          have e1 : (z == z) = true := beq_self_eq_true _
          have e2 : (z2 == f) = false := beq_eq_false_iff_ne.2 ht2
          clear ht ht2
          go_wp2
          go_round
          case rel => exact ⟨k + 1, by omega, by go_num, HN⟩
          case measure => simp [intOf]; omega
        · have e1 : (z == x) = false := beq_eq_false_iff_ne.2 ht1
          clear ht ht1
          go_wp2
          go_round
          case rel => exact ⟨k + 1, by omega, by go_num, HN⟩
          case measure => simp [intOf]; omega
    · have HM : Hid (R = false) := hide (unhide HFa (by
        rw [unhide HDf]
        rintro ⟨d, hd, h1, h2⟩
        exact unhide HA d (by omega) ⟨h1, h2⟩))
      go_wp2
      rw [unhide HP]
      exact ⟨by rw [unhide HM], unhide HB1⟩
set_option maxRecDepth 100000 in
set_option maxHeartbeats 2000000 in
theorem meets2_any (q : Sp.Net) (F : List Int) (v tv nv cv fv : Value) (f x : Int) (w : World) (hv : NetI w v q tv nv cv) (hf : Ints w fv F) (hF : F.length = q.tail.length) (hn : q.tail.length ≤ 240) :
    Calls Try.prog 62 #[v, fv, .int .i64 f, .int .i64 x] w fun e w' => e = .returned (.bool (Sp.meetsB q.tail F f x)) ∧ Below w.heap.size w w' := by
  have hval := hv.val
  obtain ⟨ta, tc, rfl, -, -, HT⟩ := hv.tail.allG
  obtain ⟨na, nc, rfl, -, -⟩ := hv.next.form
  obtain ⟨ca, cc, rfl, -, -⟩ := hv.cap.form
  obtain ⟨fa, fc, rfl, -, -, HF⟩ := hf.allG
  subst hval
  have HBX := hide (box_new w q.n (.slice ta q.tail.length tc) (.slice na q.next.length nc) (.slice ca q.cap.length cc))
  obtain ⟨W1, hW1⟩ : ∃ W1, W1 = w.alloc (.cells #[.int .i64 q.n, .slice ta q.tail.length tc, .slice na q.next.length nc, .slice ca q.cap.length cc] 25) := ⟨_, rfl⟩
  have hb1 : Below w.heap.size w W1 := by rw [hW1]; exact (Below.refl _ w).alloc (Nat.le_refl _) _
  rw [← hW1] at HBX
  have HB1 := hide hb1
  have HTr := hide (fun (h : Sp.meets q.tail F f x) => Sp.meetsB_true h)
  have HFa := hide (fun (h : ¬ Sp.meets q.tail F f x) => Sp.meetsB_false h)
  have HDf : Hid (Sp.meets q.tail F f x = ∃ d, d < q.tail.length ∧ q.tail.getD d 0 = x ∧ F.getD d 0 = f) := hide rfl
  generalize Sp.meetsB q.tail F f x = R at *
  generalize Sp.meets q.tail F f x = M at *
  obtain ⟨P, hP⟩ : ∃ P : Ending → World → Prop, P = fun e w' => e = .returned (.bool R) ∧ Below w.heap.size w w' := ⟨_, rfl⟩
  rw [← hP]
  have HP := hide hP
  obtain ⟨x0, x1, x2, x3, -⟩ := unhide HBX W1 (Below.refl _ _)
  have HX := hide x1
  clear hP hb1 hv hf x0 x1 x2 x3
  rw [hF] at *
  subst hW1
  go_enter Try.func62, Try.ntmps62
  go_wp2
  generalize w.alloc (.cells #[.int .i64 q.n, .slice ta q.tail.length tc, .slice na q.next.length nc, .slice ca q.cap.length cc] 25) = W1 at *
  generalize hln : q.tail.length = n at *
  go_loop [9] (fun i => ∃ k : Nat, k ≤ n ∧ i = .int .i64 (k : Int) ∧ Hid (∀ j, j < k → ¬ (q.tail.getD j 0 = x ∧ F.getD j 0 = f))) (fun i => n - (intOf i).toNat)
  case atStart => exact ⟨0, by omega, rfl, hide (fun j h => by omega)⟩
  case round =>
    obtain ⟨k, hk, rfl, HA⟩ := hrel
    have x1 := unhide HX
    by_cases hlt : k < n
    · have hltI : (k : Int) < (n : Int) := by omega
      obtain ⟨b, o, rfl, -, hcx⟩ := unhide HT k hlt
      obtain ⟨b2, o2, rfl, -, hcy⟩ := unhide HF k hlt
      have c1 := hcx W1 (unhide HB1)
      have c2 := hcy W1 (unhide HB1)
      by_cases ht : q.tail.getD k 0 = x ∧ F.getD k 0 = f
      · have HM : Hid (R = true) := hide (unhide HTr (by rw [unhide HDf]; exact ⟨k, hlt, ht⟩))
        rw [ht.1] at c1
        rw [ht.2] at c2
        have e1 : (x == x) = true := beq_self_eq_true _
        have e2 : (f == f) = true := beq_self_eq_true _
        clear hcx hcy ht
        go_wp2
        rw [unhide HP]
        exact ⟨by rw [unhide HM], unhide HB1⟩
      · have HN : Hid (∀ j, j < k + 1 → ¬ (q.tail.getD j 0 = x ∧ F.getD j 0 = f)) := hide fun j h => by
          rcases Nat.lt_or_ge j k with h' | h'
          · exact unhide HA j h'
          · obtain rfl : j = k := by omega
            exact ht
        generalize q.tail.getD k 0 = z at *
        generalize F.getD k 0 = z2 at *
        clear hcx hcy
        by_cases ht1 : z2 = f
        · have ht2 : ¬ z = x := fun e => ht ⟨e, ht1⟩
          subst ht1
          have e1 : (z2 == z2) = true := beq_self_eq_true _
          have e2 : (z == x) = false := beq_eq_false_iff_ne.2 ht2
          clear ht ht2
          go_wp2
          go_round
          case rel => exact ⟨k + 1, by omega, by go_num, HN⟩
          case measure => simp [intOf]; omega
        · have e1 : (z2 == f) = false := beq_eq_false_iff_ne.2 ht1
          clear ht ht1
          go_wp2
          go_round
          case rel => exact ⟨k + 1, by omega, by go_num, HN⟩
          case measure => simp [intOf]; omega
    · have HM : Hid (R = false) := hide (unhide HFa (by
        rw [unhide HDf]
        rintro ⟨d, hd, h1, h2⟩
        exact unhide HA d (by omega) ⟨h1, h2⟩))
      go_wp2
      rw [unhide HP]
      exact ⟨by rw [unhide HM], unhide HB1⟩
end Go.Proofs.Ytcdpgiklmonabaa


/- The walk of package rot: Check. -/
namespace Go.Proofs.Ytcdpgiklmonabaa
open Go Go.RowKit

/-- What Check tells of any lists. -/
def Sp.checkI (q : Sp.Net) : Int :=
  if Sp.fewB q = false then 2 else if Sp.matchedB q = false then 5 else if q.n < 1 then 3 else if Sp.placedB q = false then 3 else if Sp.turningB q = false then 6 else if Sp.heldB q = false then 4
  else if (Sp.pieces q).2 ≠ 1 then 7 else if q.n - ((q.tail.length / 2 : Nat) : Int) + (Sp.facesN q : Int) ≠ 2 then 8 else 0
theorem facesN_le (q : Sp.Net) (h : WalkQ q) : Sp.facesN q ≤ 241 := by
  unfold Sp.facesN
  have hb := Sp.behindL_bd q.next (by rw [h.nx]; exact h.ev) h.nb
  rw [← Sp.behindL_len q.next] at hb
  have : (Sp.rndsD (Sp.behindL q.next)).2.length ≤ 240 := by
    unfold Sp.rndsD
    cases hr : Sp.rnds (Sp.behindL q.next) with
    | none => simp
    | some rp =>
      obtain ⟨row, ps⟩ := rp
      have := (rnds_ok hb hr).2
      rw [Sp.behindL_len, h.nx] at this
      have := h.big
      simp only [Option.getD_some]
      omega
  omega
set_option maxRecDepth 100000 in
set_option maxHeartbeats 2000000 in
theorem check_any (q : Sp.Net) (v tv nv cv : Value) (w : World) (hv : NetI w v q tv nv cv) (hlo : -9223372036854775808 ≤ q.n) (hhi : q.n ≤ 9223372036854775807) :
    Calls Try.prog 12 #[v] w fun e w' => e = .returned (.int .i64 (Sp.checkI q)) ∧ Below w.heap.size w w' := by
  have hv' := hv
  obtain ⟨rfl, h1, h2, h3⟩ := hv
  obtain ⟨ta, tc, rfl, -, -⟩ := h1.form
  obtain ⟨na, nc, rfl, -, -⟩ := h2.form
  obtain ⟨ca, cc, rfl, -, -⟩ := h3.form
  clear h1 h2 h3
  have HBX := hide (box_new w q.n (.slice ta q.tail.length tc) (.slice na q.next.length nc) (.slice ca q.cap.length cc))
  obtain ⟨W1, hW1⟩ : ∃ W1, W1 = w.alloc (.cells #[.int .i64 q.n, .slice ta q.tail.length tc, .slice na q.next.length nc, .slice ca q.cap.length cc] 25) := ⟨_, rfl⟩
  rw [← hW1] at HBX
  have hb1 : Below w.heap.size w W1 := by rw [hW1]; exact (Below.refl _ w).alloc (Nat.le_refl _) _
  have hs1 : W1.heap.size = w.heap.size + 1 := by rw [hW1]; simp
  have HW : Hid (∀ w', Below (w.heap.size + 1) W1 w' → Below w.heap.size w w') := hide fun w' hb => hb1.trans (hb.mono (by omega))
  have HS1 := hide hs1
  have HV : Hid (∀ w', Below (w.heap.size + 1) W1 w' → NetI w' (.agg #[.int .i64 q.n, .slice ta q.tail.length tc, .slice na q.next.length nc, .slice ca q.cap.length cc]) q (.slice ta q.tail.length tc) (.slice na q.next.length nc) (.slice ca q.cap.length cc)) := hide fun w' hb => hv'.below (unhide HW _ hb)
  have HT : Hid (∀ w2 w3, Below (w.heap.size + 1) W1 w2 → w.heap.size + 1 ≤ w2.heap.size → Below w2.heap.size w2 w3 → Below (w.heap.size + 1) W1 w3) := hide fun w2 w3 h2 hs h3 => h2.trans (h3.mono hs)
  have HC1 := hide (few_any q _ _ _ _ W1 (unhide HV W1 (Below.refl _ _)))
  have HF : Hid (Sp.checkI q = if Sp.fewB q = false then 2 else if Sp.matchedB q = false then 5 else if q.n < 1 then 3 else if Sp.placedB q = false then 3 else if Sp.turningB q = false then 6 else if Sp.heldB q = false then 4 else if (Sp.pieces q).2 ≠ 1 then 7 else if q.n - ((q.tail.length / 2 : Nat) : Int) + (Sp.facesN q : Int) ≠ 2 then 8 else 0) := hide rfl
  generalize Sp.checkI q = R at *
  obtain ⟨P, hP⟩ : ∃ P : Ending → World → Prop, P = fun e w' => e = .returned (.int .i64 R) ∧ Below w.heap.size w w' := ⟨_, rfl⟩
  rw [← hP]
  have HP := hide hP
  obtain ⟨x0, x1, x2, x3, -⟩ := unhide HBX W1 (Below.refl _ _)
  clear hb1 hs1 hv' hP
  subst hW1
  go_enter Try.func12, Try.ntmps12
  go_wp2_with fail
  go_at_call 39
  refine (unhide HC1).mono ?_
  clear HC1 x0 x1 x2 x3
  generalize w.alloc (.cells #[.int .i64 q.n, .slice ta q.tail.length tc, .slice na q.next.length nc, .slice ca q.cap.length cc] 25) = W1 at *
  rintro e w2 ⟨rfl, hb2⟩
  rw [unhide HS1] at hb2
  obtain ⟨x0, x1, x2, x3, hsz2⟩ := unhide HBX w2 hb2
  have HC2 := hide (matched_any q _ _ _ _ w2 (unhide HV w2 hb2))
  have Hb2 := hide hb2
  clear hb2
  cases hb : Sp.fewB q with
  | false =>
    have HF2 : Hid (R = 2) := hide (by rw [unhide HF, if_pos hb])
    clear hb
    go_wp2
    rw [unhide HP]
    exact ⟨by rw [unhide HF2]; rfl, unhide HW _ (unhide Hb2)⟩
  | true =>
    rw [hb] at HF
    have HB1 := hide hb
    clear hb
    go_wp2_with fail
    go_at_call 40
    refine (unhide HC2).mono ?_
    clear HC2
    rintro e w3 ⟨rfl, hb3⟩
    have hb3' := unhide HT _ _ (unhide Hb2) hsz2 hb3
    clear hb3 x0 x1 x2 x3
    obtain ⟨x0, x1, x2, x3, hsz3⟩ := unhide HBX w3 hb3'
    have Hb3 := hide hb3'
    have HC3 := hide (placed_any q _ _ _ _ w3 (unhide HV w3 hb3'))
    clear hb3'
    cases hb : Sp.matchedB q with
    | false =>
      have HF2 : Hid (R = 5) := hide (by rw [unhide HF, if_neg (by simp), if_pos hb])
      clear hb
      go_wp2
      rw [unhide HP]
      exact ⟨by rw [unhide HF2]; rfl, unhide HW _ (unhide Hb3)⟩
    | true =>
      rw [hb] at HF
      have HB2 := hide hb
      clear hb
      by_cases hn1 : q.n < 1
      · have HF2 : Hid (R = 3) := hide (by rw [unhide HF, if_neg (by simp), if_neg (by simp), if_pos hn1])
        go_wp2
        rw [unhide HP]
        exact ⟨by rw [unhide HF2]; rfl, unhide HW _ (unhide Hb3)⟩
      · go_wp2_with fail
        go_at_call 41
        refine (unhide HC3).mono ?_
        clear HC3
        rintro e w4 ⟨rfl, hb4⟩
        have hb4' := unhide HT _ _ (unhide Hb3) hsz3 hb4
        clear hb4 x0 x1 x2 x3
        obtain ⟨x0, x1, x2, x3, hsz4⟩ := unhide HBX w4 hb4'
        have Hb4 := hide hb4'
        have HV4 := hide (unhide HV w4 hb4')
        clear hb4'
        cases hb : Sp.placedB q with
        | false =>
          have HF2 : Hid (R = 3) := hide (by rw [unhide HF, if_neg (by simp), if_neg (by simp), if_neg (by omega), if_pos hb])
          clear hb
          go_wp2
          rw [unhide HP]
          exact ⟨by rw [unhide HF2]; rfl, unhide HW _ (unhide Hb4)⟩
        | true =>
          rw [hb] at HF
          have HWB : Hid (Sp.walkB q = true) := hide (by unfold Sp.walkB; rw [unhide HB1, unhide HB2, hb]; rfl)
          have hQ := walkQ (unhide HWB)
          have HC4 := hide (turning_any q _ _ _ _ w4 (unhide HV4) hQ.nx.symm (by rw [hQ.nx]; exact hQ.big) hQ.nb hQ.n0 hQ.n1 hQ.tb)
          have hn60 := hQ.n1
          have hbig := hQ.big
          have hfn := facesN_le q hQ
          clear hb hQ HV4
          go_wp2_with fail
          go_at_call 42
          refine (unhide HC4).mono ?_
          clear HC4
          rintro e w5 ⟨rfl, hb5⟩
          have hb5' := unhide HT _ _ (unhide Hb4) hsz4 hb5
          clear hb5 x0 x1 x2 x3
          obtain ⟨x0, x1, x2, x3, hsz5⟩ := unhide HBX w5 hb5'
          have Hb5 := hide hb5'
          have HC5 := hide (held_any q _ _ _ _ w5 (unhide HV w5 hb5'))
          clear hb5'
          cases hb : Sp.turningB q with
          | false =>
            have HF2 : Hid (R = 6) := hide (by rw [unhide HF, if_neg (by simp), if_neg (by simp), if_neg (by omega), if_neg (by simp), if_pos hb])
            clear hb
            go_wp2
            rw [unhide HP]
            exact ⟨by rw [unhide HF2]; rfl, unhide HW _ (unhide Hb5)⟩
          | true =>
            rw [hb] at HF
            clear hb
            go_wp2_with fail
            go_at_call 43
            refine (unhide HC5).mono ?_
            clear HC5
            rintro e w6 ⟨rfl, hb6⟩
            have hb6' := unhide HT _ _ (unhide Hb5) hsz5 hb6
            clear hb6 x0 x1 x2 x3
            obtain ⟨x0, x1, x2, x3, hsz6⟩ := unhide HBX w6 hb6'
            have Hb6 := hide hb6'
            have HC6 := hide (parts_any q _ _ _ _ w6 (unhide HV w6 hb6') (unhide HWB))
            clear hb6'
            cases hb : Sp.heldB q with
            | false =>
              have HF2 : Hid (R = 4) := hide (by rw [unhide HF, if_neg (by simp), if_neg (by simp), if_neg (by omega), if_neg (by simp), if_neg (by simp), if_pos hb])
              clear hb
              go_wp2
              rw [unhide HP]
              exact ⟨by rw [unhide HF2]; rfl, unhide HW _ (unhide Hb6)⟩
            | true =>
              rw [hb] at HF
              clear hb
              go_wp2_with fail
              go_at_call 17
              refine (unhide HC6).mono ?_
              clear HC6
              rintro e w7 ⟨pv, rfl, -, hb7⟩
              have hb7' := unhide HT _ _ (unhide Hb6) hsz6 hb7
              clear hb7 x0 x1 x2 x3
              obtain ⟨x0, x1, x2, x3, hsz7⟩ := unhide HBX w7 hb7'
              have Hb7 := hide hb7'
              have HC7 := hide (faces_any q _ _ _ _ w7 (unhide HV w7 hb7') (unhide HWB))
              clear hb7'
              generalize (Sp.pieces q).2 = pk at *
              by_cases hp1 : pk = 1
              · subst hp1
                have hkk : (((1 : Nat) : Int) != (1 : Int)) = false := by simp
                go_wp2_with fail
                go_at_call 15
                refine (unhide HC7).mono ?_
                clear HC7
                rintro e w8 ⟨fv, rfl, -, hb8⟩
                have hb8' := unhide HT _ _ (unhide Hb7) hsz7 hb8
                clear hb8 x0 x1 x2 x3
                obtain ⟨x0, x1, x2, x3, hsz8⟩ := unhide HBX w8 hb8'
                have HB8 := hide (unhide HW _ hb8')
                clear hb8'
                generalize Sp.facesN q = fk at *
                have HD : Hid (((q.tail.length / 2 : Nat) : Int) = (q.tail.length : Int) / 2) := hide (by omega)
                by_cases hs : q.n - ((q.tail.length / 2 : Nat) : Int) + (fk : Int) = 2
                · have HF2 : Hid (R = 0) := hide (by rw [unhide HF, if_neg (by simp), if_neg (by simp), if_neg (by omega), if_neg (by simp), if_neg (by simp), if_neg (by simp), if_neg (by simp), if_neg (by simpa using hs)])
                  have hs2 : q.n - (q.tail.length : Int) / 2 + (fk : Int) = 2 := by omega
                  go_wp2
                  all_goals
                    rw [unhide HP]
                    exact ⟨by rw [unhide HF2]; rfl, unhide HB8⟩
                · have HF2 : Hid (R = 8) := hide (by rw [unhide HF, if_neg (by simp), if_neg (by simp), if_neg (by omega), if_neg (by simp), if_neg (by simp), if_neg (by simp), if_neg (by simp), if_pos (by simpa using hs)])
                  have hs2 : ¬ q.n - (q.tail.length : Int) / 2 + (fk : Int) = 2 := by omega
                  go_wp2
                  all_goals
                    rw [unhide HP]
                    exact ⟨by rw [unhide HF2]; rfl, unhide HB8⟩
              · have HF2 : Hid (R = 7) := hide (by rw [unhide HF, if_neg (by simp), if_neg (by simp), if_neg (by omega), if_neg (by simp), if_neg (by simp), if_neg (by simp), if_pos hp1])
                have hkk : ((pk : Int) != (1 : Int)) = true := by simp; omega
                go_wp2
                rw [unhide HP]
                exact ⟨by rw [unhide HF2]; rfl, unhide HW _ (unhide Hb7)⟩
end Go.Proofs.Ytcdpgiklmonabaa


/- Package dual: Shared; the reference's. -/
namespace Go.Proofs.Ytcdpgiklmonabaa
open Go Go.RowKit

noncomputable def Sp.sharedGo (T F : List Int) (s t : Int) : Nat → Nat → Int × Bool
  | 0, _ => (0, false)
  | g + 1, f => if Sp.meetsB T F f s = true ∧ Sp.meetsB T F f t = true then ((f : Int), true) else Sp.sharedGo T F s t g (f + 1)
/-- The least face that two share (P301). -/
noncomputable def Sp.shared (q : Sp.Net) (s t : Int) : Int × Bool := if s = t then (0, false) else Sp.sharedGo q.tail (Sp.faces2 q).1 s t (max (Sp.faces2 q).2 1) 0
theorem Sp.faces2Go_le (st : List Int) : ∀ g d of k, (Sp.faces2Go st g d of k).2 ≤ k + g
  | 0, _, _, _ => by rw [Sp.faces2Go]; omega
  | g + 1, d, of, k => by
    rw [Sp.faces2Go]
    split
    · have := Sp.faces2Go_le st g (d + 1) of k; omega
    · have := Sp.faces2Go_le st g (d + 1) (Sp.paint k of (Sp.rounds st d (Sp.per st d))) (k + 1); omega
theorem Sp.faces2_le (q : Sp.Net) : (Sp.faces2 q).2 ≤ q.tail.length := by
  have := Sp.faces2Go_le (Sp.behindL q.next) q.tail.length 0 (List.replicate q.tail.length (-1)) 0
  unfold Sp.faces2
  omega
theorem ret_two {a : Int} {x : Bool} {p : Int × Bool} (h : p = (a, x)) : Ending.returned (.tuple #[.int .i64 a, .bool x]) = .returned (.tuple #[.int .i64 p.1, .bool p.2]) := by rw [h]
set_option maxRecDepth 100000 in
set_option maxHeartbeats 4000000 in
theorem shared_any (q : Sp.Net) (v tv nv cv : Value) (s t : Int) (w : World) (hv : NetI w v q tv nv cv) (hq : Sp.LinkQ q) (hc : Sp.checkI q = 0) (hn0 : -9223372036854775808 ≤ q.n) (hn1 : q.n ≤ 9223372036854775807) :
    Calls Try.prog 33 #[v, .int .i64 s, .int .i64 t] w fun e w' => e = .returned (.tuple #[.int .i64 (Sp.shared q s t).1, .bool (Sp.shared q s t).2]) ∧ Below w.heap.size w w' := by
  have hv' := hv
  obtain ⟨rfl, h1, h2, h3⟩ := hv
  obtain ⟨ta, tc, rfl, htc, htm⟩ := h1.form
  obtain ⟨na, nc, rfl, -, -⟩ := h2.form
  obtain ⟨ca, cc, rfl, -, -⟩ := h3.form
  clear h1 h2 h3
  obtain ⟨W1, hW1⟩ : ∃ W1, W1 = w.alloc (.cells #[.int .i64 q.n, .slice ta q.tail.length tc, .slice na q.next.length nc, .slice ca q.cap.length cc] 25) := ⟨_, rfl⟩
  have HBX := hide (box_new w q.n (.slice ta q.tail.length tc) (.slice na q.next.length nc) (.slice ca q.cap.length cc))
  rw [← hW1] at HBX
  have hb1 : Below w.heap.size w W1 := by rw [hW1]; exact (Below.refl _ w).alloc (Nat.le_refl _) _
  have hs1 : W1.heap.size = w.heap.size + 1 := by rw [hW1]; simp
  have HW : Hid (∀ w', Below (w.heap.size + 1) W1 w' → Below w.heap.size w w') := hide fun w' hb => hb1.trans (hb.mono (by omega))
  have HV : Hid (∀ w', Below (w.heap.size + 1) W1 w' → NetI w' (.agg #[.int .i64 q.n, .slice ta q.tail.length tc, .slice na q.next.length nc, .slice ca q.cap.length cc]) q (.slice ta q.tail.length tc) (.slice na q.next.length nc) (.slice ca q.cap.length cc)) := hide fun w' hb => hv'.below (unhide HW _ hb)
  have HCk : Hid (∀ w', Below (w.heap.size + 1) W1 w' → Calls Try.prog 12 #[.agg #[.int .i64 q.n, .slice ta q.tail.length tc, .slice na q.next.length nc, .slice ca q.cap.length cc]] w' fun e w'' => e = .returned (.int .i64 0) ∧ Below w'.heap.size w' w'') := hide fun w' hb => by
    have h := check_any q _ _ _ _ w' (unhide HV w' hb) hn0 hn1
    rw [hc] at h
    exact h
  have HMo := hide (fun w' (hb : Below (w.heap.size + 1) W1 w') => meshOf_any q _ _ _ _ w' (unhide HV w' hb) hq.nx hq.le hq.ev hq.pm)
  have HFl := hide (Sp.faces2_len q)
  have HSh : Hid (Sp.shared q s t = if s = t then (0, false) else Sp.sharedGo q.tail (Sp.faces2 q).1 s t (max (Sp.faces2 q).2 1) 0) := hide rfl
  have HQ := hide hq
  generalize Sp.shared q s t = R at *
  generalize (Sp.faces2 q).1 = F at *
  have hKl : max (Sp.faces2 q).2 1 ≤ 1000 := by have := Sp.faces2_le q; have := hq.le; omega
  generalize max (Sp.faces2 q).2 1 = K at *
  obtain ⟨P, hP⟩ : ∃ P : Ending → World → Prop, P = fun e w' => e = .returned (.tuple #[.int .i64 R.1, .bool R.2]) ∧ Below w.heap.size w w' := ⟨_, rfl⟩
  rw [← hP]
  have HP := hide hP
  have Hs1 := hide hs1
  have hbr : Below (w.heap.size + 1) W1 W1 := Below.refl _ _
  obtain ⟨x0, x1, x2, x3, -⟩ := unhide HBX W1 hbr
  clear hv' hP hs1 hb1 hq hc
  by_cases hst : s = t
  · subst hst
    rw [if_pos rfl] at HSh
    have e1 : (s == s) = true := beq_self_eq_true _
    have HFi := hide (unhide HW W1 hbr)
    clear HBX HV HMo HCk hbr HW
    subst hW1
    go_enter Try.func33, Try.ntmps33
    go_wp2
    go_step3
    go_wp2
    try rw [Exit.noGoto_ret]
    rw [unhide HP]
    exact ⟨ret_two (unhide HSh), unhide HFi⟩
  · rw [if_neg hst] at HSh
    have e1 : (s == t) = false := beq_eq_false_iff_ne.2 hst
    subst hW1
    go_enter Try.func33, Try.ntmps33
    go_wp2
    go_step3
    go_wp2_with fail
    go_at_call 12
    refine (unhide HCk _ hbr).mono ?_
    clear HCk x0 x1 x2 x3
    generalize w.alloc (.cells #[.int .i64 q.n, .slice ta q.tail.length tc, .slice na q.next.length nc, .slice ca q.cap.length cc] 25) = W1 at *
    rintro e w2 ⟨rfl, hb2⟩
    rw [unhide Hs1] at hb2
    obtain ⟨x0, x1, x2, x3, hsz2⟩ := unhide HBX w2 hb2
    go_wp2_with fail
    go_at_call 56
    refine (unhide HMo w2 hb2).mono ?_
    clear HMo x0 x1 x2 x3
    rintro e w4 ⟨O, rfl, hO, hb4⟩
    have hb4' : Below (w.heap.size + 1) W1 w4 := hb2.trans (hb4.mono hsz2)
    have hs4 : w.heap.size + 1 ≤ w4.heap.size := Nat.le_trans hsz2 hb4.size
    obtain ⟨W5, hW5⟩ : ∃ W5, W5 = w4.alloc (.cells #[.int .i64 q.n, .slice ta q.tail.length tc, .slice na q.next.length nc, .slice ca q.cap.length cc, .slice (some ⟨O, 0, none⟩) q.tail.length q.tail.length, .int .i64 (K : Int)] 62) := ⟨_, rfl⟩
    have hb45 : Below w4.heap.size w4 W5 := by rw [hW5]; exact (Below.refl _ w4).alloc (Nat.le_refl _) _
    have hs5 : W5.heap.size = w4.heap.size + 1 := by rw [hW5]; simp
    have HS : Hid (∀ w', Below W5.heap.size W5 w' → w'.cell? ⟨w4.heap.size, 0, none⟩ = some (.int .i64 q.n) ∧ w'.cell? ⟨w4.heap.size, 1, none⟩ = some (.slice ta q.tail.length tc) ∧ w'.cell? ⟨w4.heap.size, 2, none⟩ = some (.slice na q.next.length nc) ∧ w'.cell? ⟨w4.heap.size, 3, none⟩ = some (.slice ca q.cap.length cc) ∧ w'.cell? ⟨w4.heap.size, 4, none⟩ = some (.slice (some ⟨O, 0, none⟩) q.tail.length q.tail.length) ∧ w'.cell? ⟨w4.heap.size, 5, none⟩ = some (.int .i64 (K : Int))) := hide fun w' hb => by
      rw [hs5] at hb
      rw [hW5] at hb
      obtain ⟨e0, e1, e2, e3, e4, e5, -⟩ := mesh_new w4 q.n _ _ _ _ _ w' hb
      exact ⟨e0, e1, e2, e3, e4, e5⟩
    have HBl : Hid (∀ w', Below W5.heap.size W5 w' → Below w.heap.size w w') := hide fun w' hb => unhide HW _ ((hb4'.trans (hb45.mono hs4)).trans (hb.mono (by omega)))
    have HMI : Hid (∀ w', Below W5.heap.size W5 w' → MeshI w' (.agg #[.int .i64 q.n, .slice ta q.tail.length tc, .slice na q.next.length nc, .slice ca q.cap.length cc, .slice (some ⟨O, 0, none⟩) q.tail.length q.tail.length, .int .i64 (K : Int)]) q F K (.slice ta q.tail.length tc) (.slice na q.next.length nc) (.slice ca q.cap.length cc) (.slice (some ⟨O, 0, none⟩) q.tail.length q.tail.length)) := hide fun w' hb => by
      have h := unhide HV w' ((hb4'.trans (hb45.mono hs4)).trans (hb.mono (by omega)))
      exact ⟨rfl, h.tail, h.next, h.cap, (hO.ints.below hb45).below (hb.mono (by omega))⟩
    have HMe := hide (fun (f x : Int) w' (hb : Below W5.heap.size W5 w') => meets_any q F K _ _ _ _ _ f x w' (unhide HMI w' hb) (unhide HFl) (by have := (unhide HQ).le; omega))
    have HTR : Hid (∀ w' w'', Below W5.heap.size W5 w' → Below w'.heap.size w' w'' → Below W5.heap.size W5 w'') := hide fun w' w'' h h' => h.trans (h'.mono h.size)
    have HW5 := hide hW5
    have hb5 : Below W5.heap.size W5 W5 := Below.refl _ _
    clear hW5 hs5 hb45 hO hb4 hb2 hbr hb4' hs4 HFl hsz2 HMI HV HBX
    obtain ⟨x0, x1, x2, x3, x4, x5⟩ := unhide HS W5 hb5
    go_wp2
    go_step3
    go_wp2
    rw [← unhide HW5]
    clear x0 x1 x2 x3 x4 x5
    go_loopg [24] K (fun g s24 wr => ∃ f : Nat, f + g = K ∧ s24 = .int .i64 (f : Int) ∧ Hid (Below W5.heap.size W5 wr ∧ R = Sp.sharedGo q.tail F s t g f))
    case atStart => exact ⟨0, by omega, rfl, hide ⟨hb5, unhide HSh⟩⟩
    case round =>
      clear hb5 HSh
      obtain ⟨f, hfg, rfl, HI⟩ := hrel
      cases gk with
      | zero =>
        obtain rfl : f = K := by omega
        have HF : Hid (R = (0, false)) := hide (unhide HI).2
        have HB := hide (unhide HBl _ (unhide HI).1)
        clear HI
        go_wp2
        rw [unhide HP]
        exact ⟨ret_two (unhide HF), unhide HB⟩
      | succ g' =>
        have hlt : f < K := by omega
        have hltI : (f : Int) < (K : Int) := by omega
        have HR : Hid (R = if Sp.meetsB q.tail F f s = true ∧ Sp.meetsB q.tail F f t = true then ((f : Int), true) else Sp.sharedGo q.tail F s t g' (f + 1)) := hide (unhide HI).2
        have HMs := hide (unhide HMe (f : Int) s)
        have HMt := hide (unhide HMe (f : Int) t)
        have HB := hide (unhide HI).1
        clear HI
        generalize Sp.meetsB q.tail F f s = ms at *
        generalize Sp.meetsB q.tail F f t = mt at *
        go_wp2
        have i0 : ∀ w, (Instr.index 66 (.agg #[.int .i64 s, .int .i64 t]) (.int .i64 0)).run Try.prog w = .ok (.int .i64 s) w := fun _ => by rfl
        have i1 : ∀ w, (Instr.index 66 (.agg #[.int .i64 s, .int .i64 t]) (.int .i64 1)).run Try.prog w = .ok (.int .i64 t) w := fun _ => by rfl
        go_loopg [30] 2 (fun g2 s30 wr => ∃ i : Nat, i + g2 = 2 ∧ s30 = .int .i64 (i : Int) ∧ (1 ≤ i → ms = true) ∧ (2 ≤ i → mt = true) ∧ Hid (Below W5.heap.size W5 wr))
        case atStart => exact ⟨0, by omega, rfl, by omega, by omega, HB⟩
        case round =>
          clear HB
          obtain ⟨i, hig, rfl, hi1, hi2, HB⟩ := hrel
          obtain ⟨x0, x1, x2, x3, x4, x5⟩ := unhide HS wr (unhide HB)
          rcases (show i = 0 ∨ i = 1 ∨ i = 2 by omega) with rfl | rfl | rfl
          · clear hi1 hi2
            go_wp2_with fail
            go_at_call 61
            refine (unhide HMs wr (unhide HB)).mono ?_
            clear x0 x1 x2 x3 x4 x5
            rintro e w7 ⟨rfl, hl7⟩
            have HB7 := hide (unhide HTR _ _ (unhide HB) hl7)
            clear HB hl7
            cases ms with
            | false =>
              have HR2 : Hid (R = Sp.sharedGo q.tail F s t g' (f + 1)) := hide (by rw [unhide HR, if_neg (by simp)])
              go_wp2
              go_roundg g'
              case rel => exact ⟨f + 1, by omega, by go_num, hide ⟨unhide HB7, unhide HR2⟩⟩
              case measure => omega
            | true =>
              go_wp2
              go_roundg 1
              case rel => exact ⟨1, by omega, rfl, by simp, by omega, HB7⟩
              case measure => omega
          · have hms := hi1 (by omega)
            subst hms
            clear hi1 hi2
            go_wp2_with fail
            go_at_call 61
            refine (unhide HMt wr (unhide HB)).mono ?_
            clear x0 x1 x2 x3 x4 x5
            rintro e w7 ⟨rfl, hl7⟩
            have HB7 := hide (unhide HTR _ _ (unhide HB) hl7)
            clear HB hl7
            cases mt with
            | false =>
              have HR2 : Hid (R = Sp.sharedGo q.tail F s t g' (f + 1)) := hide (by rw [unhide HR, if_neg (by simp)])
              go_wp2
              go_roundg g'
              case rel => exact ⟨f + 1, by omega, by go_num, hide ⟨unhide HB7, unhide HR2⟩⟩
              case measure => omega
            | true =>
              go_wp2
              go_roundg 0
              case rel => exact ⟨2, by omega, rfl, by simp, by simp, HB7⟩
              case measure => omega
          · have hms := hi1 (by omega)
            have hmt := hi2 (by omega)
            subst hms hmt
            have HF : Hid (R = ((f : Int), true)) := hide (by rw [unhide HR, if_pos (by simp)])
            have HB2 := hide (unhide HBl _ (unhide HB))
            clear hi1 hi2 HB
            go_wp2
            try rw [Exit.noGoto_ret]
            rw [unhide HP]
            exact ⟨ret_two (unhide HF), unhide HB2⟩
set_option maxRecDepth 100000 in
set_option maxHeartbeats 4000000 in
theorem shared2_any (q : Sp.Net) (v tv nv cv : Value) (s t : Int) (w : World) (hv : NetI w v q tv nv cv) (hq : Sp.LinkQ q) :
    Calls Try.prog 34 #[v, .int .i64 s, .int .i64 t] w fun e w' => e = .returned (.tuple #[.int .i64 (Sp.shared q s t).1, .bool (Sp.shared q s t).2]) ∧ Below w.heap.size w w' := by
  have hv' := hv
  obtain ⟨rfl, h1, h2, h3⟩ := hv
  obtain ⟨ta, tc, rfl, htc, htm⟩ := h1.form
  obtain ⟨na, nc, rfl, -, -⟩ := h2.form
  obtain ⟨ca, cc, rfl, -, -⟩ := h3.form
  clear h1 h2 h3
  obtain ⟨W1, hW1⟩ : ∃ W1, W1 = w.alloc (.cells #[.int .i64 q.n, .slice ta q.tail.length tc, .slice na q.next.length nc, .slice ca q.cap.length cc] 25) := ⟨_, rfl⟩
  have HBX := hide (box_new w q.n (.slice ta q.tail.length tc) (.slice na q.next.length nc) (.slice ca q.cap.length cc))
  rw [← hW1] at HBX
  have hb1 : Below w.heap.size w W1 := by rw [hW1]; exact (Below.refl _ w).alloc (Nat.le_refl _) _
  have hs1 : W1.heap.size = w.heap.size + 1 := by rw [hW1]; simp
  have HW : Hid (∀ w', Below (w.heap.size + 1) W1 w' → Below w.heap.size w w') := hide fun w' hb => hb1.trans (hb.mono (by omega))
  have HV : Hid (∀ w', Below (w.heap.size + 1) W1 w' → NetI w' (.agg #[.int .i64 q.n, .slice ta q.tail.length tc, .slice na q.next.length nc, .slice ca q.cap.length cc]) q (.slice ta q.tail.length tc) (.slice na q.next.length nc) (.slice ca q.cap.length cc)) := hide fun w' hb => hv'.below (unhide HW _ hb)
  have hbr : Below (w.heap.size + 1) W1 W1 := Below.refl _ _
  have HFc := hide (faces2_any q _ _ _ _ W1 (unhide HV W1 hbr) hq.nx (by have := hq.le; omega) hq.ev hq.pm)
  have HFl := hide (Sp.faces2_len q)
  have HSh : Hid (Sp.shared q s t = if s = t then (0, false) else Sp.sharedGo q.tail (Sp.faces2 q).1 s t (max (Sp.faces2 q).2 1) 0) := hide rfl
  have HQ := hide hq
  generalize Sp.shared q s t = R at *
  have hKl : max (Sp.faces2 q).2 1 ≤ 1000 := by have := Sp.faces2_le q; have := hq.le; omega
  have hK1 : 1 ≤ max (Sp.faces2 q).2 1 := by omega
  generalize (Sp.faces2 q).1 = F at *
  generalize max (Sp.faces2 q).2 1 = K at *
  obtain ⟨P, hP⟩ : ∃ P : Ending → World → Prop, P = fun e w' => e = .returned (.tuple #[.int .i64 R.1, .bool R.2]) ∧ Below w.heap.size w w' := ⟨_, rfl⟩
  rw [← hP]
  have HP := hide hP
  have Hs1 := hide hs1
  obtain ⟨x0, x1, x2, x3, -⟩ := unhide HBX W1 hbr
  clear hv' hP hs1 hb1 hq
  subst hW1
  go_enter Try.func34, Try.ntmps34
  go_wp2_with fail
  go_at_call 16
  refine (unhide HFc).mono ?_
  clear HFc x0 x1 x2 x3
  generalize w.alloc (.cells #[.int .i64 q.n, .slice ta q.tail.length tc, .slice na q.next.length nc, .slice ca q.cap.length cc] 25) = W1 at *
  rintro e w2 ⟨fv, rfl, hf2, hb2⟩
  rw [unhide Hs1] at hb2
  obtain ⟨fa, fc, rfl, -, -⟩ := hf2.ints.form
  have HI0 : Hid (Below (w.heap.size + 1) W1 w2 ∧ Ints w2 (.slice fa F.length fc) F) := hide ⟨hb2, hf2.ints⟩
  clear hf2 hb2 hbr
  by_cases hst : s = t
  · subst hst
    rw [if_pos rfl] at HSh
    have e1 : (s != s) = false := by simp
    go_wp2
    go_loopg [10] 0 (fun g s10 wr => g = 0 ∧ s10 = .int .i64 0 ∧ Hid (Below w.heap.size w wr))
    case atStart => exact ⟨rfl, rfl, hide (unhide HW _ (unhide HI0).1)⟩
    case round =>
      obtain ⟨-, rfl, HB⟩ := hrel
      have h0K : (0 : Int) < (K : Int) := by omega
      have h0N : 0 < K := by omega
      go_wp2
      rw [unhide HP]
      exact ⟨ret_two (unhide HSh), unhide HB⟩
  · rw [if_neg hst] at HSh
    have e1 : (s != t) = true := by simpa using hst
    have HMe := hide (fun (f x : Int) w' (hb : Hid (Below (w.heap.size + 1) W1 w' ∧ Ints w' (.slice fa F.length fc) F)) => meets2_any q F _ _ _ _ _ f x w' (unhide HV w' (unhide hb).1) (unhide hb).2 (unhide HFl) (by have := (unhide HQ).le; omega))
    have HTR : Hid (∀ w' w'', Hid (Below (w.heap.size + 1) W1 w' ∧ Ints w' (.slice fa F.length fc) F) → Below w'.heap.size w' w'' → Hid (Below (w.heap.size + 1) W1 w'' ∧ Ints w'' (.slice fa F.length fc) F)) := hide fun w' w'' h h' => hide ⟨(unhide h).1.trans (h'.mono (by have := (unhide h).1.size; have := unhide Hs1; omega)), (unhide h).2.below h'⟩
    go_wp2
    go_loopg [10] K (fun g s10 wr => ∃ f : Nat, f + g = K ∧ s10 = .int .i64 (f : Int) ∧ Hid (Hid (Below (w.heap.size + 1) W1 wr ∧ Ints wr (.slice fa F.length fc) F) ∧ R = Sp.sharedGo q.tail F s t g f))
    case atStart => exact ⟨0, by omega, rfl, hide ⟨HI0, unhide HSh⟩⟩
    case round =>
      clear HI0 HSh
      obtain ⟨f, hfg, rfl, HI⟩ := hrel
      cases gk with
      | zero =>
        obtain rfl : f = K := by omega
        have HF : Hid (R = (0, false)) := hide (unhide HI).2
        have HB := hide (unhide HW _ (unhide (unhide HI).1).1)
        clear HI
        go_wp2
        rw [unhide HP]
        exact ⟨ret_two (unhide HF), unhide HB⟩
      | succ g' =>
        have hlt : f < K := by omega
        have hltI : (f : Int) < (K : Int) := by omega
        have HR : Hid (R = if Sp.meetsB q.tail F f s = true ∧ Sp.meetsB q.tail F f t = true then ((f : Int), true) else Sp.sharedGo q.tail F s t g' (f + 1)) := hide (unhide HI).2
        have HMs := hide (unhide HMe (f : Int) s)
        have HMt := hide (unhide HMe (f : Int) t)
        have HB := (unhide HI).1
        clear HI
        generalize Sp.meetsB q.tail F f s = ms at *
        generalize Sp.meetsB q.tail F f t = mt at *
        obtain ⟨x0, x1, x2, x3, -⟩ := unhide HBX wr (unhide HB).1
        go_wp2_with fail
        go_at_call 62
        refine (unhide HMs wr HB).mono ?_
        clear x0 x1 x2 x3
        rintro e w7 ⟨rfl, hl7⟩
        have HB7 := unhide HTR _ _ HB hl7
        clear HB hl7
        cases ms with
        | false =>
          have HR2 : Hid (R = Sp.sharedGo q.tail F s t g' (f + 1)) := hide (by rw [unhide HR, if_neg (by simp)])
          go_wp2
          go_roundg g'
          case rel => exact ⟨f + 1, by omega, by go_num, hide ⟨HB7, unhide HR2⟩⟩
          case measure => omega
        | true =>
          obtain ⟨x0, x1, x2, x3, -⟩ := unhide HBX w7 (unhide HB7).1
          go_wp2_with fail
          go_at_call 62
          refine (unhide HMt w7 HB7).mono ?_
          clear x0 x1 x2 x3
          rintro e w8 ⟨rfl, hl8⟩
          have HB8 := unhide HTR _ _ HB7 hl8
          clear HB7 hl8
          cases mt with
          | false =>
            have HR2 : Hid (R = Sp.sharedGo q.tail F s t g' (f + 1)) := hide (by rw [unhide HR, if_neg (by simp)])
            go_wp2
            go_roundg g'
            case rel => exact ⟨f + 1, by omega, by go_num, hide ⟨HB8, unhide HR2⟩⟩
            case measure => omega
          | true =>
            have HF : Hid (R = ((f : Int), true)) := hide (by rw [unhide HR, if_pos (by simp)])
            have HB2 := hide (unhide HW _ (unhide HB8).1)
            clear HB8
            go_wp2
            rw [unhide HP]
            exact ⟨ret_two (unhide HF), unhide HB2⟩
end Go.Proofs.Ytcdpgiklmonabaa


/- The reference's dual. -/
namespace Go.Proofs.Ytcdpgiklmonabaa
open Go Go.RowKit

set_option maxRecDepth 100000 in
set_option maxHeartbeats 4000000 in
theorem dmake2_any (q : Sp.Net) (v tv nv cv : Value) (w : World) (hv : NetI w v q tv nv cv) (hq : Sp.LinkQ q) :
    Calls Try.prog 31 #[v] w fun e w' => ∃ v2 tv nv cv, e = .returned v2 ∧ NetI w' v2 (Sp.dual q) tv nv cv ∧ Below w.heap.size w w' := by
  have hv' := hv
  obtain ⟨rfl, h1, h2, h3⟩ := hv
  obtain ⟨ta, tc, rfl, htc, htm⟩ := h1.form
  obtain ⟨na, nc, rfl, -, -, HNa⟩ := h2.allG
  obtain ⟨ca, cc, rfl, -, -⟩ := h3.form
  clear h1 h2 h3
  obtain ⟨W2, hW2⟩ : ∃ W2, W2 = (w.alloc (.cells #[.int .i64 q.n, .slice ta q.tail.length tc, .slice na q.next.length nc, .slice ca q.cap.length cc] 25)).alloc (.cells #[.int .i64 0, .slice none 0 0, .slice none 0 0, .slice none 0 0] 25) := ⟨_, rfl⟩
  have hs2 : W2.heap.size = w.heap.size + 2 := by rw [hW2]; simp
  have hbW : Below w.heap.size w W2 := by rw [hW2]; exact ((Below.refl _ w).alloc (Nat.le_refl _) _).alloc (by simp) _
  have HW : Hid (∀ w', Below (w.heap.size + 2) W2 w' → Below w.heap.size w w') := hide fun w' hb => hbW.trans (hb.mono (by omega))
  have HV : Hid (∀ w', Below (w.heap.size + 2) W2 w' → NetI w' (.agg #[.int .i64 q.n, .slice ta q.tail.length tc, .slice na q.next.length nc, .slice ca q.cap.length cc]) q (.slice ta q.tail.length tc) (.slice na q.next.length nc) (.slice ca q.cap.length cc)) := hide fun w' hb => hv'.below (unhide HW _ hb)
  have HBX : Hid (∀ w', Below (w.heap.size + 2) W2 w' → (w'.cell? ⟨w.heap.size, 0, none⟩ = some (.int .i64 q.n) ∧ w'.cell? ⟨w.heap.size, 1, none⟩ = some (.slice ta q.tail.length tc) ∧ w'.cell? ⟨w.heap.size, 2, none⟩ = some (.slice na q.next.length nc) ∧ w'.cell? ⟨w.heap.size, 3, none⟩ = some (.slice ca q.cap.length cc)) ∧ w'.heap[w.heap.size + 1]? = some (.cells #[.int .i64 0, .slice none 0 0, .slice none 0 0, .slice none 0 0] 25 (0, 0))) := hide fun w' hb => by
    have h1 := heap_alloc_new w (.cells #[.int .i64 q.n, .slice ta q.tail.length tc, .slice na q.next.length nc, .slice ca q.cap.length cc] 25)
    have h2 : w'.heap[w.heap.size]? = some (.cells #[.int .i64 q.n, .slice ta q.tail.length tc, .slice na q.next.length nc, .slice ca q.cap.length cc] 25) := by
      rw [hb.block w.heap.size (by omega), hW2]
      exact (((Below.refl (w.heap.size + 1) _).alloc (by simp) _).block w.heap.size (by omega)).trans h1
    obtain ⟨e0, e1, e2, e3, -⟩ := obj_cells h2
    refine ⟨⟨e0, e1, e2, e3⟩, ?_⟩
    rw [hb.block (w.heap.size + 1) (by omega), hW2]
    have h := heap_alloc_new (w.alloc (.cells #[.int .i64 q.n, .slice ta q.tail.length tc, .slice na q.next.length nc, .slice ca q.cap.length cc] 25)) (.cells #[.int .i64 0, .slice none 0 0, .slice none 0 0, .slice none 0 0] 25)
    rw [show (w.alloc (.cells #[.int .i64 q.n, .slice ta q.tail.length tc, .slice na q.next.length nc, .slice ca q.cap.length cc] 25)).heap.size = w.heap.size + 1 by simp] at h
    exact h
  have hbr : Below (w.heap.size + 2) W2 W2 := Below.refl _ _
  have HFc := hide (faces2_any q _ _ _ _ W2 (unhide HV W2 hbr) hq.nx (by have := hq.le; omega) hq.ev hq.pm)
  have HDu : Hid (Sp.dual q = ⟨((max (Sp.faces2 q).2 1 : Nat) : Int), (Sp.faces2 q).1, Sp.behindL q.next, q.cap⟩) := hide rfl
  have HBm : Hid (Sp.behindL q.next = (List.range q.next.length).map (fun d => (Sp.behindL q.next).getD d 0)) := hide (map_getD _ _ (Sp.behindL_len _)).symm
  have HBg : Hid (∀ d, d < q.next.length → (Sp.behindL q.next).getD d 0 = q.next.getD (Sp.oth d) 0) := hide fun d hd => Sp.behindL_get _ _ hd
  have HQ := hide hq
  have hnl : q.next.length ≤ 60 := by rw [hq.nx]; exact hq.le
  have hcl : q.cap.length ≤ 60 := by rw [hq.cp]; exact hq.le
  have HE : Hid (q.next.length % 2 = 0) := hide (by rw [hq.nx]; exact hq.ev)
  generalize Sp.dual q = D at *
  generalize (Sp.faces2 q).1 = F at *
  generalize max (Sp.faces2 q).2 1 = K at *
  obtain ⟨P, hP⟩ : ∃ P : Ending → World → Prop, P = fun e w' => ∃ v2 tv nv cv, e = .returned v2 ∧ NetI w' v2 D tv nv cv ∧ Below w.heap.size w w' := ⟨_, rfl⟩
  rw [← hP]
  have HP := hide hP
  have HW2 := hide hW2
  have Hs2 := hide hs2
  have HWN := hide hbW
  clear hv' hP hs2 hW2 hq
  obtain ⟨⟨x0, x1, x2, x3⟩, -⟩ := unhide HBX W2 hbr
  go_enter Try.func31, Try.ntmps31
  go_wp2_with fail
  go_at_call 16
  rw [← unhide HW2]
  refine (unhide HFc).mono ?_
  clear HFc x0 x1 x2 x3 hbW
  rintro e w3 ⟨fv, rfl, hf3, hb3⟩
  rw [unhide Hs2] at hb3 hf3
  have hs3 : w.heap.size + 2 ≤ w3.heap.size := by have := hb3.size; have := unhide Hs2; omega
  obtain ⟨fa, fc, rfl, -, -⟩ := hf3.ints.form
  obtain ⟨⟨x0, x1, x2, x3⟩, -⟩ := unhide HBX w3 hb3
  go_wp2_with (at_make; refine wpList_mk rfl _ _ rfl w3.heap.size q.next.length rfl rfl (by omega) (Nat.le_refl _) ?_)
  intro w5 hown5 hb5 hlt5
  have HK0 : Hid (PKeep w3.heap.size w3.heap.size q.next.length w3 w5 (List.replicate q.next.length 0)) := hide ⟨List.length_replicate, hown5, hb5, hlt5, Nat.le_refl _⟩
  have HB3 : Hid (∀ w', Below w3.heap.size w3 w' → Below (w.heap.size + 2) W2 w') := hide fun w' hb => hb3.trans (hb.mono hs3)
  have HF3 : Hid (∀ w', Below w3.heap.size w3 w' → OwnI w' (w.heap.size + 2) (.slice fa F.length fc) F) := hide fun w' hb => own_below hf3 hb
  have HN3 : Hid (∀ w' k, Below w3.heap.size w3 w' → k < q.next.length → ∃ b o, na = some ⟨b, o, none⟩ ∧ w'.cell? ⟨b, o + k, none⟩ = some (.int .i64 (q.next.getD k 0))) := hide fun w' k hb hk => by
    obtain ⟨b, o, e1, e2, e3⟩ := unhide HNa k hk
    exact ⟨b, o, e1, e3 w' (unhide HW _ (unhide HB3 w' hb))⟩
  clear hown5 hb5 hlt5 x0 x1 x2 x3 hf3 HNa
  have Hs3 := hide hs3
  clear hs3 hb3
  go_wp2
  go_loopg [6] q.next.length (fun g i wr => ∃ j : Nat, j + g = q.next.length ∧ i = .int .i64 (j : Int) ∧ Hid (PKeep w3.heap.size w3.heap.size q.next.length w3 wr ((List.range j).map (fun d => (Sp.behindL q.next).getD d 0) ++ List.replicate (q.next.length - j) 0)))
  case atStart => exact ⟨0, by omega, rfl, by simpa using HK0⟩
  case round =>
    clear HK0
    obtain ⟨j, hjg, rfl, HI⟩ := hrel
    obtain ⟨⟨x0, x1, x2, x3⟩, -⟩ := unhide HBX wr (unhide HB3 wr (unhide HI).bel)
    cases gk with
    | succ g' =>
      have hlt : j < q.next.length := by omega
      have hltI : (j : Int) < (q.next.length : Int) := by omega
      have hol := oth_lt hlt (unhide HE)
      have hX := xor_oth ⟨j, by omega⟩
      obtain ⟨b, o, rfl, c0⟩ := unhide HN3 wr (Sp.oth j) (unhide HI).bel hol
      have c1 := own_cell (unhide HI).own j (by rw [(unhide HI).len]; exact hlt)
      have f1 := own_frozen (unhide HI).own j
      have HN : Hid (PKeep w3.heap.size w3.heap.size q.next.length w3 (wr.setCell ⟨w3.heap.size, j, none⟩ (.int .i64 (q.next.getD (Sp.oth j) 0))) ((List.range (j + 1)).map (fun d => (Sp.behindL q.next).getD d 0) ++ List.replicate (q.next.length - (j + 1)) 0)) := by
        have h := (unhide HI).set j (q.next.getD (Sp.oth j) 0)
        rw [← unhide HBg j hlt, map_fill (fun d => (Sp.behindL q.next).getD d 0) q.next.length j hlt] at h
        rw [← unhide HBg j hlt]
        exact hide h
      generalize ((List.range j).map (fun d => (Sp.behindL q.next).getD d 0) ++ List.replicate (q.next.length - j) 0)[j]'_ = z at *
      generalize q.next.getD (Sp.oth j) 0 = zn at *
      simp only at hX
      generalize Sp.oth j = oj at *
      have hoI : (oj : Int) < (q.next.length : Int) := by omega
      clear HI
      go_wp2
      go_roundg g'
      case rel => exact ⟨j + 1, by omega, by go_num, HN⟩
      case measure => omega
    | zero =>
      have hje : j = q.next.length := by omega
      have HK1 : Hid (PKeep w3.heap.size w3.heap.size q.next.length w3 wr (Sp.behindL q.next)) := by
        rw [hje, Nat.sub_self, List.replicate_zero, List.append_nil, ← unhide HBm] at HI
        exact HI
      rw [hje]
      clear HI hje hjg
      have hsr := (unhide HK1).lt
      have hbr2 := (unhide HK1).bel
      have k3 : ∀ ob, (wr.alloc ob).cell? ⟨w.heap.size, 3, none⟩ = some (.slice ca q.cap.length cc) := fun ob => (unhide HBX _ (unhide HB3 _ (hbr2.alloc (by omega) ob))).1.2.2.2
      go_wp2_with (at_builtin; refine wpList_app (w := wr.alloc (.cells #[] 3)) rfl _ _ rfl wr.heap.size _ _ [] q.cap rfl rfl (own_lit wr _ _ 0 [] rfl rfl (Nat.le_refl _) (by simp)) (unhide HV _ (unhide HB3 _ (hbr2.alloc (by omega) _))).cap q.cap.length (by simp) (by omega) (by simp) ?_)
      intro a9 c9 w9 hown9 hb9 hgr9
      have hb9' : Below wr.heap.size wr w9 := ((Below.refl _ _).alloc (Nat.le_refl _) _).trans hb9
      have HK9 := hide ((unhide HK1).below hb9')
      have HO9 : Hid (OwnI w9 w3.heap.size (.slice a9 q.cap.length c9) q.cap) := hide (own_base hown9 (by omega))
      obtain ⟨-, hrc⟩ := unhide HBX w9 (unhide HB3 _ (unhide HK9).bel)
      obtain ⟨y0, y1, y2, y3, f0, f1, f2, f3⟩ := obj_cells hrc
      have Hrc := hide hrc
      clear hgr9 hb9 hb9' hown9 k3 hrc hsr hbr2 HK1 x0 x1 x2 x3
      go_wp2
      have hfin := four_cells' (unhide Hrc) (.int .i64 (K : Int)) (.slice fa F.length fc) (.slice (some ⟨w3.heap.size, 0, none⟩) q.next.length q.next.length) (.slice a9 q.cap.length c9)
      have hp : w.heap.size + 1 < w3.heap.size := unhide Hs3
      have HN' := four_own' (unhide HK9).own hp (.int .i64 (K : Int)) (.slice fa F.length fc) (.slice (some ⟨w3.heap.size, 0, none⟩) q.next.length q.next.length) (.slice a9 q.cap.length c9)
      have HC' := four_own' (unhide HO9) hp (.int .i64 (K : Int)) (.slice fa F.length fc) (.slice (some ⟨w3.heap.size, 0, none⟩) q.next.length q.next.length) (.slice a9 q.cap.length c9)
      have HT' := four_own' (unhide HF3 w9 (unhide HK9).bel) (show w.heap.size + 1 < w.heap.size + 2 by omega) (.int .i64 (K : Int)) (.slice fa F.length fc) (.slice (some ⟨w3.heap.size, 0, none⟩) q.next.length q.next.length) (.slice a9 q.cap.length c9)
      have hbl' := four_below' (unhide HW _ (unhide HB3 _ (unhide HK9).bel)) (show w.heap.size ≤ w.heap.size + 1 by omega) (.int .i64 (K : Int)) (.slice fa F.length fc) (.slice (some ⟨w3.heap.size, 0, none⟩) q.next.length q.next.length) (.slice a9 q.cap.length c9)
      clear y0 y1 y2 y3 f0 f1 f2 f3
      generalize (((w9.setCell ⟨w.heap.size + 1, 0, none⟩ (.int .i64 (K : Int))).setCell ⟨w.heap.size + 1, 1, none⟩ (.slice fa F.length fc)).setCell ⟨w.heap.size + 1, 2, none⟩ (.slice (some ⟨w3.heap.size, 0, none⟩) q.next.length q.next.length)).setCell ⟨w.heap.size + 1, 3, none⟩ (.slice a9 q.cap.length c9) = WF at *
      obtain ⟨r0, r1, r2, r3, -, -, -, -⟩ := obj_cells hfin
      refine bodyPost_ret (v := .agg #[.int .i64 (K : Int), .slice fa F.length fc, .slice (some ⟨w3.heap.size, 0, none⟩) q.next.length q.next.length, .slice a9 q.cap.length c9]) (by simp [results, Try.results31, go_sem, r0, r1, r2, r3]) rfl ?_
      rw [unhide HP]
      refine ⟨_, .slice fa F.length fc, .slice (some ⟨w3.heap.size, 0, none⟩) q.next.length q.next.length, .slice a9 q.cap.length c9, rfl, ?_, hbl'⟩
      rw [unhide HDu]
      exact ⟨rfl, HT'.ints, HN'.ints, HC'.ints⟩
end Go.Proofs.Ytcdpgiklmonabaa


/- A face that is split: its arithmetic. -/
namespace Go.Proofs.Ytcdpgiklmonabaa
open Go Go.RowKit

theorem per_along {st : List Int} (hp : Sp.Perm st) {d : Nat} (hd : d < st.length) (a : Nat) : Sp.per st (itf (Sp.fn st) d a) = Sp.per st d := by
  obtain ⟨p1, p2, p3, p4⟩ := hp.per hd
  have hx := hp.fnP.it hd a
  have e0 : itf (Sp.fn st) d (Sp.per st d) = d := by
    have h := hp.nth_it hd (Sp.per st d)
    rw [p3] at h
    omega
  have e1 : Sp.nth st (itf (Sp.fn st) d a : Nat) (Sp.per st d) = (itf (Sp.fn st) d a : Nat) := by
    rw [hp.nth_it hx, ← itf_add, Nat.add_comm, itf_add, e0]
  have e2 : ∀ i, 0 < i → i < Sp.per st d → Sp.nth st (itf (Sp.fn st) d a : Nat) i ≠ (itf (Sp.fn st) d a : Nat) := fun i h0 h1 e => by
    rw [hp.nth_it hx, ← itf_add] at e
    have e3 : Sp.nth st d (a + i) = Sp.nth st d a := by rw [hp.nth_it hd, hp.nth_it hd, e]
    exact p4 i h0 h1 (hp.back hd a i e3)
  exact Sp.perGo_eq st _ _ e1 e2 st.length 1 (by omega) p1 (by omega)
theorem itf_mod {st : List Int} (hp : Sp.Perm st) {d : Nat} (hd : d < st.length) (i : Nat) : itf (Sp.fn st) d (i % Sp.per st d) = itf (Sp.fn st) d i := by
  obtain ⟨p1, p2, p3, p4⟩ := hp.per hd
  have e0 : itf (Sp.fn st) d (Sp.per st d) = d := by
    have h := hp.nth_it hd (Sp.per st d)
    rw [p3] at h
    omega
  have e1 : ∀ m, itf (Sp.fn st) d (Sp.per st d * m) = d := fun m => by
    induction m with
    | zero => rfl
    | succ m ih => rw [Nat.mul_succ, itf_add, ih, e0]
  conv => rhs; rw [← Nat.div_add_mod i (Sp.per st d), itf_add, e1]
/-- The row of the faces, the first j darts from x on laid. -/
def Sp.splitAt (x : Nat → Nat) (K f : Int) (jb : Nat) (F : List Int) : Nat → List Int
  | 0 => F
  | j + 1 => (Sp.splitAt x K f jb F j).set (x j) (if jb ≤ j then K else f)
theorem Sp.splitAt_len (x : Nat → Nat) (K f : Int) (jb : Nat) (F : List Int) : ∀ j, (Sp.splitAt x K f jb F j).length = F.length
  | 0 => rfl
  | j + 1 => by rw [Sp.splitAt, List.length_set, Sp.splitAt_len]
theorem set_self (l : List Int) (i : Nat) (z : Int) (h : l.getD i 0 = z) (_hi : i < l.length) : l.set i z = l := by
  subst h
  refine List.ext_getElem (by simp) fun k h1 h2 => ?_
  rw [List.getElem_set]
  split
  · rename_i e
    subst e
    exact Sp.getD_eq _ _ h2
  · rfl
theorem Sp.splitAt_low (x : Nat → Nat) (K f : Int) (jb : Nat) (F : List Int) (hx : ∀ j, x j < F.length) (hf : ∀ j, F.getD (x j) 0 = f) : ∀ j, j ≤ jb → Sp.splitAt x K f jb F j = F
  | 0, _ => rfl
  | j + 1, h => by rw [Sp.splitAt, Sp.splitAt_low x K f jb F hx hf j (by omega), if_neg (by omega), set_self F _ _ (hf j) (hx j)]
/-- Where a face is split. -/
structure Sp.SplitQ (q : Sp.Net) (s t : Int) (f d0 a jb : Nat) : Prop where
  sh : Sp.shared q s t = ((f : Int), true)
  d0l : d0 < q.tail.length
  d0f : (Sp.faces2 q).1.getD d0 0 = (f : Int)
  d0m : ∀ j, j < d0 → (Sp.faces2 q).1.getD j 0 ≠ (f : Int)
  al : a < Sp.per (Sp.behindL q.next) d0
  at_ : q.tail.getD (itf (Sp.fn (Sp.behindL q.next)) d0 a) 0 = s
  am : ∀ j, j < a → q.tail.getD (itf (Sp.fn (Sp.behindL q.next)) d0 j) 0 ≠ s
  bl : jb < Sp.per (Sp.behindL q.next) d0
  b0 : 0 < jb
  bt : q.tail.getD (itf (Sp.fn (Sp.behindL q.next)) d0 (a + jb)) 0 = t
  bm : ∀ j, j < jb → q.tail.getD (itf (Sp.fn (Sp.behindL q.next)) d0 (a + j)) 0 ≠ t
theorem Sp.sharedGo_true {T F : List Int} {s t : Int} : ∀ g f x, Sp.sharedGo T F s t g f = (x, true) → ∃ c : Nat, x = (c : Int) ∧ f ≤ c ∧ c < f + g ∧ Sp.meets T F c s ∧ Sp.meets T F c t ∧ ∀ e : Nat, f ≤ e → e < c → ¬ (Sp.meets T F e s ∧ Sp.meets T F e t)
  | 0, f, x, h => by rw [Sp.sharedGo] at h; simp at h
  | g + 1, f, x, h => by
    rw [Sp.sharedGo] at h
    split at h
    · rename_i h1
      injection h with h2 h3
      exact ⟨f, h2.symm, by omega, by omega, Sp.meetsB_of h1.1, Sp.meetsB_of h1.2, fun e h4 h5 => by omega⟩
    · rename_i h1
      obtain ⟨c, e1, e2, e3, e4, e5, e6⟩ := Sp.sharedGo_true g (f + 1) x h
      refine ⟨c, e1, by omega, by omega, e4, e5, fun e h4 h5 => ?_⟩
      by_cases he : e = f
      · subst he
        rintro ⟨h6, h7⟩
        exact h1 ⟨Sp.meetsB_true h6, Sp.meetsB_true h7⟩
      · exact e6 e (by omega) h5
theorem Sp.faces_orb {q : Sp.Net} (hq : Sp.LinkQ q) {d y : Nat} (hd : d < q.tail.length) (hy : y < q.tail.length) (e : (Sp.faces2 q).1.getD y 0 = (Sp.faces2 q).1.getD d 0) : ∃ i, i < Sp.per (Sp.behindL q.next) d ∧ itf (Sp.fn (Sp.behindL q.next)) d i = y := by
  have hst := Sp.faces2_st hq.pm hq.nx hq.ev
  have hb := hq.pm.behind (by rw [hq.nx]; exact hq.ev)
  have hlb : (Sp.behindL q.next).length = q.tail.length := by rw [Sp.behindL_len, hq.nx]
  obtain ⟨m, hm⟩ := hst.sep d y (by rw [hlb]; exact hd) (by rw [hlb]; exact hy) (hst.done d (by rw [hlb]; exact hd)) e.symm
  refine ⟨m % Sp.per (Sp.behindL q.next) d, Nat.mod_lt _ (hb.per (by rw [hlb]; exact hd)).1, ?_⟩
  rw [itf_mod hb (by rw [hlb]; exact hd), hm]
theorem Sp.faces_along {q : Sp.Net} (hq : Sp.LinkQ q) {d : Nat} (hd : d < q.tail.length) (i : Nat) : (Sp.faces2 q).1.getD (itf (Sp.fn (Sp.behindL q.next)) d i) 0 = (Sp.faces2 q).1.getD d 0 := by
  have hst := Sp.faces2_st hq.pm hq.nx hq.ev
  have hb := hq.pm.behind (by rw [hq.nx]; exact hq.ev)
  have hlb : (Sp.behindL q.next).length = q.tail.length := by rw [Sp.behindL_len, hq.nx]
  exact hst.orb hb (by rw [hlb]; exact hd) i
theorem Sp.splitQ_of {q : Sp.Net} (hq : Sp.LinkQ q) {s t : Int} (h : (Sp.shared q s t).2 = true) : ∃ f d0 a jb, Sp.SplitQ q s t f d0 a jb := by
  have hb := hq.pm.behind (by rw [hq.nx]; exact hq.ev)
  have hlb : (Sp.behindL q.next).length = q.tail.length := by rw [Sp.behindL_len, hq.nx]
  have e : Sp.shared q s t = ((Sp.shared q s t).1, true) := by rw [← h]
  have e' := e
  unfold Sp.shared at e
  split at e
  · simp at e
  · rename_i hst
    obtain ⟨f, hf1, -, hf2, ⟨y, hy1, hy2, hy3⟩, ⟨z, hz1, hz2, hz3⟩, -⟩ := Sp.sharedGo_true _ _ _ e
    have hs : (Sp.shared q s t).1 = (f : Int) := by
      rw [← hf1]
      unfold Sp.shared
      rw [if_neg hst]
    obtain ⟨d0, ⟨hd1, hd2⟩, hd3⟩ := least_of (p := fun d => d < q.tail.length ∧ (Sp.faces2 q).1.getD d 0 = (f : Int)) ⟨y, hy1, hy3⟩
    have hdb : d0 < (Sp.behindL q.next).length := by rw [hlb]; exact hd1
    have hp1 := (hb.per hdb).1
    obtain ⟨i, hi1, hi2⟩ := Sp.faces_orb hq hd1 hy1 (by rw [hy3, hd2])
    obtain ⟨a, ⟨ha1, ha2⟩, ha3⟩ := least_of (p := fun j => j < Sp.per (Sp.behindL q.next) d0 ∧ q.tail.getD (itf (Sp.fn (Sp.behindL q.next)) d0 j) 0 = s) ⟨i, hi1, by rw [hi2]; exact hy2⟩
    have hxl : itf (Sp.fn (Sp.behindL q.next)) d0 a < q.tail.length := by have := hb.fnP.it hdb a; rw [hlb] at this; exact this
    obtain ⟨k, hk1, hk2⟩ := Sp.faces_orb hq hxl hz1 (by rw [hz3, Sp.faces_along hq hd1 a, hd2])
    rw [per_along hb hdb] at hk1
    rw [← itf_add] at hk2
    obtain ⟨jb, ⟨hj1, hj2⟩, hj3⟩ := least_of (p := fun j => j < Sp.per (Sp.behindL q.next) d0 ∧ q.tail.getD (itf (Sp.fn (Sp.behindL q.next)) d0 (a + j)) 0 = t) ⟨k, hk1, by rw [hk2]; exact hz2⟩
    refine ⟨f, d0, a, jb, by rw [e', hs], hd1, hd2, fun j hj ej => ?_, ha1, ha2, fun j hj ej => ?_, hj1, ?_, hj2, fun j hj ej => ?_⟩
    · have := hd3 j ⟨by omega, ej⟩; omega
    · have := ha3 j ⟨by omega, ej⟩; omega
    · rcases Nat.eq_zero_or_pos jb with h0 | h0
      · rw [h0, Nat.add_zero, ha2] at hj2
        exact absurd hj2 hst
      · exact h0
    · have := hj3 j ⟨by omega, ej⟩; omega
end Go.Proofs.Ytcdpgiklmonabaa


