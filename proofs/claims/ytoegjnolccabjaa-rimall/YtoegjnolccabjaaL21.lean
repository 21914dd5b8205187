/- What the proof needs, part 21. -/
import Derived.WalkMore
import Derived.Test.YtoegjnolccabjaaL20
/- The reference's Heights, Flow. -/
namespace Go.Proofs.Ytoegjnolccabjaa
open Go Go.RowKit

theorem heights8_err (q : Sp.Net) (v tv nv cv : Value) (s t : Int) (w : World) (hv : NetI w v q tv nv cv) (hq : Sp.RimQ q) (he : Sp.rimE q s t ≠ 0) :
    Calls Try.prog 28 #[v, .int .i64 s, .int .i64 t] w fun e w' => e = .returned (.tuple #[.slice none 0 0, .slice none 0 0, .int .i64 0, .int .i64 (Sp.rimE q s t)]) ∧ Below w.heap.size w w' := by
  by_cases h : Sp.endsE q s t = 0
  · refine heights8_err2 q v tv nv cv s t w hv hq h ?_
    cases hh : (Sp.shared q s t).2 with
    | false => rfl
    | true =>
      obtain ⟨h1, h2, h3, -⟩ := Sp.ends_ok h
      exact absurd (by unfold Sp.rimE; rw [if_neg (fun k => k ⟨h1, h2⟩), if_neg h3, if_pos hh]) he
  · exact heights8_err1 q v tv nv cv s t w hv hq h
set_option maxRecDepth 100000 in
set_option maxHeartbeats 4000000 in
theorem heights8p_err (q : Sp.Net) (v tv nv cv : Value) (s t : Int) (w : World) (hv : NetI w v q tv nv cv) (hq : Sp.RimQ q) (he : Sp.rimE q s t ≠ 0) :
    Calls Try.prog 13 #[v, .int .i64 s, .int .i64 t] w fun e w' => e = .returned (.tuple #[.slice none 0 0, .int .i64 (Sp.rimE q s t)]) ∧ Below w.heap.size w w' := by
  obtain ⟨rfl, h1, h2, h3⟩ := hv
  obtain ⟨ta, tc, rfl, -, -⟩ := h1.form
  obtain ⟨na, nc, rfl, -, -⟩ := h2.form
  obtain ⟨ca, cc, rfl, -, -⟩ := h3.form
  obtain ⟨W1, hW1⟩ : ∃ W1, W1 = w.alloc (.cells #[.int .i64 q.n, .slice ta q.tail.length tc, .slice na q.next.length nc, .slice ca q.cap.length cc] 25) := ⟨_, rfl⟩
  have hb1 : Below w.heap.size w W1 := by rw [hW1]; exact (Below.refl _ w).alloc (Nat.le_refl _) _
  have hs1 : W1.heap.size = w.heap.size + 1 := by rw [hW1]; simp
  have hv1 : NetI W1 (.agg #[.int .i64 q.n, .slice ta q.tail.length tc, .slice na q.next.length nc, .slice ca q.cap.length cc]) q (.slice ta q.tail.length tc) (.slice na q.next.length nc) (.slice ca q.cap.length cc) := NetI.below ⟨rfl, h1, h2, h3⟩ hb1
  have e1 : W1.heap[w.heap.size]? = some (.cells #[.int .i64 q.n, .slice ta q.tail.length tc, .slice na q.next.length nc, .slice ca q.cap.length cc] 25) := by rw [hW1]; exact heap_alloc_new _ _
  have x0 : W1.cell? ⟨w.heap.size, 0, none⟩ = some (.int .i64 q.n) := by rw [cell_of_row _ _ _ _ _ _ e1]; rfl
  have x1 : W1.cell? ⟨w.heap.size, 1, none⟩ = some (.slice ta q.tail.length tc) := by rw [cell_of_row _ _ _ _ _ _ e1]; rfl
  have x2 : W1.cell? ⟨w.heap.size, 2, none⟩ = some (.slice na q.next.length nc) := by rw [cell_of_row _ _ _ _ _ _ e1]; rfl
  have x3 : W1.cell? ⟨w.heap.size, 3, none⟩ = some (.slice ca q.cap.length cc) := by rw [cell_of_row _ _ _ _ _ _ e1]; rfl
  have HC := hide (heights8_err q _ _ _ _ s t W1 hv1 hq he)
  have HB1 := hide (And.intro hb1 (show w.heap.size ≤ W1.heap.size by omega))
  obtain ⟨P, hP⟩ : ∃ P : Ending → World → Prop, P = fun e w' => e = .returned (.tuple #[.slice none 0 0, .int .i64 (Sp.rimE q s t)]) ∧ Below w.heap.size w w' := ⟨_, rfl⟩
  rw [← hP]
  have HP := hide hP
  clear hP e1 hv1 hs1 hb1 h1 h2 h3
  go_enter Try.func13, Try.ntmps13
  go_upto_region 1 with fail
  rw [← hW1]
  clear hW1
  go_wp2_with fail
  go_at_call 28
  refine (unhide HC).mono ?_
  rintro e w2 ⟨rfl, hb2⟩
  have HB := hide ((unhide HB1).1.trans (hb2.mono (unhide HB1).2))
  have heb : (Sp.rimE q s t == 0) = false := beq_eq_false_iff_ne.2 he
  clear hb2 HB1 HC hq he x0 x1 x2 x3
  generalize Sp.rimE q s t = E at *
  go_wp2
  rw [unhide HP]
  skip
  exact ⟨rfl, unhide HB⟩
set_option maxRecDepth 100000 in
set_option maxHeartbeats 4000000 in
theorem flow8_err (q : Sp.Net) (v tv nv cv : Value) (s t : Int) (w : World) (hv : NetI w v q tv nv cv) (hq : Sp.RimQ q) (he : Sp.rimE q s t ≠ 0) :
    Calls Try.prog 15 #[v, .int .i64 s, .int .i64 t] w fun e w' => e = .returned (.tuple #[.slice none 0 0, .int .i64 0, .int .i64 (Sp.rimE q s t)]) ∧ Below w.heap.size w w' := by
  obtain ⟨rfl, h1, h2, h3⟩ := hv
  obtain ⟨ta, tc, rfl, -, -⟩ := h1.form
  obtain ⟨na, nc, rfl, -, -⟩ := h2.form
  obtain ⟨ca, cc, rfl, -, -⟩ := h3.form
  obtain ⟨W1, hW1⟩ : ∃ W1, W1 = w.alloc (.cells #[.int .i64 q.n, .slice ta q.tail.length tc, .slice na q.next.length nc, .slice ca q.cap.length cc] 25) := ⟨_, rfl⟩
  have hb1 : Below w.heap.size w W1 := by rw [hW1]; exact (Below.refl _ w).alloc (Nat.le_refl _) _
  have hs1 : W1.heap.size = w.heap.size + 1 := by rw [hW1]; simp
  have hv1 : NetI W1 (.agg #[.int .i64 q.n, .slice ta q.tail.length tc, .slice na q.next.length nc, .slice ca q.cap.length cc]) q (.slice ta q.tail.length tc) (.slice na q.next.length nc) (.slice ca q.cap.length cc) := NetI.below ⟨rfl, h1, h2, h3⟩ hb1
  have e1 : W1.heap[w.heap.size]? = some (.cells #[.int .i64 q.n, .slice ta q.tail.length tc, .slice na q.next.length nc, .slice ca q.cap.length cc] 25) := by rw [hW1]; exact heap_alloc_new _ _
  have x0 : W1.cell? ⟨w.heap.size, 0, none⟩ = some (.int .i64 q.n) := by rw [cell_of_row _ _ _ _ _ _ e1]; rfl
  have x1 : W1.cell? ⟨w.heap.size, 1, none⟩ = some (.slice ta q.tail.length tc) := by rw [cell_of_row _ _ _ _ _ _ e1]; rfl
  have x2 : W1.cell? ⟨w.heap.size, 2, none⟩ = some (.slice na q.next.length nc) := by rw [cell_of_row _ _ _ _ _ _ e1]; rfl
  have x3 : W1.cell? ⟨w.heap.size, 3, none⟩ = some (.slice ca q.cap.length cc) := by rw [cell_of_row _ _ _ _ _ _ e1]; rfl
  have HC := hide (heights8_err q _ _ _ _ s t W1 hv1 hq he)
  have HB1 := hide (And.intro hb1 (show w.heap.size ≤ W1.heap.size by omega))
  obtain ⟨P, hP⟩ : ∃ P : Ending → World → Prop, P = fun e w' => e = .returned (.tuple #[.slice none 0 0, .int .i64 0, .int .i64 (Sp.rimE q s t)]) ∧ Below w.heap.size w w' := ⟨_, rfl⟩
  rw [← hP]
  have HP := hide hP
  clear hP e1 hv1 hs1 hb1 h1 h2 h3
  go_enter Try.func15, Try.ntmps15
  go_upto_region 1 with fail
  rw [← hW1]
  clear hW1
  go_wp2_with fail
  go_at_call 28
  refine (unhide HC).mono ?_
  rintro e w2 ⟨rfl, hb2⟩
  have HB := hide ((unhide HB1).1.trans (hb2.mono (unhide HB1).2))
  have heb : (Sp.rimE q s t == 0) = false := beq_eq_false_iff_ne.2 he
  clear hb2 HB1 HC hq he x0 x1 x2 x3
  generalize Sp.rimE q s t = E at *
  go_wp2
  rw [unhide HP]
  go_ret3
  exact ⟨rfl, unhide HB⟩
set_option maxRecDepth 100000 in
set_option maxHeartbeats 4000000 in
theorem heights8p_yes (q : Sp.Net) (v tv nv cv : Value) (s t : Int) (w : World) (hv : NetI w v q tv nv cv) (hq : Sp.RimQ q) (f d0 a jb : Nat) (he : Sp.endsE q s t = 0) (hs : Sp.SplitQ q s t f d0 a jb) (D : Nat → Int) (hD : Sp.Short 1152921504606846976 (Sp.rimR (Sp.splitL q f d0 a jb) q.cap q.tail.length) f (Sp.landK q + 1) D ∧ ∀ v, v < Sp.landK q + 1 → D v ≠ 1152921504606846976 → D v < 1152921504606846976) :
    Calls Try.prog 13 #[v, .int .i64 s, .int .i64 t] w fun e w' => ∃ G, e = .returned (.tuple #[.slice (some ⟨G, 0, none⟩) (Sp.landK q + 1) (Sp.landK q + 1), .int .i64 0]) ∧ w.heap.size ≤ G ∧ RowAt w' G (Sp.landK q + 1) D ∧ Below w.heap.size w w' := by
  obtain ⟨rfl, h1, h2, h3⟩ := hv
  obtain ⟨ta, tc, rfl, -, -⟩ := h1.form
  obtain ⟨na, nc, rfl, -, -⟩ := h2.form
  obtain ⟨ca, cc, rfl, -, -⟩ := h3.form
  obtain ⟨W1, hW1⟩ : ∃ W1, W1 = w.alloc (.cells #[.int .i64 q.n, .slice ta q.tail.length tc, .slice na q.next.length nc, .slice ca q.cap.length cc] 25) := ⟨_, rfl⟩
  have hb1 : Below w.heap.size w W1 := by rw [hW1]; exact (Below.refl _ w).alloc (Nat.le_refl _) _
  have hs1 : W1.heap.size = w.heap.size + 1 := by rw [hW1]; simp
  have hv1 : NetI W1 (.agg #[.int .i64 q.n, .slice ta q.tail.length tc, .slice na q.next.length nc, .slice ca q.cap.length cc]) q (.slice ta q.tail.length tc) (.slice na q.next.length nc) (.slice ca q.cap.length cc) := NetI.below ⟨rfl, h1, h2, h3⟩ hb1
  have e1 : W1.heap[w.heap.size]? = some (.cells #[.int .i64 q.n, .slice ta q.tail.length tc, .slice na q.next.length nc, .slice ca q.cap.length cc] 25) := by rw [hW1]; exact heap_alloc_new _ _
  have x0 : W1.cell? ⟨w.heap.size, 0, none⟩ = some (.int .i64 q.n) := by rw [cell_of_row _ _ _ _ _ _ e1]; rfl
  have x1 : W1.cell? ⟨w.heap.size, 1, none⟩ = some (.slice ta q.tail.length tc) := by rw [cell_of_row _ _ _ _ _ _ e1]; rfl
  have x2 : W1.cell? ⟨w.heap.size, 2, none⟩ = some (.slice na q.next.length nc) := by rw [cell_of_row _ _ _ _ _ _ e1]; rfl
  have x3 : W1.cell? ⟨w.heap.size, 3, none⟩ = some (.slice ca q.cap.length cc) := by rw [cell_of_row _ _ _ _ _ _ e1]; rfl
  have HC := hide (heights8_yes q _ _ _ _ s t W1 hv1 hq f d0 a jb he hs D hD)
  have HB1 := hide (And.intro hb1 (show w.heap.size ≤ W1.heap.size by omega))
  obtain ⟨P, hP⟩ : ∃ P : Ending → World → Prop, P = fun e w' => ∃ G, e = .returned (.tuple #[.slice (some ⟨G, 0, none⟩) (Sp.landK q + 1) (Sp.landK q + 1), .int .i64 0]) ∧ w.heap.size ≤ G ∧ RowAt w' G (Sp.landK q + 1) D ∧ Below w.heap.size w w' := ⟨_, rfl⟩
  rw [← hP]
  have HP := hide hP
  clear hP e1 hv1 hs1 hb1 h1 h2 h3
  go_enter Try.func13, Try.ntmps13
  go_upto_region 1 with fail
  rw [← hW1]
  clear hW1
  go_wp2_with fail
  go_at_call 28
  refine (unhide HC).mono ?_
  clear x0 x1 x2 x3
  rintro e w2 ⟨O, oc, G, rfl, hO, hG, hrow, hb2⟩
  have HB := hide (And.intro ((unhide HB1).1.trans (hb2.mono (unhide HB1).2)) (show w.heap.size ≤ G from Nat.le_trans (unhide HB1).2 hG))
  have HR := hide hrow
  clear hb2 HB1 HC hq hs hO hG hrow hD
  go_wp2
  rw [unhide HP]
  exact ⟨G, rfl, (unhide HB).2, unhide HR, (unhide HB).1⟩
set_option maxRecDepth 100000 in
set_option maxHeartbeats 8000000 in
theorem flow8_yes (q : Sp.Net) (v tv nv cv : Value) (s t : Int) (w : World) (hv : NetI w v q tv nv cv) (hq : Sp.RimQ q) (f d0 a jb : Nat) (he : Sp.endsE q s t = 0) (hs : Sp.SplitQ q s t f d0 a jb) (D : Nat → Int) (hD : Sp.Short 1152921504606846976 (Sp.rimR (Sp.splitL q f d0 a jb) q.cap q.tail.length) f (Sp.landK q + 1) D ∧ ∀ v, v < Sp.landK q + 1 → D v ≠ 1152921504606846976 → D v < 1152921504606846976) :
    Calls Try.prog 15 #[v, .int .i64 s, .int .i64 t] w fun e w' => ∃ lv, e = .returned (.tuple #[lv, .int .i64 (D (Sp.landK q)), .int .i64 0]) ∧ OwnI w' w.heap.size lv ((List.range q.tail.length).map (Sp.rise (Sp.splitL q f d0 a jb) ((List.range (Sp.landK q + 1)).map D))) ∧ Below w.heap.size w w' := by
  have HDb : Hid (∀ v, v < Sp.landK q + 1 → 0 ≤ D v ∧ D v ≤ 1152921504606846976) := hide fun v hv => ⟨Sp.short_nn hD.1 (hq.posR _ _) hv, by
    by_cases e : D v = 1152921504606846976
    · omega
    · have := hD.2 v hv e; omega⟩
  have HRg : Hid (∀ d, d < q.tail.length → 0 ≤ (Sp.splitL q f d0 a jb).getD d 0 ∧ (Sp.splitL q f d0 a jb).getD d 0 < ((Sp.landK q + 1 : Nat) : Int)) := hide fun d hd => hq.rng hs hd
  have HFl := hide (Sp.splitL_len q f d0 a jb)
  have hm48 : q.tail.length ≤ 48 := hq.le
  have hev := hq.link.ev
  obtain ⟨rfl, h1, h2, h3⟩ := hv
  obtain ⟨ta, tc, rfl, -, -⟩ := h1.form
  obtain ⟨na, nc, rfl, -, -⟩ := h2.form
  obtain ⟨ca, cc, rfl, -, -⟩ := h3.form
  obtain ⟨W1, hW1⟩ : ∃ W1, W1 = w.alloc (.cells #[.int .i64 q.n, .slice ta q.tail.length tc, .slice na q.next.length nc, .slice ca q.cap.length cc] 25) := ⟨_, rfl⟩
  have hb1 : Below w.heap.size w W1 := by rw [hW1]; exact (Below.refl _ w).alloc (Nat.le_refl _) _
  have hs1 : W1.heap.size = w.heap.size + 1 := by rw [hW1]; simp
  have hv1 : NetI W1 (.agg #[.int .i64 q.n, .slice ta q.tail.length tc, .slice na q.next.length nc, .slice ca q.cap.length cc]) q (.slice ta q.tail.length tc) (.slice na q.next.length nc) (.slice ca q.cap.length cc) := NetI.below ⟨rfl, h1, h2, h3⟩ hb1
  have e1 : W1.heap[w.heap.size]? = some (.cells #[.int .i64 q.n, .slice ta q.tail.length tc, .slice na q.next.length nc, .slice ca q.cap.length cc] 25) := by rw [hW1]; exact heap_alloc_new _ _
  have x0 : W1.cell? ⟨w.heap.size, 0, none⟩ = some (.int .i64 q.n) := by rw [cell_of_row _ _ _ _ _ _ e1]; rfl
  have x1 : W1.cell? ⟨w.heap.size, 1, none⟩ = some (.slice ta q.tail.length tc) := by rw [cell_of_row _ _ _ _ _ _ e1]; rfl
  have x2 : W1.cell? ⟨w.heap.size, 2, none⟩ = some (.slice na q.next.length nc) := by rw [cell_of_row _ _ _ _ _ _ e1]; rfl
  have x3 : W1.cell? ⟨w.heap.size, 3, none⟩ = some (.slice ca q.cap.length cc) := by rw [cell_of_row _ _ _ _ _ _ e1]; rfl
  have HC := hide (heights8_yes q _ _ _ _ s t W1 hv1 hq f d0 a jb he hs D hD)
  have HB1 := hide (And.intro hb1 (show w.heap.size ≤ W1.heap.size by omega))
  obtain ⟨P, hP⟩ : ∃ P : Ending → World → Prop, P = fun e w' => ∃ lv, e = .returned (.tuple #[lv, .int .i64 (D (Sp.landK q)), .int .i64 0]) ∧ OwnI w' w.heap.size lv ((List.range q.tail.length).map (Sp.rise (Sp.splitL q f d0 a jb) ((List.range (Sp.landK q + 1)).map D))) ∧ Below w.heap.size w w' := ⟨_, rfl⟩
  rw [← hP]
  have HP := hide hP
  clear hP e1 hv1 hs1 hb1 h1 h2 h3
  go_enter Try.func15, Try.ntmps15
  go_upto_region 1 with fail
  rw [← hW1]
  clear hW1
  go_wp2_with fail
  go_at_call 28
  refine (unhide HC).mono ?_
  clear x0 x1 x2 x3
  rintro e w2 ⟨O, oc, G, rfl, hO, hG, hrow, hb2⟩
  have HB2 := hide (And.intro ((unhide HB1).1.trans (hb2.mono (unhide HB1).2)) (show w.heap.size ≤ w2.heap.size + 0 from Nat.le_trans (unhide HB1).2 hb2.size))
  have HOc : Hid (∀ w' d, Below w2.heap.size w2 w' → d < q.tail.length → w'.cell? ⟨O, d, none⟩ = some (.int .i64 ((Sp.splitL q f d0 a jb).getD d 0))) := hide fun w' d hb hd => by
    have h := own_cell (own_below hO hb) d (by rw [unhide HFl]; exact hd)
    rw [h, Sp.getD_eq _ _ (by rw [unhide HFl]; exact hd)]
  have HGc : Hid (∀ w' v, Below w2.heap.size w2 w' → v < Sp.landK q + 1 → w'.cell? ⟨G, v, none⟩ = some (.int .i64 (D v))) := hide fun w' v hb hv => (hrow.below hb).cell hv
  have HKc : Hid (∀ w', Below w2.heap.size w2 w' → w'.cell? ⟨G, Sp.landK q, none⟩ = some (.int .i64 (D (Sp.landK q)))) := hide fun w' hb => unhide HGc w' _ hb (Nat.lt_succ_self _)
  have hKI : ((Sp.landK q : Nat) : Int) < ((Sp.landK q : Nat) : Int) + 1 := by omega
  have HQ : Hid (Below w2.heap.size w2 w2 ∧ OwnI w2 (w2.heap.size + 0) (.slice none 0 0) ((List.range 0).map (Sp.rise (Sp.splitL q f d0 a jb) ((List.range (Sp.landK q + 1)).map D)))) := hide ⟨Below.refl _ _, World.ownsRow_nil _ _ _ _⟩
  clear hb2 HB1 HC hq hs hO hG hrow hD he
  go_wp2
  go_loopg [13, 14] q.tail.length (fun g s13 s14 wr => ∃ d : Nat, d + g = q.tail.length ∧ s14 = .int .i64 (d : Int) ∧ Hid (Below w2.heap.size w2 wr ∧ OwnI wr (w2.heap.size + 0) s13 ((List.range d).map (Sp.rise (Sp.splitL q f d0 a jb) ((List.range (Sp.landK q + 1)).map D)))))
  case atStart => exact ⟨0, by omega, rfl, HQ⟩
  case round =>
    clear HQ
    obtain ⟨d, hdg, rfl, HI⟩ := hrel
    have HSr : Hid (w2.heap.size ≤ wr.heap.size) := hide (unhide HI).1.size
    obtain ⟨va, vc, hve, -, -⟩ := (OwnI.ints (unhide HI).2).form
    rw [List.length_map, List.length_range] at hve
    subst hve
    cases gk with
    | succ g' =>
      have hd : d < q.tail.length := by omega
      have hdI : (d : Int) < (q.tail.length : Int) := by omega
      have ho := oth_lt hd hev
      have hoI : ((Sp.oth d : Nat) : Int) < (q.tail.length : Int) := by omega
      have hX : bits .xor .i64 (d : Int) 1 = ((Sp.oth d : Nat) : Int) := xor_oth ⟨d, by omega⟩
      have r1 := unhide HRg d hd
      have r2 := unhide HRg _ ho
      obtain ⟨x, hx⟩ : ∃ x : Nat, (Sp.splitL q f d0 a jb).getD d 0 = (x : Int) := ⟨_, (Int.toNat_of_nonneg r1.1).symm⟩
      obtain ⟨y, hy⟩ : ∃ y : Nat, (Sp.splitL q f d0 a jb).getD (Sp.oth d) 0 = (y : Int) := ⟨_, (Int.toNat_of_nonneg r2.1).symm⟩
      rw [hx] at r1
      rw [hy] at r2
      have hxk : x < Sp.landK q + 1 := by omega
      have hyk : y < Sp.landK q + 1 := by omega
      have hxI : (x : Int) < ((Sp.landK q : Nat) : Int) + 1 := by omega
      have hyI : (y : Int) < ((Sp.landK q : Nat) : Int) + 1 := by omega
      have p1 := unhide HDb x hxk
      have p2 := unhide HDb y hyk
      obtain ⟨dx, hdx⟩ : ∃ dx, D x = dx := ⟨_, rfl⟩
      obtain ⟨dy, hdy⟩ : ∃ dy, D y = dy := ⟨_, rfl⟩
      rw [hdx] at p1
      rw [hdy] at p2
      have hwr : IntKind.i64.wrap (dy - dx) = dy - dx := by rw [IntKind.wrap_i64]; omega
      have HRi : Hid ((Sp.rise (Sp.splitL q f d0 a jb) ((List.range (Sp.landK q + 1)).map D)) d = IntKind.i64.wrap (dy - dx)) := hide (by
        rw [hwr]
        unfold Sp.rise
        rw [hx, hy, Int.toNat_natCast, Int.toNat_natCast, List.getD_eq_getElem?_getD, List.getD_eq_getElem?_getD, List.getElem?_map, List.getElem?_map, List.getElem?_range hxk, List.getElem?_range hyk]
        show D y - D x = _
        rw [hdx, hdy])
      have HRE : Hid (∀ w', Below w2.heap.size w2 w' → w'.cell? ⟨O, d, none⟩ = some (.int .i64 (x : Int)) ∧ w'.cell? ⟨O, Sp.oth d, none⟩ = some (.int .i64 (y : Int)) ∧ w'.cell? ⟨G, x, none⟩ = some (.int .i64 dx) ∧ w'.cell? ⟨G, y, none⟩ = some (.int .i64 dy)) := hide fun w' hb => by
        refine ⟨?_, ?_, ?_, ?_⟩
        · rw [← hx]; exact unhide HOc w' d hb hd
        · rw [← hy]; exact unhide HOc w' _ hb ho
        · rw [← hdx]; exact unhide HGc w' x hb hxk
        · rw [← hdy]; exact unhide HGc w' y hb hyk
      have HRD : Hid (∀ w', Below wr.heap.size wr w' → w'.cell? ⟨O, d, none⟩ = some (.int .i64 (x : Int)) ∧ w'.cell? ⟨O, Sp.oth d, none⟩ = some (.int .i64 (y : Int)) ∧ w'.cell? ⟨G, x, none⟩ = some (.int .i64 dx) ∧ w'.cell? ⟨G, y, none⟩ = some (.int .i64 dy)) := hide fun w' hb => unhide HRE w' ((unhide HI).1.trans (hb.mono (unhide HI).1.size))
      clear hx hy hdx hdy r1 r2 hwr
      go_upto_region 8 with fail
      have hbq := (Below.refl wr.heap.size wr).drew
      have hoq : OwnI wr.drew (w2.heap.size + 0) (.slice va d vc) ((List.range d).map (Sp.rise (Sp.splitL q f d0 a jb) ((List.range (Sp.landK q + 1)).map D))) := own_below (unhide HI).2 (Below.refl _ _).drew
      refine wp_region_G (fun w' => w'.cell? ⟨O, d, none⟩ = some (.int .i64 (x : Int)) ∧ w'.cell? ⟨O, Sp.oth d, none⟩ = some (.int .i64 (y : Int)) ∧ w'.cell? ⟨G, x, none⟩ = some (.int .i64 dx) ∧ w'.cell? ⟨G, y, none⟩ = some (.int .i64 dy)) (fun _ => false) (by kernel_rfl) (unhide HRD _ hbq) (fun hHeld => ?_)
      generalize wr.drew = wq at *
      refine wpAnyG_take (v := ?_) 0 (by rfl) (by kernel_rfl) (by kernel_rfl) (by kernel_rfl) (by kernel_rfl) (fun _ _ _ h => h) (Or.inl ⟨by rfl, ?_⟩) (by assumption) ?_
      rotate_left
      · (intro w' hSw; (try dsimp only at hSw); (try simp only [List.getElem_toArray, List.getElem_cons_zero]); go_simp; try (with_reducible rfl))
      simp only [Act.put, List.getElem_toArray, List.getElem_cons_zero, List.setIfInBounds_toArray, List.set_cons_zero, List.set_cons_succ]
      refine wpAnyG_take (v := ?_) 1 (by rfl) (by kernel_rfl) (by kernel_rfl) (by kernel_rfl) (by kernel_rfl) (fun _ _ _ h => h) (Or.inl ⟨by rfl, ?_⟩) (by assumption) ?_
      rotate_left
      · (intro w' hSw; (try dsimp only at hSw); (try simp only [List.getElem_toArray, List.getElem_cons_succ, List.getElem_cons_zero]); go_simp; try (with_reducible rfl))
      simp only [Act.put, List.getElem_toArray, List.getElem_cons_succ, List.getElem_cons_zero, List.setIfInBounds_toArray, List.set_cons_zero, List.set_cons_succ]
      refine wpAnyG_take (v := ?_) 2 (by rfl) (by kernel_rfl) (by kernel_rfl) (by kernel_rfl) (by kernel_rfl) (fun _ _ _ h => h) (Or.inl ⟨by rfl, ?_⟩) (by assumption) ?_
      rotate_left
      · (intro w' hSw; (try dsimp only at hSw); (try simp only [List.getElem_toArray, List.getElem_cons_succ, List.getElem_cons_zero]); go_simp; try (with_reducible rfl))
      simp only [Act.put, List.getElem_toArray, List.getElem_cons_succ, List.getElem_cons_zero, List.setIfInBounds_toArray, List.set_cons_zero, List.set_cons_succ]
      refine wpAnyG_take (v := ?_) 3 (by rfl) (by kernel_rfl) (by kernel_rfl) (by kernel_rfl) (by kernel_rfl) (fun _ _ _ h => h) (Or.inl ⟨by rfl, ?_⟩) (by assumption) ?_
      rotate_left
      · (intro w' hSw; (try dsimp only at hSw); (try simp only [List.getElem_toArray, List.getElem_cons_succ, List.getElem_cons_zero]); go_simp; try (with_reducible rfl))
      simp only [Act.put, List.getElem_toArray, List.getElem_cons_succ, List.getElem_cons_zero, List.setIfInBounds_toArray, List.set_cons_zero, List.set_cons_succ]
      refine wpAnyG_take (v := ?_) 4 (by rfl) (by kernel_rfl) (by kernel_rfl) (by kernel_rfl) (by kernel_rfl) (fun _ _ _ h => h) (Or.inl ⟨by rfl, ?_⟩) (by assumption) ?_
      rotate_left
      · (intro w' hSw; (try dsimp only at hSw); (try simp only [List.getElem_toArray, List.getElem_cons_succ, List.getElem_cons_zero]); go_simp; try (with_reducible rfl))
      simp only [Act.put, List.getElem_toArray, List.getElem_cons_succ, List.getElem_cons_zero, List.setIfInBounds_toArray, List.set_cons_zero, List.set_cons_succ]
      refine wpAnyG_take (v := ?_) 5 (by rfl) (by kernel_rfl) (by kernel_rfl) (by kernel_rfl) (by kernel_rfl) (fun _ _ _ h => h) (Or.inl ⟨by rfl, ?_⟩) (by assumption) ?_
      rotate_left
      · (intro w' hSw; (try dsimp only at hSw); (try simp only [List.getElem_toArray, List.getElem_cons_succ, List.getElem_cons_zero]); go_simp; try (with_reducible rfl))
      simp only [Act.put, List.getElem_toArray, List.getElem_cons_succ, List.getElem_cons_zero, List.setIfInBounds_toArray, List.set_cons_zero, List.set_cons_succ]
      refine wpAnyG_take (v := ?_) 6 (by rfl) (by kernel_rfl) (by kernel_rfl) (by kernel_rfl) (by kernel_rfl) (fun _ _ _ h => h) (Or.inl ⟨by rfl, ?_⟩) (by assumption) ?_
      rotate_left
      · (intro w' hSw; (try dsimp only at hSw); (try simp only [List.getElem_toArray, List.getElem_cons_succ, List.getElem_cons_zero]); go_simp; try (with_reducible rfl))
      simp only [Act.put, List.getElem_toArray, List.getElem_cons_succ, List.getElem_cons_zero, List.setIfInBounds_toArray, List.set_cons_zero, List.set_cons_succ]
      refine wpAnyG_take (v := ?_) 7 (by rfl) (by kernel_rfl) (by kernel_rfl) (by kernel_rfl) (by kernel_rfl) (fun _ _ _ h => h) (Or.inl ⟨by rfl, ?_⟩) (by assumption) ?_
      rotate_left
      · (intro w' hSw; (try dsimp only at hSw); (try simp only [List.getElem_toArray, List.getElem_cons_succ, List.getElem_cons_zero]); go_simp; try (with_reducible rfl))
      simp only [Act.put, List.getElem_toArray, List.getElem_cons_succ, List.getElem_cons_zero, List.setIfInBounds_toArray, List.set_cons_zero, List.set_cons_succ]
      refine wpAnyG_take (v := ?_) 8 (by rfl) (by kernel_rfl) (by kernel_rfl) (by kernel_rfl) (by kernel_rfl) (fun _ _ _ h => h) (Or.inl ⟨by rfl, ?_⟩) (by assumption) ?_
      rotate_left
      · (intro w' hSw; (try dsimp only at hSw); (try simp only [List.getElem_toArray, List.getElem_cons_succ, List.getElem_cons_zero]); go_simp; try (with_reducible rfl))
      simp only [Act.put, List.getElem_toArray, List.getElem_cons_succ, List.getElem_cons_zero, List.setIfInBounds_toArray, List.set_cons_zero, List.set_cons_succ]
      refine wpAnyG_take (v := ?_) 9 (by rfl) (by kernel_rfl) (by kernel_rfl) (by kernel_rfl) (by kernel_rfl) (fun _ _ _ h => h) (Or.inl ⟨by rfl, ?_⟩) (by assumption) ?_
      rotate_left
      · (intro w' hSw; (try dsimp only at hSw); (try simp only [List.getElem_toArray, List.getElem_cons_succ, List.getElem_cons_zero]); go_simp; try (with_reducible rfl))
      simp only [Act.put, List.getElem_toArray, List.getElem_cons_succ, List.getElem_cons_zero, List.setIfInBounds_toArray, List.set_cons_zero, List.set_cons_succ]
      refine wpAnyG_take (v := ?_) 10 (by rfl) (by kernel_rfl) (by kernel_rfl) (by kernel_rfl) (by kernel_rfl) (fun _ _ _ h => h) (Or.inl ⟨by rfl, ?_⟩) (by assumption) ?_
      rotate_left
      · (intro w' hSw; (try dsimp only at hSw); (try simp only [List.getElem_toArray, List.getElem_cons_succ, List.getElem_cons_zero]); go_simp; try (with_reducible rfl))
      simp only [Act.put, List.getElem_toArray, List.getElem_cons_succ, List.getElem_cons_zero, List.setIfInBounds_toArray, List.set_cons_zero, List.set_cons_succ]
      refine wpAnyG_take (v := ?_) 11 (by rfl) (by kernel_rfl) (by kernel_rfl) (by kernel_rfl) (by kernel_rfl) (fun _ _ _ h => h) (Or.inl ⟨by rfl, ?_⟩) (by assumption) ?_
      rotate_left
      · (intro w' hSw; (try dsimp only at hSw); (try simp only [List.getElem_toArray, List.getElem_cons_succ, List.getElem_cons_zero]); go_simp; try (with_reducible rfl))
      simp only [Act.put, List.getElem_toArray, List.getElem_cons_succ, List.getElem_cons_zero, List.setIfInBounds_toArray, List.set_cons_zero, List.set_cons_succ]
      refine wpAnyG_take (v := ?_) 12 (by rfl) (by kernel_rfl) (by kernel_rfl) (by kernel_rfl) (by kernel_rfl) (fun _ _ _ h => h) (Or.inl ⟨by rfl, ?_⟩) (by assumption) ?_
      rotate_left
      · (intro w' hSw; (try dsimp only at hSw); (try simp only [List.getElem_toArray, List.getElem_cons_succ, List.getElem_cons_zero]); go_simp; try (with_reducible rfl))
      simp only [Act.put, List.getElem_toArray, List.getElem_cons_succ, List.getElem_cons_zero, List.setIfInBounds_toArray, List.set_cons_zero, List.set_cons_succ]
      refine wpAnyG_take (v := ?_) 13 (by rfl) (by kernel_rfl) (by kernel_rfl) (by kernel_rfl) (by kernel_rfl) (fun _ _ _ h => h) (Or.inl ⟨by rfl, ?_⟩) (by assumption) ?_
      rotate_left
      · (intro w' hSw; (try dsimp only at hSw); (try simp only [List.getElem_toArray, List.getElem_cons_succ, List.getElem_cons_zero]); go_simp; try (with_reducible rfl))
      simp only [Act.put, List.getElem_toArray, List.getElem_cons_succ, List.getElem_cons_zero, List.setIfInBounds_toArray, List.set_cons_zero, List.set_cons_succ]
      refine wpAnyG_take (v := ?_) 14 (by rfl) (by kernel_rfl) (by kernel_rfl) (by kernel_rfl) (by kernel_rfl) (fun _ _ _ h => h) (Or.inl ⟨by rfl, ?_⟩) (by assumption) ?_
      rotate_left
      · (intro w' hSw; (try dsimp only at hSw); (try simp only [List.getElem_toArray, List.getElem_cons_succ, List.getElem_cons_zero]); go_simp; try (with_reducible rfl))
      simp only [Act.put, List.getElem_toArray, List.getElem_cons_succ, List.getElem_cons_zero, List.setIfInBounds_toArray, List.set_cons_zero, List.set_cons_succ]
      refine wpAnyG_take (v := ?_) 15 (by rfl) (by kernel_rfl) (by kernel_rfl) (by kernel_rfl) (by kernel_rfl) (fun _ _ _ h => h) (Or.inl ⟨by rfl, ?_⟩) (by assumption) ?_
      rotate_left
      · (intro w' hSw; (try dsimp only at hSw); (try simp only [List.getElem_toArray, List.getElem_cons_succ, List.getElem_cons_zero]); go_simp; try (with_reducible rfl))
      simp only [Act.put, List.getElem_toArray, List.getElem_cons_succ, List.getElem_cons_zero, List.setIfInBounds_toArray, List.set_cons_zero, List.set_cons_succ]
      refine wpAnyG_take (v := ?_) 16 (by rfl) (by kernel_rfl) (by kernel_rfl) (by kernel_rfl) (by kernel_rfl) (fun _ _ _ h => h) (Or.inl ⟨by rfl, ?_⟩) (by assumption) ?_
      rotate_left
      · (intro w' hSw; (try dsimp only at hSw); (try simp only [List.getElem_toArray, List.getElem_cons_succ, List.getElem_cons_zero]); go_simp; try (with_reducible rfl))
      simp only [Act.put, List.getElem_toArray, List.getElem_cons_succ, List.getElem_cons_zero, List.setIfInBounds_toArray, List.set_cons_zero, List.set_cons_succ]
      refine wpAnyG_ready [17] (by kernel_rfl) (by simp) ?_
      refine AllReadyG.cons 17 (by rfl) (fun K hK => ?_) ?_
      · simp only [List.getElem_toArray, List.getElem_cons_succ, List.getElem_cons_zero]
        go_simp
        have hba := Below.alloc hbq hbq.size (.cells #[.int .i64 (IntKind.i64.wrap (dy - dx))] 3)
        refine hK.out _ _ (unhide HRD _ hba) (fun _ => ?_)
        clear hK K
        try simp only [Act.put, List.setIfInBounds_toArray, List.set_cons_zero, List.set_cons_succ]
        refine wpAnyG_ready [18] (by kernel_rfl) (by simp) ?_
        refine AllReadyG.cons 18 (by rfl) (fun K hK => ?_) ?_
        · simp only [List.getElem_toArray, List.getElem_cons_succ, List.getElem_cons_zero]
          refine if_wanted (by rfl) (wp_app (w := wq.alloc (.cells #[.int .i64 (IntKind.i64.wrap (dy - dx))] 3)) _ _ (by rfl) (w2.heap.size + 0) _ _ ((List.range d).map (Sp.rise (Sp.splitL q f d0 a jb) ((List.range (Sp.landK q + 1)).map D))) [IntKind.i64.wrap (dy - dx)] (by rfl) (by rfl) (own_below hoq ((Below.refl _ _).alloc (Nat.le_refl _) _)) (OwnI.ints (own_lit wq 0 _ 1 [IntKind.i64.wrap (dy - dx)] rfl rfl (Nat.zero_le _) (by simp))) (d + 1) (by simp) (by omega) (by have := hbq.size; have := unhide HSr; simp; omega) ?_)
          intro a9 c9 w9 own9 hl9 hg9
          have hb9 : Below w2.heap.size w2 w9 := ((unhide HI).1.trans (hba.mono (unhide HI).1.size)).trans (hl9.mono (Nat.le_refl _))
          refine hK.out _ _ (unhide HRE _ hb9) (fun _ => ?_)
          clear hK K
          try simp only [Act.put, List.setIfInBounds_toArray, List.set_cons_zero, List.set_cons_succ]
          refine wpAnyG_take (v := ?_) 19 (by rfl) (by kernel_rfl) (by kernel_rfl) (by kernel_rfl) (by kernel_rfl) (fun _ _ _ h => h) (Or.inl ⟨by rfl, ?_⟩) (by assumption) ?_
          rotate_left
          · (intro w' hSw; (try dsimp only at hSw); (try simp only [List.getElem_toArray, List.getElem_cons_succ, List.getElem_cons_zero]); go_simp; try (with_reducible rfl))
          simp only [Act.put, List.getElem_toArray, List.getElem_cons_succ, List.getElem_cons_zero, List.setIfInBounds_toArray, List.set_cons_zero, List.set_cons_succ]
          refine wpAnyG_done (by kernel_rfl) ?_ _
          refine NoPanic.normal ?_
          clear hHeld
          have HF : Hid (Below w2.heap.size w2 w9 ∧ OwnI w9 (w2.heap.size + 0) (.slice a9 (d + 1) c9) ((List.range (d + 1)).map (Sp.rise (Sp.splitL q f d0 a jb) ((List.range (Sp.landK q + 1)).map D)))) := hide ⟨hb9, by rw [List.range_succ (n := d), List.map_append]; rw [← unhide HRi] at own9; exact own9⟩
          clear hb9 own9 hg9 hl9 hba hoq
          go_wp2
          go_roundg g'
          case rel => exact ⟨d + 1, by omega, by go_num, HF⟩
          case measure => omega
        exact AllReadyG.nil
      exact AllReadyG.nil
    | zero =>
      obtain rfl : d = q.tail.length := by omega
      have hnn : ¬ (q.tail.length : Int) < (q.tail.length : Int) := by omega
      go_upto_region 9 with fail
      have hbq := (Below.refl wr.heap.size wr).drew
      refine wp_region_G (fun w' => w'.cell? ⟨G, Sp.landK q, none⟩ = some (.int .i64 (D (Sp.landK q)))) (fun _ => false) (by kernel_rfl) (unhide HKc _ ((unhide HI).1.trans (hbq.mono (unhide HI).1.size))) (fun hHeld => ?_)
      have HFi := hide (And.intro (own_below (unhide HI).2 hbq) ((unhide HI).1.trans (hbq.mono (unhide HI).1.size)))
      generalize wr.drew = wq at *
      refine wpAnyG_take (v := ?_) 0 (by rfl) (by kernel_rfl) (by kernel_rfl) (by kernel_rfl) (by kernel_rfl) (fun _ _ _ h => h) (Or.inl ⟨by rfl, ?_⟩) (by assumption) ?_
      rotate_left
      · (intro w' hSw; (try dsimp only at hSw); (try simp only [List.getElem_toArray, List.getElem_cons_zero]); go_simp; try (with_reducible rfl))
      simp only [Act.put, List.getElem_toArray, List.getElem_cons_zero, List.setIfInBounds_toArray, List.set_cons_zero, List.set_cons_succ]
      refine wpAnyG_take (v := ?_) 1 (by rfl) (by kernel_rfl) (by kernel_rfl) (by kernel_rfl) (by kernel_rfl) (fun _ _ _ h => h) (Or.inl ⟨by rfl, ?_⟩) (by assumption) ?_
      rotate_left
      · (intro w' hSw; (try dsimp only at hSw); (try simp only [List.getElem_toArray, List.getElem_cons_succ, List.getElem_cons_zero]); go_simp; try (with_reducible rfl))
      simp only [Act.put, List.getElem_toArray, List.getElem_cons_succ, List.getElem_cons_zero, List.setIfInBounds_toArray, List.set_cons_zero, List.set_cons_succ]
      refine wpAnyG_take (v := ?_) 2 (by rfl) (by kernel_rfl) (by kernel_rfl) (by kernel_rfl) (by kernel_rfl) (fun _ _ _ h => h) (Or.inl ⟨by rfl, ?_⟩) (by assumption) ?_
      rotate_left
      · (intro w' hSw; (try dsimp only at hSw); (try simp only [List.getElem_toArray, List.getElem_cons_succ, List.getElem_cons_zero]); go_simp; try (with_reducible rfl))
      simp only [Act.put, List.getElem_toArray, List.getElem_cons_succ, List.getElem_cons_zero, List.setIfInBounds_toArray, List.set_cons_zero, List.set_cons_succ]
      refine wpAnyG_take (v := ?_) 3 (by rfl) (by kernel_rfl) (by kernel_rfl) (by kernel_rfl) (by kernel_rfl) (fun _ _ _ h => h) (Or.inl ⟨by rfl, ?_⟩) (by assumption) ?_
      rotate_left
      · (intro w' hSw; (try dsimp only at hSw); (try simp only [List.getElem_toArray, List.getElem_cons_succ, List.getElem_cons_zero]); go_simp; try (with_reducible rfl))
      simp only [Act.put, List.getElem_toArray, List.getElem_cons_succ, List.getElem_cons_zero, List.setIfInBounds_toArray, List.set_cons_zero, List.set_cons_succ]
      refine wpAnyG_take (v := ?_) 4 (by rfl) (by kernel_rfl) (by kernel_rfl) (by kernel_rfl) (by kernel_rfl) (fun _ _ _ h => h) (Or.inl ⟨by rfl, ?_⟩) (by assumption) ?_
      rotate_left
      · (intro w' hSw; (try dsimp only at hSw); (try simp only [List.getElem_toArray, List.getElem_cons_succ, List.getElem_cons_zero]); go_simp; try (with_reducible rfl))
      simp only [Act.put, List.getElem_toArray, List.getElem_cons_succ, List.getElem_cons_zero, List.setIfInBounds_toArray, List.set_cons_zero, List.set_cons_succ]
      refine wpAnyG_take (v := ?_) 5 (by rfl) (by kernel_rfl) (by kernel_rfl) (by kernel_rfl) (by kernel_rfl) (fun _ _ _ h => h) (Or.inl ⟨by rfl, ?_⟩) (by assumption) ?_
      rotate_left
      · (intro w' hSw; (try dsimp only at hSw); (try simp only [List.getElem_toArray, List.getElem_cons_succ, List.getElem_cons_zero]); go_simp; try (with_reducible rfl))
      simp only [Act.put, List.getElem_toArray, List.getElem_cons_succ, List.getElem_cons_zero, List.setIfInBounds_toArray, List.set_cons_zero, List.set_cons_succ]
      refine wpAnyG_take (v := ?_) 6 (by rfl) (by kernel_rfl) (by kernel_rfl) (by kernel_rfl) (by kernel_rfl) (fun _ _ _ h => h) (Or.inl ⟨by rfl, ?_⟩) (by assumption) ?_
      rotate_left
      · (intro w' hSw; (try dsimp only at hSw); (try simp only [List.getElem_toArray, List.getElem_cons_succ, List.getElem_cons_zero]); go_simp; try (with_reducible rfl))
      simp only [Act.put, List.getElem_toArray, List.getElem_cons_succ, List.getElem_cons_zero, List.setIfInBounds_toArray, List.set_cons_zero, List.set_cons_succ]
      refine wpAnyG_take (v := ?_) 7 (by rfl) (by kernel_rfl) (by kernel_rfl) (by kernel_rfl) (by kernel_rfl) (fun _ _ _ h => h) (Or.inl ⟨by rfl, ?_⟩) (by assumption) ?_
      rotate_left
      · (intro w' hSw; (try dsimp only at hSw); (try simp only [List.getElem_toArray, List.getElem_cons_succ, List.getElem_cons_zero]); go_simp; try (with_reducible rfl))
      simp only [Act.put, List.getElem_toArray, List.getElem_cons_succ, List.getElem_cons_zero, List.setIfInBounds_toArray, List.set_cons_zero, List.set_cons_succ]
      refine wpAnyG_done (by kernel_rfl) ?_ _
      refine NoPanic.normal ?_
      clear hHeld
      go_wp2
      rw [unhide HP]
      go_ret3
      exact ⟨_, rfl, own_base (unhide HFi).1 (unhide HB2).2, (unhide HB2).1.trans ((unhide HFi).2.mono (unhide HB2).2)⟩
end Go.Proofs.Ytoegjnolccabjaa


/- Package rim: the chapter's example and an edge, as the law has them. -/
namespace Go.Proofs.Ytoegjnolccabjaa
open Go Go.RowKit

theorem q1_rim : Sp.RimQ Sp.q1 := ⟨q1_link, by decide, by decide, by decide, fun x hx => (by cases hx), fun i hi => absurd hi (Nat.not_lt_zero _), by decide, by decide +kernel⟩
theorem q0_rim : Sp.RimQ Sp.q0 := ⟨q0_link, by decide, by decide, by decide, fun x hx => by
  have h : x ∈ [(5 : Int), 3] := hx
  simp only [List.mem_cons, List.not_mem_nil, or_false] at h
  rcases h with rfl | rfl <;> decide, fun i hi => by
  have hi' : i < 2 := hi
  rw [q0_faces2]
  rcases (show i = 0 ∨ i = 1 by omega) with rfl | rfl <;> decide, q0_walk, q0_check⟩
theorem q1_rimE : Sp.rimE Sp.q1 0 0 = 9 := by unfold Sp.rimE; rw [if_neg (by decide), if_pos rfl]
theorem q0_short : Sp.Short 1152921504606846976 [⟨0, 1, 5⟩, ⟨1, 0, 3⟩] 0 2 (fun v => if v = 0 then 0 else 5) where
  src := rfl
  arc := fun a ha _ => by
    simp only [List.mem_cons, List.not_mem_nil, or_false] at ha
    rcases ha with rfl | rfl <;> decide
  att := fun v hv _ => by
    rcases (show v = 0 ∨ v = 1 by omega) with rfl | rfl
    · exact ⟨0, rfl, rfl⟩
    · exact ⟨1, ⟨0, 1, 5⟩, List.mem_cons_self .., rfl, rfl, rfl⟩
theorem q0_D {D : Nat → Int} (h : Sp.Short 1152921504606846976 (Sp.rimR (Sp.splitL Sp.q0 0 0 0 1) Sp.q0.cap Sp.q0.tail.length) 0 (Sp.landK Sp.q0 + 1) D) : D 0 = 0 ∧ D 1 = 5 := by
  have hk : Sp.landK Sp.q0 + 1 = 2 := by unfold Sp.landK; rw [q0_faces2]; rfl
  rw [q0_splitL, hk] at h
  have h2 : Sp.Short 1152921504606846976 [⟨0, 1, 5⟩, ⟨1, 0, 3⟩] 0 2 D := h
  exact ⟨h2.uniq q0_short (by decide) (by decide), h2.uniq q0_short (by decide) (by decide)⟩
theorem q0_row {D : Nat → Int} (h0 : D 0 = 0) (h1 : D 1 = 5) : (List.range Sp.q0.tail.length).map (Sp.rise (Sp.splitL Sp.q0 0 0 0 1) ((List.range (Sp.landK Sp.q0 + 1)).map D)) = [5, -5] := by
  have hk : Sp.landK Sp.q0 + 1 = 2 := by unfold Sp.landK; rw [q0_faces2]; rfl
  rw [q0_splitL, hk]
  show [D 1 - D 0, D 0 - D 1] = [5, -5]
  rw [h0, h1]
  rfl
set_option maxRecDepth 100000 in
set_option maxHeartbeats 2000000 in
theorem known8_any (w : World) :
    Calls Try.prog 9 #[] w fun e w' => e = .returned (.bool true) ∧ Below w.heap.size w w' := by
  have HL := hide (lit_net w 2 [0, 1] [0, 1] [5, 3] 2 2 2 rfl rfl rfl (by simp))
  obtain ⟨P, hP⟩ : ∃ P : Ending → World → Prop, P = fun e w' => e = .returned (.bool true) ∧ Below w.heap.size w w' := ⟨_, rfl⟩
  rw [← hP]
  have HP := hide hP
  clear hP
  go_enter Try.func9, Try.ntmps9
  go_wp2_with fail
  have hWW : ((((w.alloc (.cells #[.int .i64 0, .int .i64 1] 3)).alloc (.cells #[.int .i64 0, .int .i64 1] 3)).alloc (.cells #[.int .i64 5, .int .i64 3] 3)).alloc (.cells #[.int .i64 2, .slice (some ⟨w.heap.size, 0, none⟩) 2 2, .slice (some ⟨w.heap.size + 1, 0, none⟩) 2 2, .slice (some ⟨w.heap.size + 1 + 1, 0, none⟩) 2 2] 25)) = ((((w.alloc (.cells (([0, 1] : List Int).map (Value.int .i64)).toArray 3)).alloc (.cells (([0, 1] : List Int).map (Value.int .i64)).toArray 3)).alloc (.cells (([5, 3] : List Int).map (Value.int .i64)).toArray 3)).alloc (.cells #[.int .i64 2, .slice (some ⟨w.heap.size, 0, none⟩) 2 2, .slice (some ⟨w.heap.size + 1, 0, none⟩) 2 2, .slice (some ⟨w.heap.size + 1 + 1, 0, none⟩) 2 2] 25)) := rfl
  rw [← hWW] at HL
  clear hWW
  have hs4 : ((((w.alloc (.cells #[.int .i64 0, .int .i64 1] 3)).alloc (.cells #[.int .i64 0, .int .i64 1] 3)).alloc (.cells #[.int .i64 5, .int .i64 3] 3)).alloc (.cells #[.int .i64 2, .slice (some ⟨w.heap.size, 0, none⟩) 2 2, .slice (some ⟨w.heap.size + 1, 0, none⟩) 2 2, .slice (some ⟨w.heap.size + 1 + 1, 0, none⟩) 2 2] 25)).heap.size = w.heap.size + 4 := by simp
  generalize ((((w.alloc (.cells #[.int .i64 0, .int .i64 1] 3)).alloc (.cells #[.int .i64 0, .int .i64 1] 3)).alloc (.cells #[.int .i64 5, .int .i64 3] 3)).alloc (.cells #[.int .i64 2, .slice (some ⟨w.heap.size, 0, none⟩) 2 2, .slice (some ⟨w.heap.size + 1, 0, none⟩) 2 2, .slice (some ⟨w.heap.size + 1 + 1, 0, none⟩) 2 2] 25)) = W4 at *
  have HT : Hid (∀ w2 w3, Below (w.heap.size + 4) W4 w2 → Below w2.heap.size w2 w3 → Below (w.heap.size + 4) W4 w3) := hide fun w2 w3 h2 h3 => h2.trans (h3.mono (unhide HL w2 h2).2.2.1)
  have hb4 : Below (w.heap.size + 4) W4 W4 := Below.refl _ _
  have HX : Hid (∀ w', Below (w.heap.size + 4) W4 w' → w'.cell? ⟨w.heap.size + 1 + 1 + 1, 0, none⟩ = some (.int .i64 2) ∧ w'.cell? ⟨w.heap.size + 1 + 1 + 1, 1, none⟩ = some (.slice (some ⟨w.heap.size, 0, none⟩) 2 2) ∧ w'.cell? ⟨w.heap.size + 1 + 1 + 1, 2, none⟩ = some (.slice (some ⟨w.heap.size + 1, 0, none⟩) 2 2) ∧ w'.cell? ⟨w.heap.size + 1 + 1 + 1, 3, none⟩ = some (.slice (some ⟨w.heap.size + 1 + 1, 0, none⟩) 2 2)) := hide fun w' hb => (unhide HL w' hb).2.2.2
  clear hs4
  go_at_call 12
  refine (rmheights_err Sp.q1 _ _ _ _ 0 0 W4 ⟨rfl, ints_nil _, ints_nil _, ints_nil _⟩ q1_rim (by rw [q1_rimE]; decide)).mono ?_
  rw [q1_rimE]
  rintro e w5 ⟨rfl, hb5⟩
  replace hb5 := unhide HT _ _ hb4 hb5
  clear hb4
  obtain ⟨x0, x1, x2, x3⟩ := unhide HX w5 hb5
  go_wp2_with fail
  go_at_call 14
  refine (rmflow_yes Sp.q0 _ _ _ _ 0 1 w5 (unhide HL w5 hb5).1 q0_rim 0 0 0 1 (by decide) (by decide) (by decide) q0_split).mono ?_
  rintro e w6 ⟨lv, D, rfl, hO, hb6, hD⟩
  obtain ⟨e0, e1⟩ := q0_D hD.1
  rw [q0_row e0 e1] at hO
  have hk : D (Sp.landK Sp.q0) = 5 := by
    have hk1 : Sp.landK Sp.q0 = 1 := by unfold Sp.landK; rw [q0_faces2]; rfl
    rw [hk1]; exact e1
  rw [hk]
  obtain ⟨la, lc, rfl, -, -, HLa⟩ := (OwnI.ints hO).allA
  obtain ⟨b, o, rfl, -, hc0⟩ := unhide HLa 0 (by decide)
  obtain ⟨b', o', e2, -, hc1⟩ := unhide HLa 1 (by decide)
  injection e2 with e2
  injection e2 with q1 q2
  subst q1 q2
  have c0 := hc0 w6 (Below.refl _ _)
  have c1 := hc1 w6 (Below.refl _ _)
  have c0' : w6.cell? ⟨b, o, none⟩ = some (.int .i64 5) := c0
  have c1' : w6.cell? ⟨b, o + 1, none⟩ = some (.int .i64 (-5)) := c1
  have Hb6 := hide (unhide HL w6 (unhide HT _ _ hb5 hb6)).2.1
  have hl2 : ([5, -5] : List Int).length = 2 := rfl
  rw [hl2]
  clear hb5 hb6 hO hD e0 e1 hk HLa hc0 hc1 c0 c1 x0 x1 x2 x3 hl2
  go_wp2
  rw [unhide HP]
  exact ⟨rfl, unhide Hb6⟩
end Go.Proofs.Ytoegjnolccabjaa


/- A tree by the order in which vertices are found (P401): what Span tells, as a recursion; what stays along it. -/
namespace Go.Proofs.Ytoegjnolccabjaa
open Go Go.RowKit

/-- The darts from d on, c of them, of the vertex u: what is found by them. -/
def Sp.rowGo (T : List Int) (root u : Int) : Nat → Nat → List Int → List Int → List Int × List Int
  | 0, _, fl, up => (fl, up)
  | c + 1, d, fl, up =>
    if T.getD d 0 = u then
      if T.getD (Sp.oth d) 0 = root ∨ up.getD (T.getD (Sp.oth d) 0).toNat 0 ≠ -1 then Sp.rowGo T root u c (d + 1) fl up
      else Sp.rowGo T root u c (d + 1) (fl ++ [T.getD (Sp.oth d) 0]) (up.set (T.getD (Sp.oth d) 0).toNat ((Sp.oth d : Nat) : Int))
    else Sp.rowGo T root u c (d + 1) fl up
/-- What stays along the way. -/
structure Sp.SpSt (T : List Int) (root : Int) (N : Nat) (fl up : List Int) : Prop where
  len : up.length = N
  bd : ∀ x ∈ fl, 0 ≤ x ∧ x < (N : Int)
  nd : fl.Nodup
  hd : ∃ r, fl = root :: r
  rt : up.getD root.toNat 0 = -1
  mem : ∀ v : Nat, v < N → ((v : Int) ∈ fl ↔ (v : Int) = root ∨ up.getD v 0 ≠ -1)
  dart : ∀ v : Nat, v < N → up.getD v 0 ≠ -1 → ∃ d : Nat, d < T.length ∧ up.getD v 0 = (d : Int) ∧ T.getD d 0 = (v : Int) ∧ T.getD (Sp.oth d) 0 ∈ fl
theorem getD_set1 (l : List Int) (i k : Nat) (v : Int) (hi : i < l.length) : (l.set i v).getD k 0 = if i = k then v else l.getD k 0 := by
  rw [List.getD_eq_getElem?_getD, List.getElem?_set, List.getD_eq_getElem?_getD]
  by_cases h : i = k
  · subst h
    rw [if_pos rfl, if_pos hi, if_pos rfl]
    rfl
  · rw [if_neg h, if_neg h]
theorem getD_rep1 (n i : Nat) (x : Int) (h : i < n) : (List.replicate n x).getD i 0 = x := by
  rw [List.getD_eq_getElem?_getD, List.getElem?_replicate, if_pos h]; rfl
theorem Sp.SpSt.first (T : List Int) {root : Int} {N : Nat} (h0 : 0 ≤ root) (h1 : root < (N : Int)) : Sp.SpSt T root N [root] (List.replicate N (-1)) := by
  refine ⟨by simp, fun x hx => ?_, by simp, ⟨[], rfl⟩, getD_rep1 _ _ _ (by omega), fun v hv => ?_, fun v hv e => absurd (getD_rep1 _ _ _ hv) e⟩
  · simp at hx; subst hx; exact ⟨h0, h1⟩
  · rw [getD_rep1 _ _ _ hv]
    simp
/-- A vertex is found. -/
theorem Sp.SpSt.find {T : List Int} {root : Int} {N : Nat} {fl up : List Int} (h : Sp.SpSt T root N fl up) (hT : ∀ x ∈ T, 0 ≤ x ∧ x < (N : Int)) (hev : T.length % 2 = 0) {d : Nat} (hd : d < T.length) (hu : T.getD d 0 ∈ fl) (hn : ¬ (T.getD (Sp.oth d) 0 = root ∨ up.getD (T.getD (Sp.oth d) 0).toNat 0 ≠ -1)) :
    Sp.SpSt T root N (fl ++ [T.getD (Sp.oth d) 0]) (up.set (T.getD (Sp.oth d) 0).toNat ((Sp.oth d : Nat) : Int)) := by
  have ho := oth_lt hd hev
  have hb := hT _ (Sp.getD_mem (l := T) ho)
  have hv : (T.getD (Sp.oth d) 0).toNat < N := by omega
  have hvi : (((T.getD (Sp.oth d) 0).toNat : Nat) : Int) = T.getD (Sp.oth d) 0 := by omega
  have hnm : ¬ T.getD (Sp.oth d) 0 ∈ fl := fun hm => hn (by
    have := (h.mem _ hv).1 (by rw [hvi]; exact hm)
    rw [hvi] at this
    exact this)
  have hnr : T.getD (Sp.oth d) 0 ≠ root := fun e => hn (.inl e)
  obtain ⟨r, hr⟩ := h.hd
  have hrb := h.bd root (by rw [hr]; simp)
  refine ⟨by rw [List.length_set]; exact h.len, fun x hx => ?_, ?_, ⟨r ++ [T.getD (Sp.oth d) 0], by rw [hr]; rfl⟩, ?_, fun v hvN => ?_, fun v hvN e => ?_⟩
  · rcases List.mem_append.1 hx with h1 | h1
    · exact h.bd x h1
    · simp at h1; subst h1; exact hb
  · rw [List.nodup_append]
    refine ⟨h.nd, by simp, fun a ha b hb' e => ?_⟩
    simp at hb'
    subst hb' e
    exact hnm ha
  · rw [getD_set1 _ _ _ _ (by rw [h.len]; exact hv), if_neg (by omega)]
    exact h.rt
  · rw [getD_set1 _ _ _ _ (by rw [h.len]; exact hv), List.mem_append, h.mem v hvN]
    by_cases e : (T.getD (Sp.oth d) 0).toNat = v
    · rw [if_pos e]
      constructor
      · intro _; exact .inr (by omega)
      · intro _; exact .inr (List.mem_singleton.2 (by omega))
    · rw [if_neg e]
      constructor
      · rintro (h1 | h1)
        · exact h1
        · have := List.mem_singleton.1 h1; omega
      · intro h1; exact .inl h1
  · rw [getD_set1 _ _ _ _ (by rw [h.len]; exact hv)] at e ⊢
    by_cases e2 : (T.getD (Sp.oth d) 0).toNat = v
    · rw [if_pos e2]
      exact ⟨Sp.oth d, ho, rfl, by omega, by rw [oth_oth]; exact List.mem_append.2 (.inl hu)⟩
    · rw [if_neg e2] at e ⊢
      obtain ⟨c, c1, c2, c3, c4⟩ := h.dart v hvN e
      exact ⟨c, c1, c2, c3, List.mem_append.2 (.inl c4)⟩
theorem Sp.SpSt.row {T : List Int} {root : Int} {N : Nat} (hT : ∀ x ∈ T, 0 ≤ x ∧ x < (N : Int)) (hev : T.length % 2 = 0) {u : Int} : ∀ c d fl up, d + c = T.length → u ∈ fl → Sp.SpSt T root N fl up → Sp.SpSt T root N (Sp.rowGo T root u c d fl up).1 (Sp.rowGo T root u c d fl up).2 ∧ ∃ r, (Sp.rowGo T root u c d fl up).1 = fl ++ r
  | 0, d, fl, up, _, _, h => ⟨h, [], by simp [Sp.rowGo]⟩
  | c + 1, d, fl, up, hd, hu, h => by
    rw [Sp.rowGo]
    split
    · rename_i e
      split
      · exact Sp.SpSt.row hT hev c (d + 1) fl up (by omega) hu h
      · rename_i hn
        obtain ⟨h1, r, h2⟩ := Sp.SpSt.row hT hev c (d + 1) _ _ (by omega) (List.mem_append.2 (.inl hu)) (h.find hT hev (by omega) (by rw [e]; exact hu) hn)
        exact ⟨h1, [T.getD (Sp.oth d) 0] ++ r, by rw [h2, List.append_assoc]⟩
    · exact Sp.SpSt.row hT hev c (d + 1) fl up (by omega) hu h
/-- As many were found as there are vertices, at most. -/
theorem Sp.SpSt.le {T : List Int} {root : Int} {N : Nat} {fl up : List Int} (h : Sp.SpSt T root N fl up) : fl.length ≤ N := nodup_le N fl h.nd h.bd
end Go.Proofs.Ytoegjnolccabjaa


/- The reference's Left (P401). -/
namespace Go.Proofs.Ytoegjnolccabjaa
open Go Go.RowKit

/-- Is an edge's dart among the first j of the row? -/
def Sp.usedB (up : List Int) (d : Nat) : Nat → Bool
  | 0 => false
  | j + 1 => Sp.usedB up d j || up.getD j 0 == (d : Int) || up.getD j 0 == (d : Int) + 1
def Sp.leftGo (up : List Int) : Nat → Nat → List Int → List Int
  | 0, _, out => out
  | g + 1, e, out => if Sp.usedB up (2 * e) up.length = true then Sp.leftGo up g (e + 1) out else Sp.leftGo up g (e + 1) (out ++ [((2 * e : Nat) : Int)])
/-- The edges that are left. -/
def Sp.leftL (q : Sp.Net) (up : List Int) : List Int := Sp.leftGo up (q.tail.length / 2) 0 []
end Go.Proofs.Ytoegjnolccabjaa


/- The reference's Right (P401). -/
namespace Go.Proofs.Ytoegjnolccabjaa
open Go Go.RowKit

/-- Is the root come to from w, in g steps at most? -/
def Sp.reachGo (T up : List Int) (root : Int) : Nat → Nat → Bool
  | 0, w => decide ((w : Int) = root)
  | g + 1, w => if (w : Int) = root then true else Sp.reachGo T up root g (T.getD (Sp.oth (up.getD w 0).toNat) 0).toNat
end Go.Proofs.Ytoegjnolccabjaa


/- Ways up: who comes to the root; a way that meets a vertex twice goes round (P401). -/
namespace Go.Proofs.Ytoegjnolccabjaa
open Go Go.RowKit

/-- Where a vertex's dart leads. -/
def Sp.nx (T up : List Int) (x : Nat) : Nat := (T.getD (Sp.oth (up.getD x 0).toNat) 0).toNat
/-- In m steps from x to y, none of them from the root. -/
def Sp.Stp (T up : List Int) (root : Int) : Nat → Nat → Nat → Prop
  | 0, x, y => x = y
  | m + 1, x, y => (x : Int) ≠ root ∧ Sp.Stp T up root m (Sp.nx T up x) y
/-- The root is come to. -/
def Sp.Rc (T up : List Int) (root : Int) (x : Nat) : Prop := ∃ g, Sp.reachGo T up root g x = true
theorem Sp.reach_succ (T up : List Int) (root : Int) (g x : Nat) : Sp.reachGo T up root (g + 1) x = if (x : Int) = root then true else Sp.reachGo T up root g (Sp.nx T up x) := rfl
theorem Sp.reach_mono (T up : List Int) (root : Int) : ∀ g x, Sp.reachGo T up root g x = true → Sp.reachGo T up root (g + 1) x = true
  | 0, x, h => by
    rw [Sp.reach_succ, if_pos (of_decide_eq_true h)]
  | g + 1, x, h => by
    rw [Sp.reach_succ] at h ⊢
    split
    · rfl
    · rename_i hx
      rw [if_neg hx] at h
      exact Sp.reach_mono T up root g _ h
theorem Sp.reach_le (T up : List Int) (root : Int) {g g' x : Nat} (h : Sp.reachGo T up root g x = true) (hg : g ≤ g') : Sp.reachGo T up root g' x = true := by
  induction hg with
  | refl => exact h
  | step _ ih => exact Sp.reach_mono _ _ _ _ _ ih
theorem Sp.Stp.reach {T up : List Int} {root : Int} : ∀ {m x y : Nat}, Sp.Stp T up root m x y → ∀ g, Sp.reachGo T up root (g + m) x = Sp.reachGo T up root g y
  | 0, x, y, h, g => by rw [show x = y from h]; rfl
  | m + 1, x, y, h, g => by
    rw [show g + (m + 1) = (g + m) + 1 by omega, Sp.reach_succ, if_neg h.1]
    exact Sp.Stp.reach h.2 g
theorem Sp.Stp.snoc {T up : List Int} {root : Int} : ∀ {m x y : Nat}, Sp.Stp T up root m x y → (y : Int) ≠ root → Sp.Stp T up root (m + 1) x (Sp.nx T up y)
  | 0, x, y, h, hy => by
    obtain rfl : x = y := h
    exact ⟨hy, rfl⟩
  | m + 1, x, y, h, hy => ⟨h.1, Sp.Stp.snoc h.2 hy⟩
theorem Sp.Stp.rc {T up : List Int} {root : Int} {m x y : Nat} (h : Sp.Stp T up root m x y) : Sp.Rc T up root x ↔ Sp.Rc T up root y := by
  constructor
  · rintro ⟨g, hg⟩
    exact ⟨g, by rw [← h.reach]; exact Sp.reach_le _ _ _ hg (by omega)⟩
  · rintro ⟨g, hg⟩
    exact ⟨g + m, by rw [h.reach]; exact hg⟩
/-- What comes round does not come to the root. -/
theorem Sp.Stp.round {T up : List Int} {root : Int} {m x : Nat} (h : Sp.Stp T up root (m + 1) x x) : ¬ Sp.Rc T up root x := by
  rintro ⟨g, hg⟩
  induction g using Nat.strongRecOn with
  | ind g ih =>
    rcases Nat.lt_or_ge g (m + 1) with h1 | h1
    · have := Sp.reach_le _ _ _ hg (show g ≤ 0 + (m + 1) by omega)
      rw [h.reach] at this
      exact h.1 (of_decide_eq_true this)
    · have e := h.reach (g - (m + 1))
      rw [Nat.sub_add_cancel h1] at e
      exact ih (g - (m + 1)) (by omega) (by rw [← e]; exact hg)
/-- The vertices of a way. -/
def Sp.pl (T up : List Int) : Nat → Nat → List Int
  | 0, x => [(x : Int)]
  | g + 1, x => (x : Int) :: Sp.pl T up g (Sp.nx T up x)
/-- The first number of steps by which the root is come to. -/
def Sp.Mn (T up : List Int) (root : Int) (g x : Nat) : Prop := Sp.reachGo T up root g x = true ∧ ∀ g', g' < g → Sp.reachGo T up root g' x = false
theorem Sp.Mn.next {T up : List Int} {root : Int} {g x : Nat} (h : Sp.Mn T up root (g + 1) x) : (x : Int) ≠ root ∧ Sp.Mn T up root g (Sp.nx T up x) := by
  have hx : (x : Int) ≠ root := fun e => by
    have := h.2 0 (by omega)
    rw [show Sp.reachGo T up root 0 x = true from decide_eq_true e] at this
    cases this
  refine ⟨hx, ?_, fun g' hg' => ?_⟩
  · have := h.1
    rw [Sp.reach_succ, if_neg hx] at this
    exact this
  · have := h.2 (g' + 1) (by omega)
    rw [Sp.reach_succ, if_neg hx] at this
    exact this
theorem Sp.Rc.least {T up : List Int} {root : Int} {x : Nat} (h : Sp.Rc T up root x) : ∃ g, Sp.Mn T up root g x := by
  obtain ⟨g, hg⟩ := h
  induction g using Nat.strongRecOn with
  | ind g ih =>
    by_cases hm : ∃ g', g' < g ∧ Sp.reachGo T up root g' x = true
    · obtain ⟨g', h1, h2⟩ := hm
      exact ih g' h1 h2
    · exact ⟨g, hg, fun g' h1 => by
        cases h2 : Sp.reachGo T up root g' x with
        | false => rfl
        | true => exact absurd ⟨g', h1, h2⟩ hm⟩
end Go.Proofs.Ytoegjnolccabjaa


/- Package tree: Right. -/
namespace Go.Proofs.Ytoegjnolccabjaa
open Go Go.RowKit

/-- What the ways gone so far have left; v: the vertex that is gone up from, at: where it stands. -/
structure Sp.ByI (T up : List Int) (root : Int) (N v : Nat) (L : List Int) (C : Nat → Prop) : Prop where
  len : L.length = N
  mark : ∀ x, x < N → L.getD x 0 ≠ -1 → (0 ≤ L.getD x 0 ∧ L.getD x 0 < (v : Int) ∧ Sp.Rc T up root x) ∨ (L.getD x 0 = (v : Int) ∧ C x)
  all : ∀ y, y < v → Sp.Rc T up root y
/-- The way from v is done: it comes to where one comes to the root. -/
theorem Sp.ByI.done {T up : List Int} {root : Int} {N v t : Nat} {L : List Int} (h : Sp.ByI T up root N v L (fun x => ∃ m, Sp.Stp T up root (m + 1) x t)) (ht : Sp.Rc T up root t) (hv : ∃ m, Sp.Stp T up root m v t) : Sp.ByI T up root N (v + 1) L (fun _ => False) := by
  refine ⟨h.len, fun x hx hne => .inl ?_, fun y hy => ?_⟩
  · rcases h.mark x hx hne with ⟨a, b, c⟩ | ⟨a, m, b⟩
    · exact ⟨a, by omega, c⟩
    · exact ⟨by omega, by omega, b.rc.2 ht⟩
  · by_cases hyv : y = v
    · obtain ⟨m, b⟩ := hv
      rw [hyv]; exact b.rc.2 ht
    · exact h.all y (by omega)
/-- A vertex is marked, and gone on from. -/
theorem Sp.ByI.on {T up : List Int} {root : Int} {N v t : Nat} {L : List Int} (h : Sp.ByI T up root N v L (fun x => ∃ m, Sp.Stp T up root (m + 1) x t)) (ht : t < N) (hr : (t : Int) ≠ root) : Sp.ByI T up root N v (L.set t (v : Int)) (fun x => ∃ m, Sp.Stp T up root (m + 1) x (Sp.nx T up t)) := by
  refine ⟨by rw [List.length_set]; exact h.len, fun x hx hne => ?_, h.all⟩
  have hl := h.len
  rw [getD_set1 _ _ _ _ (by omega)] at hne ⊢
  by_cases hxt : t = x
  · rw [if_pos hxt]
    subst hxt
    exact .inr ⟨rfl, 0, hr, rfl⟩
  · rw [if_neg hxt] at hne ⊢
    rcases h.mark x hx hne with a | ⟨a, m, b⟩
    · exact .inl a
    · exact .inr ⟨a, m + 1, b.snoc hr⟩
end Go.Proofs.Ytoegjnolccabjaa


/- What the laws of trees take of a plane net; what a tree's row is. -/
namespace Go.Proofs.Ytoegjnolccabjaa
open Go Go.RowKit

/-- A tree's row. -/
structure Sp.RowT (T U : List Int) (r N : Nat) : Prop where
  len : U.length = N
  rN : r < N
  rt : U.getD r 0 = -1
  dart : ∀ v, v < N → v ≠ r → ∃ d : Nat, d < T.length ∧ U.getD v 0 = (d : Int) ∧ T.getD d 0 = (v : Int)
  rc : ∀ v, v < N → Sp.Rc T U (r : Int) v
theorem Sp.RowT.nx {T U : List Int} {r N : Nat} (_h : Sp.RowT T U r N) {v d : Nat} (e : U.getD v 0 = (d : Int)) : Sp.nx T U v = (T.getD (Sp.oth d) 0).toNat := by
  unfold Sp.nx; rw [e, Int.toNat_natCast]
theorem Sp.RowT.below {T U : List Int} {r N : Nat} (h : Sp.RowT T U r N) : ∀ z ∈ U, z < (T.length : Int) := fun z hz => by
  obtain ⟨v, hv, e⟩ := List.getElem_of_mem hz
  have hv' : v < N := by rw [← h.len]; exact hv
  have e2 : U.getD v 0 = z := by rw [Sp.getD_eq _ _ hv, e]
  by_cases hr : v = r
  · subst hr
    have := h.rt
    omega
  · obtain ⟨d, hd, e1, -⟩ := h.dart v hv' hr
    omega
/-- Two vertices do not hang on one edge. -/
theorem Sp.RowT.apart {T U : List Int} {r N : Nat} (h : Sp.RowT T U r N) {v w d e : Nat} (hv : v < N) (hw : w < N) (hvr : v ≠ r) (hwr : w ≠ r) (h1 : U.getD v 0 = (d : Int)) (h2 : U.getD w 0 = (e : Int)) (he : d / 2 = e / 2) : v = w := by
  obtain ⟨d', -, a1, a2⟩ := h.dart v hv hvr
  obtain ⟨e', -, b1, b2⟩ := h.dart w hw hwr
  obtain rfl : d' = d := by omega
  obtain rfl : e' = e := by omega
  by_cases hde : d' = e'
  · subst hde; omega
  · exfalso
    have ho : Sp.oth d' = e' := by unfold Sp.oth; split <;> omega
    have ho2 : Sp.oth e' = d' := by rw [← ho, oth_oth]
    have n1 : Sp.nx T U v = w := by rw [h.nx h1, ho, b2, Int.toNat_natCast]
    have n2 : Sp.nx T U w = v := by rw [h.nx h2, ho2, a2, Int.toNat_natCast]
    have : Sp.Stp T U (r : Int) 2 v v := ⟨by omega, by rw [n1]; exact ⟨by omega, n2⟩⟩
    exact this.round (h.rc v hv)
/-- The edges that are used. -/
theorem Sp.usedB_ex (up : List Int) (d : Nat) : ∀ j, Sp.usedB up d j = true ↔ ∃ i, i < j ∧ (up.getD i 0 = (d : Int) ∨ up.getD i 0 = (d : Int) + 1)
  | 0 => ⟨fun h => (by cases h), fun ⟨i, h, _⟩ => (by omega)⟩
  | j + 1 => by
    rw [Sp.usedB, Bool.or_eq_true, Bool.or_eq_true, Sp.usedB_ex up d j, beq_iff_eq, beq_iff_eq]
    constructor
    · rintro ((⟨i, h1, h2⟩ | h) | h)
      · exact ⟨i, by omega, h2⟩
      · exact ⟨j, by omega, .inl h⟩
      · exact ⟨j, by omega, .inr h⟩
    · rintro ⟨i, h1, h2⟩
      by_cases h : i = j
      · subst h
        rcases h2 with h2 | h2
        · exact .inl (.inr h2)
        · exact .inr h2
      · exact .inl (.inl ⟨i, by omega, h2⟩)
theorem Sp.leftGo_eq (up : List Int) : ∀ g e out, Sp.leftGo up g e out = out ++ ((List.range' e g).filter (fun e => !Sp.usedB up (2 * e) up.length)).map (fun e => ((2 * e : Nat) : Int))
  | 0, e, out => by simp [Sp.leftGo]
  | g + 1, e, out => by
    rw [Sp.leftGo, List.range'_succ, List.filter_cons]
    split
    · rename_i h
      rw [Sp.leftGo_eq up g (e + 1) out, h]
      simp
    · rename_i h
      rw [Sp.leftGo_eq up g (e + 1) _, if_pos (by simpa using h), List.map_cons, List.append_assoc]
      rfl
theorem Sp.leftL_eq (q : Sp.Net) (up : List Int) : Sp.leftL q up = ((List.range (q.tail.length / 2)).filter (fun e => !Sp.usedB up (2 * e) up.length)).map (fun e => ((2 * e : Nat) : Int)) := by
  unfold Sp.leftL
  rw [Sp.leftGo_eq, List.nil_append, List.range_eq_range']
theorem filter_add (p : Nat → Bool) : ∀ l : List Nat, (l.filter p).length + (l.filter (fun x => !p x)).length = l.length
  | [] => rfl
  | x :: l => by
    have := filter_add p l
    rw [List.filter_cons, List.filter_cons]
    cases p x <;> simp <;> omega
/-- What is left is as many as edges, less the vertices but the root. -/
theorem Sp.RowT.left {q : Sp.Net} {U : List Int} {r N : Nat} (h : Sp.RowT q.tail U r N) (hev : q.tail.length % 2 = 0) : (Sp.leftL q U).length + (N - 1) = q.tail.length / 2 := by
  rw [Sp.leftL_eq, List.length_map]
  have h1 := filter_add (fun e => Sp.usedB U (2 * e) U.length) (List.range (q.tail.length / 2))
  rw [List.length_range] at h1
  have hp : (((List.range N).filter (fun v => decide (v ≠ r))).map (fun v => (U.getD v 0).toNat / 2)).Perm ((List.range (q.tail.length / 2)).filter (fun e => Sp.usedB U (2 * e) U.length)) := by
    rw [List.perm_ext_iff_of_nodup]
    · intro e
      rw [List.mem_map, List.mem_filter, List.mem_range, Sp.usedB_ex]
      constructor
      · rintro ⟨v, hv, rfl⟩
        rw [List.mem_filter, List.mem_range, decide_eq_true_eq] at hv
        obtain ⟨d, hd, e1, -⟩ := h.dart v hv.1 hv.2
        refine ⟨by rw [e1, Int.toNat_natCast]; omega, v, by rw [h.len]; exact hv.1, ?_⟩
        rw [e1, Int.toNat_natCast]
        omega
      · rintro ⟨he, v, hv, hc⟩
        rw [h.len] at hv
        refine ⟨v, ?_, by omega⟩
        rw [List.mem_filter, List.mem_range, decide_eq_true_eq]
        refine ⟨hv, fun e => ?_⟩
        subst e
        rw [h.rt] at hc
        omega
    · refine List.pairwise_map.2 (List.Pairwise.imp_of_mem ?_ ((List.nodup_range (n := N)).filter (fun v => decide (v ≠ r))))
      intro v w hv hw hvw e
      refine hvw ?_
      rw [List.mem_filter, List.mem_range, decide_eq_true_eq] at hv hw
      obtain ⟨d, hd, e1, -⟩ := h.dart v hv.1 hv.2
      obtain ⟨d', hd', e1', -⟩ := h.dart w hw.1 hw.2
      exact h.apart hv.1 hw.1 hv.2 hw.2 e1 e1' (by rw [e1, e1', Int.toNat_natCast, Int.toNat_natCast] at e; exact e)
    · exact (List.nodup_range).filter _
  have h2 := hp.length_eq
  rw [List.length_map] at h2
  have h3 := filter_add (fun v => decide (v ≠ r)) (List.range N)
  rw [List.length_range] at h3
  have h4 : ((List.range N).filter (fun v => !decide (v ≠ r))).length = 1 := by
    have hp2 : ((List.range N).filter (fun v => !decide (v ≠ r))).Perm [r] := by
      rw [List.perm_ext_iff_of_nodup ((List.nodup_range).filter _) (by simp)]
      intro v
      rw [List.mem_filter, List.mem_range]
      have hr := h.rN
      constructor
      · rintro ⟨-, e⟩
        simp at e
        simp [e]
      · intro e
        simp at e
        subst e
        exact ⟨hr, by simp⟩
    exact hp2.length_eq
  omega
end Go.Proofs.Ytoegjnolccabjaa


/- What the laws of stage 8 take of Plane's nets. -/
namespace Go.Proofs.Ytoegjnolccabjaa
open Go Go.RowKit

theorem Sp.rimQ_plane (ns : List Int) : Sp.RimQ (Sp.plane ns) := by
  rcases Sp.dualQ_plane ns with e | h
  · rw [e]; exact q1_rim
  · exact Sp.RimQ.of_dual h ((Sp.plane_ok ns).walk (by omega)) (Sp.check_plane ns)
theorem Sp.rim_split {q : Sp.Net} (hq : Sp.RimQ q) {s t : Int} (h : Sp.rimE q s t = 0) : (0 ≤ s ∧ s < q.n) ∧ (0 ≤ t ∧ t < q.n) ∧ s ≠ t ∧ Sp.endsE q s t = 0 ∧ ∃ f d0 a jb, Sp.SplitQ q s t f d0 a jb := by
  unfold Sp.rimE at h
  split at h
  · cases h
  · rename_i h1
    split at h
    · cases h
    · rename_i h2
      split at h
      · rename_i h3
        have h4 := Classical.not_not.1 h1
        exact ⟨h4.1, h4.2, h2, by unfold Sp.endsE; rw [if_neg h1, if_neg h2], Sp.splitQ_of hq.link h3⟩
      · cases h
/-- What rim and the reference tell of two vertices. -/
theorem Sp.rim_cases {q : Sp.Net} (hq : Sp.RimQ q) (s t : Int) : Sp.rimE q s t ≠ 0 ∨ ((0 ≤ s ∧ s < q.n) ∧ (0 ≤ t ∧ t < q.n) ∧ s ≠ t ∧ Sp.endsE q s t = 0 ∧ ∃ f d0 a jb, Sp.SplitQ q s t f d0 a jb) := by
  by_cases h : Sp.rimE q s t = 0
  · exact .inr (Sp.rim_split hq h)
  · exact .inl h
end Go.Proofs.Ytoegjnolccabjaa


/- within of watershedlaw8. -/
namespace Go.Proofs.Ytoegjnolccabjaa
open Go Go.RowKit

set_option maxRecDepth 100000 in
set_option maxHeartbeats 1000000 in
theorem within8_any (a n : Int) (w : World) (hn : 0 < n) (hn1 : n ≤ 4611686018427387904) :
    Calls Try.prog 11 #[.int .i64 a, .int .i64 n] w fun e w' => e = .returned (.int .i64 (a % n)) ∧ w' = w := by
  have h0 : 0 ≤ a % n := Int.emod_nonneg a (by omega)
  have h1 : a % n < n := Int.emod_lt_of_pos a hn
  rcases tmod_cases a n hn with ⟨ha, hb⟩ | ⟨ha, hb⟩
  · have hc : -n ≤ a.tmod n := by omega
    have Hb := hide hb; clear hb h0 h1
    go_enter Try.func11, Try.ntmps11
    go_wp2
    go_ret
    exact ⟨ret_int (unhide Hb), rfl⟩
  · have Hb := hide hb; clear hb h0 h1
    go_enter Try.func11, Try.ntmps11
    go_wp2
    go_ret
    exact ⟨ret_int (unhide Hb), rfl⟩
end Go.Proofs.Ytoegjnolccabjaa


/- rim's contracts, of both cases told at once. -/
namespace Go.Proofs.Ytoegjnolccabjaa
open Go Go.RowKit

/-- What is told of two vertices: an error, or heights P, rises L, b's height x. -/
def Sp.RimIs (q : Sp.Net) (s t : Int) (P L : List Int) (x : Int) : Prop :=
  (Sp.rimE q s t ≠ 0 ∧ P = [] ∧ L = [] ∧ x = 0) ∨ (Sp.rimE q s t = 0 ∧ (0 ≤ s ∧ s < q.n) ∧ (0 ≤ t ∧ t < q.n) ∧ s ≠ t ∧ Sp.endsE q s t = 0 ∧ ∃ f d0 a jb D, Sp.SplitQ q s t f d0 a jb ∧
    (Sp.Short 1152921504606846976 (Sp.rimR (Sp.splitL q f d0 a jb) q.cap q.tail.length) f (Sp.landK q + 1) D ∧ ∀ v, v < Sp.landK q + 1 → D v ≠ 1152921504606846976 → D v < 1152921504606846976) ∧
    P = (List.range (Sp.landK q + 1)).map D ∧ L = (List.range q.tail.length).map (Sp.rise (Sp.splitL q f d0 a jb) ((List.range (Sp.landK q + 1)).map D)) ∧ x = D (Sp.landK q))
theorem Sp.rimE_zero {q : Sp.Net} {s t : Int} {f d0 a jb : Nat} (hE : Sp.endsE q s t = 0) (hs : Sp.SplitQ q s t f d0 a jb) : Sp.rimE q s t = 0 := by
  obtain ⟨h1, h2, h3, -⟩ := Sp.ends_ok hE
  unfold Sp.rimE
  rw [if_neg (fun k => k ⟨h1, h2⟩), if_neg h3, if_pos (by rw [hs.sh])]
theorem rmheights_any (q : Sp.Net) (v tv nv cv : Value) (s t : Int) (w : World) (hv : NetI w v q tv nv cv) (hq : Sp.RimQ q) :
    Calls Try.prog 12 #[v, .int .i64 s, .int .i64 t] w fun e w' => ∃ pv P L x, e = .returned (.tuple #[pv, .int .i64 (Sp.rimE q s t)]) ∧ OwnI w' w.heap.size pv P ∧ Sp.RimIs q s t P L x ∧ Below w.heap.size w w' := by
  rcases Sp.rim_cases hq s t with he | he
  · refine (rmheights_err q v tv nv cv s t w hv hq he).mono ?_
    rintro e w' ⟨rfl, hb⟩
    exact ⟨_, [], [], 0, rfl, World.ownsRow_nil _ _ _ _, .inl ⟨he, rfl, rfl, rfl⟩, hb⟩
  · obtain ⟨h0, h1, hst, hE, f, d0, a, jb, hs⟩ := he
    have hz : Sp.rimE q s t = 0 := Sp.rimE_zero hE hs
    refine (rmheights_yes q v tv nv cv s t w hv hq f d0 a jb h0 h1 hst hs).mono ?_
    rintro e w' ⟨G, D, rfl, hG, hR, hb, hD⟩
    rw [hz]
    have hk := hq.kle
    exact ⟨_, _, _, _, rfl, hR.own hG (by omega), .inr ⟨hz, h0, h1, hst, hE, f, d0, a, jb, D, hs, hD, rfl, rfl, rfl⟩, hb⟩
theorem rmflow_any (q : Sp.Net) (v tv nv cv : Value) (s t : Int) (w : World) (hv : NetI w v q tv nv cv) (hq : Sp.RimQ q) :
    Calls Try.prog 14 #[v, .int .i64 s, .int .i64 t] w fun e w' => ∃ lv P L x, e = .returned (.tuple #[lv, .int .i64 x, .int .i64 (Sp.rimE q s t)]) ∧ OwnI w' w.heap.size lv L ∧ Sp.RimIs q s t P L x ∧ Below w.heap.size w w' := by
  rcases Sp.rim_cases hq s t with he | he
  · refine (rmflow_err q v tv nv cv s t w hv hq he).mono ?_
    rintro e w' ⟨rfl, hb⟩
    exact ⟨_, [], [], 0, rfl, World.ownsRow_nil _ _ _ _, .inl ⟨he, rfl, rfl, rfl⟩, hb⟩
  · obtain ⟨h0, h1, hst, hE, f, d0, a, jb, hs⟩ := he
    have hz : Sp.rimE q s t = 0 := Sp.rimE_zero hE hs
    refine (rmflow_yes q v tv nv cv s t w hv hq f d0 a jb h0 h1 hst hs).mono ?_
    rintro e w' ⟨lv, D, rfl, hO, hb, hD⟩
    rw [hz]
    exact ⟨_, _, _, _, rfl, hO, .inr ⟨hz, h0, h1, hst, hE, f, d0, a, jb, D, hs, hD, rfl, rfl, rfl⟩, hb⟩
theorem heights8p_any (q : Sp.Net) (v tv nv cv : Value) (s t : Int) (w : World) (hv : NetI w v q tv nv cv) (hq : Sp.RimQ q) {P L : List Int} {x : Int} (hR : Sp.RimIs q s t P L x) :
    Calls Try.prog 13 #[v, .int .i64 s, .int .i64 t] w fun e w' => ∃ pv, e = .returned (.tuple #[pv, .int .i64 (Sp.rimE q s t)]) ∧ OwnI w' w.heap.size pv P ∧ Below w.heap.size w w' := by
  rcases hR with ⟨he, rfl, rfl, rfl⟩ | ⟨hz, h0, h1, hst, hE, f, d0, a, jb, D, hs, hD, rfl, rfl, rfl⟩
  · refine (heights8p_err q v tv nv cv s t w hv hq he).mono ?_
    rintro e w' ⟨rfl, hb⟩
    exact ⟨_, rfl, World.ownsRow_nil _ _ _ _, hb⟩
  · refine (heights8p_yes q v tv nv cv s t w hv hq f d0 a jb hE hs D hD).mono ?_
    rintro e w' ⟨G, rfl, hG, hR, hb⟩
    rw [hz]
    have hk := hq.kle
    exact ⟨_, rfl, hR.own hG (by omega), hb⟩
theorem flow8_any (q : Sp.Net) (v tv nv cv : Value) (s t : Int) (w : World) (hv : NetI w v q tv nv cv) (hq : Sp.RimQ q) {P L : List Int} {x : Int} (hR : Sp.RimIs q s t P L x) :
    Calls Try.prog 15 #[v, .int .i64 s, .int .i64 t] w fun e w' => ∃ lv, e = .returned (.tuple #[lv, .int .i64 x, .int .i64 (Sp.rimE q s t)]) ∧ OwnI w' w.heap.size lv L ∧ Below w.heap.size w w' := by
  rcases hR with ⟨he, rfl, rfl, rfl⟩ | ⟨hz, h0, h1, hst, hE, f, d0, a, jb, D, hs, hD, rfl, rfl, rfl⟩
  · refine (flow8_err q v tv nv cv s t w hv hq he).mono ?_
    rintro e w' ⟨rfl, hb⟩
    exact ⟨_, rfl, World.ownsRow_nil _ _ _ _, hb⟩
  · refine (flow8_yes q v tv nv cv s t w hv hq f d0 a jb hE hs D hD).mono ?_
    rintro e w' ⟨lv, rfl, hO, hb⟩
    rw [hz]
    exact ⟨_, rfl, hO, hb⟩
end Go.Proofs.Ytoegjnolccabjaa


