/- The walk of package rot: behind. -/
import Derived.OwnWalk
import Derived.Test.YtnkkgeammohemabS3
namespace Go.Proofs.Ytnkkgeammohemab
open Go Go.RowKit

theorem made_ints (n : Nat) : (madeCells (Value.int .i64 0).cells (n * 1)).toList = (List.replicate n (0 : Int)).map (Value.int .i64) := by
  show (madeCells #[.int .i64 0] (n * 1)).toList = _
  rw [Nat.mul_one, toList_madeCells_one]
  simp
theorem wpList_mk {w : World} {ops : Array Oper} {rest : List Oper} {o : Oper} {a : Act} {Q : Exit → Act → World → Prop} (hg : o.guard = none) (l c : Operand) (hop : o.op = Op.makeSlice 23 l c)
    (base n : Nat) (hl : a.eval l = .int .i64 (n : Int)) (hc : a.eval c = .int .i64 (n : Int)) (hn : n ≤ 1000000) (b4 : base ≤ w.heap.size)
    (hK : ∀ w', OwnI w' base (.slice (some ⟨w.heap.size, 0, none⟩) n n) (List.replicate n 0) → Below base w w' → w.heap.size < w'.heap.size → wpList Try.prog ops Q rest (a.put o.dst (.slice (some ⟨w.heap.size, 0, none⟩) n n)) w') : wpList Try.prog ops Q (o :: rest) a w := by
  obtain ⟨i0, hi, hz0, hz1, hz2⟩ := info_parts info3
  refine wpList_make_full w hg l c 23 hop base 3 i0 (.int .i64 0) 1 Try.underlying23 hi hz0 hz1 .i64 .i64 _ _ n hl hc rfl rfl (by rw [hz2]; omega) (by unfold maxLen; omega) b4 ?_
  intro w' h1 h2
  rw [made_ints] at h1
  have h1' : OwnI w' base (.slice (some ⟨w.heap.size, 0, none⟩) n n) (List.replicate n 0) := by
    unfold OwnI
    rw [List.length_replicate]
    exact h1
  exact hK w' h1' ((Below.refl _ _).grown h2 b4 fun k hk => by cases hk) (h1'.lt w.heap.size rfl).2
set_option maxRecDepth 100000 in
set_option maxHeartbeats 400000 in
theorem behind_any (q : Sp.Net) (v tv nv cv : Value) (w : World) (hv : NetI w v q tv nv cv) (hev : q.next.length % 2 = 0) (h240 : q.next.length ≤ 240) :
    Calls Try.prog 36 #[v] w fun e w' => ∃ sv, e = .returned sv ∧ OwnI w' w.heap.size sv ((List.range q.next.length).map fun d => q.next.getD (Sp.oth d) 0) ∧ Below w.heap.size w w' := by
  obtain ⟨rfl, h1, h2, h3⟩ := hv
  obtain ⟨ta, tc, rfl, -, -⟩ := h1.form
  obtain ⟨na, nc, rfl, hnc, hnm, HT⟩ := h2.all
  obtain ⟨ca, cc, rfl, -, -⟩ := h3.form
  clear h1 h2 h3
  obtain ⟨f, hf⟩ : ∃ f : Nat → Int, f = fun d => q.next.getD (Sp.oth d) 0 := ⟨_, rfl⟩
  rw [← hf]
  have Hf := hide hf
  clear hf
  have HBX := hide (box_new w q.n (.slice ta q.tail.length tc) (.slice na q.next.length nc) (.slice ca q.cap.length cc))
  obtain ⟨W1, hW1⟩ : ∃ W1, W1 = w.alloc (.cells #[.int .i64 q.n, .slice ta q.tail.length tc, .slice na q.next.length nc, .slice ca q.cap.length cc] 25) := ⟨_, rfl⟩
  rw [← hW1] at HBX
  have hb1 : Below w.heap.size w W1 := by rw [hW1]; exact (Below.refl _ w).alloc (Nat.le_refl _) _
  have hs1 : W1.heap.size = w.heap.size + 1 := by rw [hW1]; simp
  have HW : Hid (∀ w', Below (w.heap.size + 1) W1 w' → Below w.heap.size w w') := hide fun w' hb => hb1.trans (hb.mono (by omega))
  have HS1 := hide hs1
  clear hb1 hs1
  subst hW1
  go_enter Try.func36, Try.ntmps36
  go_wp2_with (at_make; refine wpList_mk rfl _ _ rfl (w.heap.size + 1) q.next.length rfl rfl (by omega) (by simp) ?_)
  intro w5 hown5 hb5 hlt5
  generalize w.alloc (.cells #[.int .i64 q.n, .slice ta q.tail.length tc, .slice na q.next.length nc, .slice ca q.cap.length cc] 25) = W1 at *
  have HO5 := hide hown5
  clear hown5 hlt5
  go_wp2
  go_loopw [11] (fun i wr => ∃ k : Nat, k ≤ q.next.length ∧ i = .int .i64 (k : Int) ∧ Hid (OwnI wr (w.heap.size + 1) (.slice (some ⟨w.heap.size + 1, 0, none⟩) q.next.length q.next.length) ((List.range k).map f ++ List.replicate (q.next.length - k) 0)) ∧ Below (w.heap.size + 1) W1 wr) (fun i _ => q.next.length - (intOf i).toNat)
  case atStart => exact ⟨0, by omega, rfl, by simpa using HO5, hb5⟩
  case round =>
    clear HO5 hb5
    obtain ⟨k, hk, rfl, hO, hb⟩ := hrel
    obtain ⟨x0, x1, x2, x3, hsz⟩ := unhide HBX _ hb
    by_cases hlt : k < q.next.length
    · have ho := oth_lt hlt hev
      obtain ⟨b, o, rfl, hbl, hcx⟩ := unhide HT _ ho
      have hfk : f k = q.next[Sp.oth k] := by rw [unhide Hf]; exact Sp.getD_eq _ _ ho
      have HKp : Hid (∀ w', Below (w.heap.size + 1) W1 w' → w'.cell? ⟨w.heap.size, 2, none⟩ = some (.slice (some ⟨b, o, none⟩) q.next.length nc) ∧ w'.cell? ⟨b, o + Sp.oth k, none⟩ = some (.int .i64 (f k))) := hide fun w' hb' => ⟨(unhide HBX _ hb').2.2.1, by rw [hfk]; exact hcx _ (unhide HW _ hb')⟩
      have HOt := hide (fun w' => other_any k w' (by omega))
      have hll : ((List.range k).map f ++ List.replicate (q.next.length - k) 0).length = q.next.length := by simp; omega
      have r1 := own_cell (unhide hO) k (by rw [hll]; exact hlt)
      have y1 := own_frozen (unhide hO) k
      have HL1 : Hid (((List.range k).map f ++ List.replicate (q.next.length - k) 0).set k (f k) = (List.range (k + 1)).map f ++ List.replicate (q.next.length - (k + 1)) 0) := by
        refine hide ?_
        rw [List.set_append_right _ _ (by simp), List.range_succ, List.map_append, List.append_assoc]
        congr 1
        obtain ⟨m, hm⟩ : ∃ m, q.next.length - k = m + 1 := ⟨q.next.length - k - 1, by omega⟩
        rw [hm, show q.next.length - (k + 1) = m by omega, List.replicate_succ]
        simp
      generalize ((List.range k).map f ++ List.replicate (q.next.length - k) 0)[k]'_ = z0 at *
      generalize f k = z at *
      have hltI : (k : Int) < q.next.length := by omega
      have h0k : (0 : Int) ≤ (k : Int) := by omega
      clear hcx hfk hll x0 x1 x3
      generalize Sp.oth k = ok at *
      have hokI : (ok : Int) < q.next.length := by omega
      have h0o : (0 : Int) ≤ (ok : Int) := by omega
      go_wp2
      go_region_held3 (fun w' => w'.cell? ⟨w.heap.size, 2, none⟩ = some (.slice (some ⟨b, o, none⟩) q.next.length nc) ∧ w'.cell? ⟨b, o + ok, none⟩ = some (.int .i64 z))
        (first
          | exact unhide HKp _ hb.drew
          | exact unhide HKp _ (hb.setCell (by exact Nat.le_refl _) _).drew)
        (first
          | (go_at_call 31
             refine (unhide HOt _).mono ?_
             rintro e w6 ⟨rfl, hw6⟩
             subst hw6))
      all_goals
        go_wp2
        go_roundw
        case rel => exact ⟨k + 1, by omega, by go_num, hide (by rw [← unhide HL1]; exact own_drew (own_setCell (unhide hO) k z)), (hb.setCell (by exact Nat.le_refl _) _).drew⟩
        case measure => simp [intOf]; omega
    · obtain rfl : k = q.next.length := by omega
      have HOf : Hid (OwnI wr (w.heap.size + 1) (.slice (some ⟨w.heap.size + 1, 0, none⟩) q.next.length q.next.length) ((List.range q.next.length).map f)) := by simpa using hO
      go_wp2
      go_ret
      exact ⟨_, rfl, own_base (unhide HOf) (by omega), unhide HW _ hb⟩
end Go.Proofs.Ytnkkgeammohemab


