/- The walk of the draft's turn. -/
import Derived.Test.YtkmcfjkfoafkoaaDoorW8
import Derived.BigRegion
namespace Go.Proofs.YtkmcfjkfoafkoaaDoor
open Go.RowKit

/-- All blocks but one are as they were. -/
structure ButRow (g : Nat) (w w' : World) : Prop where
  os : w'.os = w.os
  tape : w'.tape = w.tape
  output : w'.output = w.output
  size : w'.heap.size = w.heap.size
  block : ∀ k, k ≠ g → w'.heap[k]? = w.heap[k]?
theorem ButRow.refl (g : Nat) (w : World) : ButRow g w w := ⟨rfl, rfl, rfl, rfl, fun _ _ => rfl⟩
theorem ButRow.cell {g : Nat} {w w' : World} (h : ButRow g w w') {a : Addr} (ha : a.block ≠ g) : w'.cell? a = w.cell? a := World.cell?_of_block (h.block _ ha)
theorem ButRow.keep {g p base : Nat} {w w' : World} (h : ButRow g w w') (hg : base ≤ g) : Keep p base w w' := ⟨h.os, h.tape, h.output, by rw [h.size]; exact Nat.le_refl _, fun k hk _ => h.block k (by omega)⟩
theorem all_snoc_i (p : Int → Bool) (L : List Int) (k : Nat) (h : k < L.length) : (L.take (k + 1)).all p = ((L.take k).all p && p L[k]) := by
  rw [List.take_succ_eq_append_getElem h, List.all_append]; simp

set_option maxRecDepth 100000 in
set_option maxHeartbeats 1000000 in
theorem turn_word (q : Sp.Net) (p base : Nat) (tv nv cv x : Value) (v : Int) (s : ByteArray) (w : World) (hd : DraftAt w p base q tv nv cv) (h1 : s.data.toList ≠ Sp.wTurn) :
    Calls Tryd.prog 36 #[.pointer (some ⟨p, 0, none⟩), .int .i64 v, .agg #[.string s, x]] w fun e w' => e = .returned (.int .i64 1) ∧ Keep p base w w' := by
  have hle := hd.le
  clear hd
  have h1' : (s.toList == [116, 117, 114, 110]) = false := by rw [Lib.toList_data]; exact beq_eq_false_iff_ne.2 h1
  go_enter Tryd.func36, Tryd.ntmps36
  go_wp2
  go_ret
  exact ⟨rfl, (Keep.refl _ _ _).alloc hle _⟩

/-- The code of the first loop's end is named by its number alone: what holds where each number is a dart of v's is asked of the rest. -/
theorem dart_no {tail N : List Int} {v x : Int} (hx : x ∈ N) (h : Sp.dartOf tail v x = false) : N.all (Sp.dartOf tail v) = false := List.all_eq_false.2 ⟨x, hx, by simp [h]⟩

theorem turn_row {w : World} {base n : Nat} {nv : Value} {nx : List Int} (h : OwnI w base nv nx) (hn : nx.length = n) (hpos : 0 < n) :
    ∃ gn capn, nv = .slice (some ⟨gn, 0, none⟩) n capn ∧ base ≤ gn ∧ gn < w.heap.size ∧ nv.ownBlock = some gn := by
  obtain ⟨g, cap, hv, hb, hl⟩ := h.form (by omega)
  exact ⟨g, cap, by rw [hv, hn], hb, hl, by rw [hv]; rfl⟩
theorem own_frozen {w : World} {base g n c : Nat} {l : List Int} (h : OwnI w base (.slice (some ⟨g, 0, none⟩) n c) l) (j : Nat) : w.frozen? ⟨g, j, none⟩ = false := by
  obtain ⟨_, hv | ⟨g', cap, cur, hv, hb, hg, _⟩⟩ := h
  · simp at hv
  · injection hv with hv _ _
    injection hv with hv
    injection hv with hv
    subst hv
    simp [World.frozen?, hg]
theorem own_cell {w : World} {base g n c : Nat} {l : List Int} (h : OwnI w base (.slice (some ⟨g, 0, none⟩) n c) l) (j : Nat) (hj : j < l.length) : w.cell? ⟨g, j, none⟩ = some (.int .i64 l[j]) := by
  have := h.cells (g := g) rfl j (.int .i64 l[j]) (by simp [hj])
  have e : (⟨g, 0, none⟩ : Addr).add j = ⟨g, j, none⟩ := by unfold Addr.add; split <;> simp_all
  rw [← e]; exact this
theorem own_setCell {w : World} {base g n c : Nat} {l : List Int} (h : OwnI w base (.slice (some ⟨g, 0, none⟩) n c) l) (j : Nat) (y : Int) : OwnI (w.setCell ⟨g, j, none⟩ (.int .i64 y)) base (.slice (some ⟨g, 0, none⟩) n c) (l.set j y) := by
  obtain ⟨hx, hv | ⟨g', cap, cur, hv, hb, hg, hc, hm, hs, ht⟩⟩ := h
  · simp at hv
  · have hgg : g' = g := by
      injection hv with hv _ _
      injection hv with hv
      injection hv with hv
      exact hv.symm
    subst hgg
    refine ⟨by simp, .inr ⟨g', cap, cur.setIfInBounds j (.int .i64 y), by simpa using hv, hb, heap_setCell_same w g' j _ _ _ hg, by simpa using hc, hm, by simpa using hs, ?_⟩⟩
    rw [List.length_set, Array.toList_setIfInBounds, List.take_set, ht, List.map_set]
theorem DraftAt.setNext {w : World} {p base g n c j : Nat} {q : Sp.Net} {tv cv : Value} {y : Int} (h : DraftAt w p base q tv (.slice (some ⟨g, 0, none⟩) n c) cv) (hg : base ≤ g) :
    DraftAt (w.setCell ⟨g, j, none⟩ (.int .i64 y)) p base { q with next := q.next.set j y } tv (.slice (some ⟨g, 0, none⟩) n c) cv := by
  have hlt := h.lt
  refine ⟨h.lt, by simpa using h.le, by rw [heap_setCell_other w _ p _ (by show p ≠ g; omega)]; exact h.obj, ?_, own_setCell h.next j y, ?_, h.tn, h.tc, h.nc⟩
  · exact h.tail.kept ⟨rfl, rfl, rfl, by simp, fun k _ hk => heap_setCell_other w _ k _ (fun e => hk (by rw [e]; rfl))⟩ h.tn
  · exact h.cap.kept ⟨rfl, rfl, rfl, by simp, fun k _ hk => heap_setCell_other w _ k _ (fun e => hk (by rw [e]; rfl))⟩ (sep_comm h.nc)
theorem ButRow.setCell {g : Nat} {w w' : World} (h : ButRow g w w') (j : Nat) (u : Value) : ButRow g w (w'.setCell ⟨g, j, none⟩ u) :=
  ⟨h.os, h.tape, h.output, by rw [World.size_setCell]; exact h.size, fun k hk => (heap_setCell_other w' _ k _ (by exact hk)).trans (h.block k hk)⟩
theorem ButRow.drew {g : Nat} {w w' : World} (h : ButRow g w w') : ButRow g w w'.drew := ⟨h.os, h.tape, h.output, h.size, h.block⟩

set_option maxRecDepth 100000 in
set_option maxHeartbeats 2000000 in
theorem turn_any (q : Sp.Net) (p base M : Nat) (tv nv cv x : Value) (v : Int) (s : ByteArray) (N : List Int) (w : World) (hd : DraftAt w p base q tv nv cv) (hN : OwnI w M x N) (hM : ∀ k, nv.ownBlock = some k → k < M)
    (_hn : N.length ≤ 1000001) (hnn : ∀ y ∈ N, 0 ≤ y) (hql : q.next.length = q.tail.length) (hqt : q.tail.length ≤ 240) (h1 : s.data.toList = Sp.wTurn) :
    Calls Tryd.prog 36 #[.pointer (some ⟨p, 0, none⟩), .int .i64 v, .agg #[.string s, x]] w fun e w' => e = .returned (.int .i64 (Sp.turnE q v (s.data.toList, N))) ∧ Keep p base w w' ∧
      (Sp.turnE q v (s.data.toList, N) = 0 → DraftAt w' p base (Sp.turn q (s.data.toList, N)) tv nv cv) := by
  obtain ⟨a, c, rfl, hc, hm, hcell⟩ := hN.ints
  have HN := hide hN; clear hN
  have h1' : (s.toList == [116, 117, 114, 110]) = true := by rw [Lib.toList_data]; exact beq_iff_eq.2 h1
  have HE : Hid (Sp.turnE q v (s.data.toList, N) = if N.all (Sp.dartOf q.tail v) = false then 5 else if (Sp.turnTo q.next N N.length).isNone then 6 else if (N.length : Int) ≠ Sp.countOf q.tail v then 6 else 0) := by
    refine hide ?_
    unfold Sp.turnE
    rw [if_neg (by simp [h1])]
  have HQ : Hid (Sp.turn q (s.data.toList, N) = { q with next := (Sp.turnTo q.next N N.length).getD [] }) := hide rfl
  generalize Sp.turnE q v (s.data.toList, N) = E at *
  generalize Sp.turn q (s.data.toList, N) = q' at *
  clear h1
  have hle := hd.le
  have hlt := hd.lt
  have hps : p < w.heap.size := by omega
  have hb1 : ∀ ob, Below w.heap.size w (w.alloc ob) := fun ob => (Below.refl _ w).alloc (Nat.le_refl _) ob
  have Hcx : Hid (∀ k, (h : k < N.length) → ∃ b o, a = some ⟨b, o, none⟩ ∧ b < w.heap.size ∧ ∀ ob, (w.alloc ob).cell? ⟨b, o + k, none⟩ = some (.int .i64 N[k])) := by
    refine hide fun k hk => ?_
    obtain ⟨b, o, ha, hb, hx⟩ := hcell k hk
    exact ⟨b, o, ha, hb, fun ob => ((hb1 ob).cell (by exact hb)).trans hx⟩
  clear hcell
  obtain ⟨d0, d1, d2, d3, e0, e1, e2, e3⟩ := hd.cells
  obtain ⟨at_, ct, hvt, hct, hmt, hct2⟩ := hd.tail.ints
  have k1 : ∀ ob, (w.alloc ob).cell? ⟨p, 1, none⟩ = some (.slice at_ q.tail.length ct) := fun ob => ((hb1 ob).cell (by exact hps)).trans (d1.trans (by rw [hvt]))
  have k2 : ∀ ob, (w.alloc ob).cell? ⟨p, 2, none⟩ = some nv := fun ob => ((hb1 ob).cell (by exact hps)).trans d2
  have Hct : Hid (∀ k, (h : k < q.tail.length) → ∃ b o, at_ = some ⟨b, o, none⟩ ∧ b < w.heap.size ∧ ∀ ob, (w.alloc ob).cell? ⟨b, o + k, none⟩ = some (.int .i64 q.tail[k])) := by
    refine hide fun k hk => ?_
    obtain ⟨b, o, ha, hb, hx⟩ := hct2 k hk
    exact ⟨b, o, ha, hb, fun ob => ((hb1 ob).cell (by exact hb)).trans hx⟩
  clear hct2 d0 d1 d2 d3 e0 e1 e2 e3
  have Hd := hide hd; clear hd
  have Hnn := hide hnn; clear hnn
  have HM := hide hM; clear hM
  go_enter Tryd.func36, Tryd.ntmps36
  go_wp2
  go_loop [17] (fun i => ∃ k : Nat, k ≤ N.length ∧ i = .int .i64 k ∧ (N.take k).all (Sp.dartOf q.tail v) = true) (fun i => N.length - (intOf i).toNat)
  case atStart => exact ⟨0, Nat.zero_le _, rfl, rfl⟩
  case round =>
    obtain ⟨k, hk, rfl, hall⟩ := hrel
    have Hall := hide hall; clear hall
    by_cases hlt : k < N.length
    · obtain ⟨b, o, rfl, hbl, hcx⟩ := unhide Hcx k hlt
      have Ht := hide (all_snoc_i (Sp.dartOf q.tail v) N k hlt)
      have Hm : Hid (N[k] ∈ N) := hide (List.getElem_mem hlt)
      have h0 := unhide Hnn N[k] (List.getElem_mem hlt)
      generalize N[k] = y at *
      by_cases hy : (q.tail.length : Int) ≤ y
      · have Hf : Hid (E = 5) := by
          have h2 := unhide HE
          rw [if_pos (dart_no (unhide Hm) (by simp [Sp.dartOf]; omega))] at h2
          exact hide h2
        go_wp2
        go_ret
        refine ⟨by rw [unhide Hf]; rfl, (Keep.refl _ _ _).alloc hle _, fun h => ?_⟩
        rw [unhide Hf] at h; cases h
      · obtain ⟨j, rfl⟩ : ∃ j : Nat, y = j := ⟨y.toNat, by omega⟩
        have hj : j < q.tail.length := by omega
        obtain ⟨b', o', rfl, hbl', hcx'⟩ := unhide Hct j hj
        have hgd : q.tail.getD j 0 = q.tail[j] := by rw [List.getD_eq_getElem?_getD, List.getElem?_eq_getElem hj]; rfl
        have Hgd := hide hgd; clear hgd
        generalize q.tail[j] = z at *
        by_cases hz : z = v
        · have hz' : (z == v) = true := beq_iff_eq.2 hz
          have Hz := hide hz; clear hz
          go_wp2
          go_round
          case rel =>
            refine ⟨k + 1, by omega, by go_num, ?_⟩
            rw [unhide Ht, unhide Hall]
            simp only [Sp.dartOf, Int.toNat_natCast, Bool.true_and, Bool.and_eq_true, decide_eq_true_eq]
            exact ⟨by omega, (unhide Hgd).trans (unhide Hz)⟩
          case measure => simp [intOf]; omega
        · have hz' : (z == v) = false := beq_eq_false_iff_ne.2 hz
          have Hf : Hid (E = 5) := by
            have h2 := unhide HE
            rw [if_pos (dart_no (unhide Hm) (by
              have h3 := unhide Hgd
              simp only [Sp.dartOf, Int.toNat_natCast, Bool.and_eq_false_iff, decide_eq_false_iff_not]
              exact .inr (by rw [h3]; exact hz)))] at h2
            exact hide h2
          go_wp2
          go_ret
          refine ⟨by rw [unhide Hf]; rfl, (Keep.refl _ _ _).alloc hle _, fun h => ?_⟩
          rw [unhide Hf] at h; cases h
    · rw [List.take_of_length_le (by omega)] at Hall
      rw [if_neg (by rw [unhide Hall]; simp)] at HE
      have hrow : ∃ gn, base ≤ gn ∧ gn ≠ w.heap.size ∧ (0 < N.length → ∃ capn, nv = .slice (some ⟨gn, 0, none⟩) q.tail.length capn ∧ gn < M ∧ gn < w.heap.size) := by
        by_cases hN0 : 0 < N.length
        · have h0 := List.all_eq_true.1 (unhide Hall) N[0] (List.getElem_mem hN0)
          have h1 : 0 < q.tail.length := by
            have h2 := unhide Hnn N[0] (List.getElem_mem hN0)
            simp only [Sp.dartOf, Bool.and_eq_true, decide_eq_true_eq] at h0
            omega
          obtain ⟨gn, capn, hv, hb, hl, hob⟩ := turn_row (unhide Hd).next hql h1
          exact ⟨gn, hb, by omega, fun _ => ⟨capn, hv, unhide HM gn hob, hl⟩⟩
        · exact ⟨w.heap.size + 5, by omega, by omega, fun h => absurd h hN0⟩
      obtain ⟨gn, hgb, hgs, hgn⟩ := hrow
      have Hgn := hide hgn; clear hgn
      go_wp2
      go_loopw [45] (fun i wr => ∃ (k : Nat) (nx : List Int), k ≤ N.length ∧ i = .int .i64 k ∧ Hid (Sp.turnTo q.next N k = some nx) ∧ Hid (DraftAt wr p base { q with next := nx } tv nv cv) ∧ Hid (ButRow gn (w.alloc (.cells #[.string s, .slice a N.length c] 69)) wr)) (fun i _ => N.length - (intOf i).toNat)
      case atStart => exact ⟨0, q.next, Nat.zero_le _, rfl, hide rfl, hide ((unhide Hd).alloc _), hide (ButRow.refl _ _)⟩
      case round =>
        obtain ⟨k, nx, hk, rfl, HT, HD, HB⟩ := hrel
        have bx1 : wr.cell? ⟨w.heap.size, 1, none⟩ = some (.slice a N.length c) := ((unhide HB).cell (a := ⟨w.heap.size, 1, none⟩) (by show w.heap.size ≠ gn; omega)).trans (by simp)
        obtain ⟨_, q1, q2, _, _, _, _, _⟩ := (unhide HD).cells
        rw [hvt] at q1
        by_cases hlt : k < N.length
        · obtain ⟨capn, rfl, hgM, hgw⟩ := unhide Hgn (by omega)
          have h0 := unhide Hnn N[k] (List.getElem_mem hlt)
          have hda := List.all_eq_true.1 (unhide Hall) N[k] (List.getElem_mem hlt)
          simp only [Sp.dartOf, Bool.and_eq_true, decide_eq_true_eq] at hda
          have hda1 := hda.1
          clear hda
          obtain ⟨j, hj⟩ : ∃ j : Nat, N[k] = j := ⟨N[k].toNat, by omega⟩
          have hjl : j < q.tail.length := by omega
          have hnl := Sp.turnTo_len (unhide HT)
          have hjx : j < nx.length := by omega
          have r1 := own_cell (unhide HD).next j hjx
          have r2 := own_frozen (unhide HD).next j
          obtain ⟨b, o, rfl, hbl, hcx⟩ := unhide Hcx k hlt
          have hbM : gn ≠ b := by
            have := ((unhide HN).lt b rfl).1
            omega
          have s1 : wr.cell? ⟨b, o + k, none⟩ = some (.int .i64 j) := ((unhide HB).cell (a := ⟨b, o + k, none⟩) (by show b ≠ gn; omega)).trans ((hcx _).trans (by rw [hj]))
          have hmod : (k + 1) % N.length < N.length := Nat.mod_lt _ (by omega)
          have s2 : wr.cell? ⟨b, o + (k + 1) % N.length, none⟩ = some (.int .i64 N[(k + 1) % N.length]) := by
            obtain ⟨b', o', e, _, h'⟩ := unhide Hcx _ hmod
            injection e with e
            injection e with e1 e2
            subst e1 e2
            exact ((unhide HB).cell (a := ⟨b, o + (k + 1) % N.length, none⟩) (by show b ≠ gn; omega)).trans (h' _)
          clear hcx
          have HJ := hide hj; clear hj
          have HZ : Hid (nx.getD j 0 = nx[j]) := hide (by rw [List.getD_eq_getElem?_getD, List.getElem?_eq_getElem hjx]; rfl)
          generalize nx[j] = z at *
          by_cases hz : z = -1
          · have hz' : (z == -1) = true := beq_iff_eq.2 hz
            have Hz := hide hz; clear hz
            have HY : Hid (Sp.turnTo q.next N (k + 1) = some (nx.set j N[(k + 1) % N.length])) := by
              refine hide ?_
              have e1 : N.getD k 0 = j := by rw [List.getD_eq_getElem?_getD, List.getElem?_eq_getElem hlt]; exact unhide HJ
              have e2 : N.getD ((k + 1) % N.length) 0 = N[(k + 1) % N.length] := by rw [List.getD_eq_getElem?_getD, List.getElem?_eq_getElem hmod]; rfl
              rw [Sp.turnTo, unhide HT]
              simp only [Option.bind_some, e1, Int.toNat_natCast, e2]
              rw [if_pos ((unhide HZ).trans (unhide Hz))]
            generalize N[(k + 1) % N.length] = y at *
            have ht1 : ((k : Int) + 1).tmod N.length = ((k + 1) % N.length : Nat) := by
              rw [Int.tmod_eq_emod_of_nonneg (by omega)]; simp
            have ht2 : ((k : Int) + 1) % N.length = ((k + 1) % N.length : Nat) := by simp
            generalize (k + 1) % N.length = i at *
            go_wp2
            go_region
            go_wp2
            go_roundw
            case rel =>
              exact ⟨k + 1, nx.set j y, by omega, by go_num, HY, hide ((unhide HD).setNext hgb).drew, hide ((unhide HB).setCell j _).drew⟩
            case measure => simp [intOf]; omega
          · have hz' : (z == -1) = false := beq_eq_false_iff_ne.2 hz
            have Hf : Hid (E = 6) := by
              have h2 := unhide HE
              have h3 : Sp.turnTo q.next N N.length = none := by
                have h4 : Sp.turnTo q.next N (k + 1) = none := by
                  rw [Sp.turnTo, unhide HT]
                  have e1 : N.getD k 0 = j := by rw [List.getD_eq_getElem?_getD, List.getElem?_eq_getElem hlt]; exact unhide HJ
                  simp only [Option.bind_some, e1, Int.toNat_natCast]
                  rw [if_neg (by rw [unhide HZ]; exact hz)]
                have h5 := Sp.turnTo_none h4 (N.length - (k + 1))
                rw [show k + 1 + (N.length - (k + 1)) = N.length by omega] at h5
                exact h5
              rw [h3] at h2
              exact hide h2
            go_wp2
            go_ret
            refine ⟨by rw [unhide Hf]; rfl, ((Keep.refl _ _ _).alloc hle _).trans ((unhide HB).keep hgb), fun h => ?_⟩
            rw [unhide Hf] at h; cases h
        · obtain rfl : k = N.length := by omega
          have HC : Hid (Ints wr (.slice at_ q.tail.length ct) q.tail) := hide (by have := (unhide HD).tail.ints; rw [hvt] at this; exact this)
          go_wp2
          go_quiet ((go_at_call 48; exact Calls.quiet_of_same (countOf_any _ _ _ _ (unhide HC) (by omega))))
          by_cases hcnt : (N.length : Int) = Sp.countOf q.tail v
          · have hcnt' : ((N.length : Int) == Sp.countOf q.tail v) = true := beq_iff_eq.2 hcnt
            have Hf : Hid (E = 0) := by
              have h2 := unhide HE
              rw [unhide HT, if_neg (by simp), if_neg (by simpa using hcnt)] at h2
              exact hide h2
            have Hq : Hid (q' = { q with next := nx }) := by
              have h2 := unhide HQ
              rw [unhide HT] at h2
              exact hide h2
            have Hcnt := hide hcnt; clear hcnt
            go_wp2
            go_ret
            refine ⟨by rw [unhide Hf]; rfl, (((Keep.refl _ _ _).alloc hle _).trans ((unhide HB).keep hgb)).drewN _, fun _ => ?_⟩
            rw [unhide Hq]
            exact (unhide HD).drewN _
          · have hcnt' : ((N.length : Int) == Sp.countOf q.tail v) = false := beq_eq_false_iff_ne.2 hcnt
            have Hf : Hid (E = 6) := by
              have h2 := unhide HE
              rw [unhide HT, if_neg (by simp), if_pos hcnt] at h2
              exact hide h2
            have Hcnt := hide hcnt; clear hcnt
            go_wp2
            go_ret
            refine ⟨by rw [unhide Hf]; rfl, (((Keep.refl _ _ _).alloc hle _).trans ((unhide HB).keep hgb)).drewN _, fun h => ?_⟩
            rw [unhide Hf] at h; cases h
end Go.Proofs.YtkmcfjkfoafkoaaDoor
