/- What the proof needs, part 7. -/
import Derived.DeepKeys
import Derived.Test.YtenffkplneimlabL6
/- Package tree: Left of a tree. -/
namespace Go.Proofs.Ytenffkplneimlab
open Go Go.RowKit

/-- Block G holds n bools, two by two. -/
def Us (w : World) (G n : Nat) (f : Nat → Bool) : Prop := ∃ c, w.heap[G]? = some (.cells c 50) ∧ c.size = n ∧ ∀ j, j < n → c[j]? = some (.bool (f j))
theorem Us.lt {w : World} {G n : Nat} {f : Nat → Bool} (h : Us w G n f) : G < w.heap.size := by
  obtain ⟨c, hc, -⟩ := h
  exact (Array.getElem?_eq_some_iff.1 hc).1
theorem Us.cell {w : World} {G n : Nat} {f : Nat → Bool} (h : Us w G n f) {j : Nat} (hj : j < n) : w.cell? ⟨G, j, none⟩ = some (.bool (f j)) ∧ w.frozen? ⟨G, j, none⟩ = false := by
  obtain ⟨c, hc, -, hz⟩ := h
  constructor
  · simp only [World.cell?, hc]; exact hz j hj
  · simp [World.frozen?, hc]
theorem Us.of_block {w w' : World} {G n : Nat} {f : Nat → Bool} (h : Us w G n f) (e : w'.heap[G]? = w.heap[G]?) : Us w' G n f := by
  obtain ⟨c, hc, r⟩ := h
  exact ⟨c, e.trans hc, r⟩
theorem Us.set {w : World} {G n : Nat} {f : Nat → Bool} (h : Us w G n f) (j : Nat) : Us (w.setCell ⟨G, j, none⟩ (.bool true)) G n (fun k => if k = j then true else f k) := by
  obtain ⟨c, hc, hs, hz⟩ := h
  refine ⟨c.setIfInBounds j (.bool true), ?_, by simpa using hs, fun k hk => ?_⟩
  · simp only [World.setCell, Array.getElem?_modify, if_pos, hc]; rfl
  · show _ = some (Value.bool (if k = j then true else f k))
    rw [Array.getElem?_setIfInBounds]
    by_cases hjk : j = k
    · rw [if_pos hjk, if_pos (by omega), if_pos hjk.symm]
    · rw [if_neg hjk, hz k hk, if_neg (fun e : k = j => hjk e.symm)]
theorem made_two (n j : Nat) (hj : j < n) : (madeCells #[Value.bool false, .bool false] n)[j]? = some (.bool false) := by
  unfold madeCells
  rw [Array.getElem?_map, Array.getElem?_range, if_pos hj]
  simp only [Option.map_some, Option.some.injEq]
  rcases (show j % 2 = 0 ∨ j % 2 = 1 by omega) with h | h
  · show (#[Value.bool false, Value.bool false][j % 2]!) = _
    rw [h]; rfl
  · show (#[Value.bool false, Value.bool false][j % 2]!) = _
    rw [h]; rfl
theorem Sp.usedB_iff (up : List Int) (d : Nat) : ∀ n, Sp.usedB up d n = true ↔ ∃ j, j < n ∧ (up.getD j 0 = (d : Int) ∨ up.getD j 0 = (d : Int) + 1)
  | 0 => by simp [Sp.usedB]
  | n + 1 => by
    rw [Sp.usedB, Bool.or_eq_true, Bool.or_eq_true, Sp.usedB_iff up d n, beq_iff_eq, beq_iff_eq]
    constructor
    · rintro ((⟨j, h1, h2⟩ | h) | h)
      · exact ⟨j, by omega, h2⟩
      · exact ⟨n, by omega, .inl h⟩
      · exact ⟨n, by omega, .inr h⟩
    · rintro ⟨j, h1, h2⟩
      by_cases hj : j = n
      · subst hj
        rcases h2 with h2 | h2
        · exact .inl (.inr h2)
        · exact .inr h2
      · exact .inl (.inl ⟨j, by omega, h2⟩)
theorem infoT : (Try.prog.info? 50).map (fun i => (i.zero, i.size, i.bytes)) = some (some (.agg #[.bool false, .bool false]), 2, 2) := by kernel_rfl
theorem two_at {w : World} {B : Nat} {x y : Value} (h : w.heap[B]? = some (.cells #[x, y] 50)) : w.cell? ⟨B, 0, none⟩ = some x ∧ w.cell? ⟨B, 1, none⟩ = some y := by
  constructor <;> simp only [World.cell?, h] <;> rfl
theorem eq_two (x y : Bool) (w : World) : (Op.equalIn 10000 50 (.agg #[.bool x, .bool y]) (.agg #[.bool false, .bool false])).run Try.prog w = .ok (!x && !y) w := by
  have hd := run_equalIn_deep (P := Try.prog) 9997 3 50 (by rfl)
  obtain ⟨r, h1, h2⟩ := hd w 3 3 (.agg #[.bool x, .bool y]) (.agg #[.bool false, .bool false]) _ _ (by rfl) (by rfl) (by rfl) (by rfl)
  have h3 : r = (!x && !y) := by
    rw [Bool.eq_iff_iff, h2]
    cases x <;> cases y <;> simp
  rw [← h3]
  exact h1
set_option maxRecDepth 100000 in
set_option maxHeartbeats 8000000 in
theorem left_any (q : Sp.Net) (U : List Int) (r N : Nat) (v tv nv cv uv : Value) (w : World) (hv : NetI w v q tv nv cv) (hu : Ints w uv U) (hev : q.tail.length % 2 = 0) (h240 : q.tail.length ≤ 240) (hN : q.n = (N : Int)) (hN2 : N ≤ 60) (hn : q.n ≤ ((q.tail.length / 2 : Nat) : Int) + 1) (hT : ∀ x ∈ q.tail, 0 ≤ x ∧ x < q.n) (hR : Sp.rightB q U (r : Int) = true) :
    Calls Try.prog 12 #[v, uv] w fun e w' => ∃ lv, e = .returned lv ∧ OwnI w' w.heap.size lv (Sp.leftL q U) ∧ Below w.heap.size w w' := by
  obtain ⟨iT, hiT, hT0, hT1, hT2⟩ : ∃ i0, Try.prog.info? 50 = some i0 ∧ i0.zero = some (.agg #[.bool false, .bool false]) ∧ i0.size = 2 ∧ i0.bytes = 2 := by
    have h := infoT
    cases hq : Try.prog.info? 50 with
    | none => rw [hq] at h; cases h
    | some i0 =>
      rw [hq] at h
      simp only [Option.map_some, Option.some.injEq, Prod.mk.injEq] at h
      exact ⟨i0, rfl, h.1, h.2.1, h.2.2⟩
  obtain ⟨hUl, hrN, hUr, hE, -⟩ := Sp.right_parts hN hR
  have hv' := hv
  have hu' := hu
  obtain ⟨rfl, h1, h2, h3⟩ := hv
  obtain ⟨ta, tc, rfl, -, -⟩ := h1.form
  obtain ⟨na, nc, rfl, -, -⟩ := h2.form
  obtain ⟨ca, cc, rfl, -, -⟩ := h3.form
  obtain ⟨ua, uc, rfl, -, -, HU⟩ := hu.allD
  clear h1 h2 h3 hu
  obtain ⟨bu, ou, rfl, -, -⟩ := unhide HU r (by omega)
  have HBX := hide (box_new w q.n (.slice ta q.tail.length tc) (.slice na q.next.length nc) (.slice ca q.cap.length cc))
  obtain ⟨W1, hW1⟩ : ∃ W1, W1 = w.alloc (.cells #[.int .i64 q.n, .slice ta q.tail.length tc, .slice na q.next.length nc, .slice ca q.cap.length cc] 25) := ⟨_, rfl⟩
  rw [← hW1] at HBX
  have hb1 : Below w.heap.size w W1 := by rw [hW1]; exact (Below.refl _ w).alloc (Nat.le_refl _) _
  have hs1 : W1.heap.size = w.heap.size + 1 := by rw [hW1]; simp
  have HW : Hid (∀ w', Below (w.heap.size + 1) W1 w' → Below w.heap.size w w') := hide fun w' hb => hb1.trans (hb.mono (by omega))
  have HTr := hide (fun w' (hb : Below (w.heap.size + 1) W1 w') => isTree_yes q U r N (.agg #[.int .i64 q.n, .slice ta q.tail.length tc, .slice na q.next.length nc, .slice ca q.cap.length cc]) _ _ _ (.slice (some ⟨bu, ou, none⟩) U.length uc) w' ⟨rfl, hv'.tail.below (unhide HW w' hb), hv'.next.below (unhide HW w' hb), hv'.cap.below (unhide HW w' hb)⟩ (hu'.below (unhide HW w' hb)) hev h240 hN hN2 hn hT hR)
  have HU2 : Hid (∀ k, k < N → ∀ w', Below (w.heap.size + 1) W1 w' → w'.cell? ⟨bu, ou + k, none⟩ = some (.int .i64 (U.getD k 0))) := hide fun k hk w' hb => by
    obtain ⟨b', o', e1, -, h'⟩ := unhide HU k (by omega)
    injection e1 with e1
    injection e1 with e1 e2
    subst e1 e2
    exact h' w' (unhide HW w' hb)
  have HE : Hid (∀ y, y < N → U.getD y 0 = -1 ∨ (0 ≤ U.getD y 0 ∧ U.getD y 0 < (q.tail.length : Int))) := hide fun y hy => by
    by_cases hyr : y = r
    · rw [hyr]; exact .inl hUr
    · exact .inr (hE y hy hyr)
  obtain ⟨m, hm⟩ : ∃ m, q.tail.length / 2 = m := ⟨_, rfl⟩
  have hm2 : q.tail.length = 2 * m := by omega
  have HL : Hid (Sp.leftL q U = Sp.leftGo U m 0 []) := hide (by unfold Sp.leftL; rw [hm])
  have HUl := hide hUl
  have htd : ((q.tail.length : Nat) : Int).tdiv 2 = (m : Int) := by rw [Int.tdiv_eq_ediv_of_nonneg (by omega)]; omega
  have htd2 : ((q.tail.length : Nat) : Int) / 2 = (m : Int) := by omega
  obtain ⟨P, hP⟩ : ∃ P : Ending → World → Prop, P = fun e w' => ∃ lv, e = .returned lv ∧ OwnI w' w.heap.size lv (Sp.leftL q U) ∧ Below w.heap.size w w' := ⟨_, rfl⟩
  rw [← hP]
  have HP := hide hP
  have HS1 := hide hs1
  have hb0 : Below (w.heap.size + 1) W1 W1 := Below.refl _ _
  obtain ⟨x0, x1, x2, x3, -⟩ := unhide HBX W1 hb0
  rw [hUl] at HTr ⊢
  have hm3 : m ≤ 120 := by omega
  have HM2 := hide hm2
  clear hP hb1 hs1 hv' hu' hR hn hT hev hN HU hE hUr hrN hUl hm hm2
  subst hW1
  go_enter Try.func12, Try.ntmps12
  go_wp2_with fail
  go_at_call 27
  generalize w.alloc (.cells #[.int .i64 q.n, .slice ta q.tail.length tc, .slice na q.next.length nc, .slice ca q.cap.length cc] 25) = W1 at *
  refine (unhide HTr W1 hb0).mono ?_
  rintro e w2 ⟨rfl, hl2⟩
  have hs1' := unhide HS1
  have hb2 : Below (w.heap.size + 1) W1 w2 := hb0.trans (hl2.mono (by omega))
  clear hl2 x0 x1 x2 x3
  obtain ⟨x0, x1, x2, x3, hz2⟩ := unhide HBX w2 hb2
  have HB2 := hide hb2
  clear hb2
  go_wp2_with (at_make; refine wpList_make_full _ rfl _ _ 49 rfl w2.heap.size 50 iT (.agg #[.bool false, .bool false]) 2 Try.underlying49 hiT hT0 hT1 .i64 .i64 _ _ m rfl rfl rfl rfl (by rw [hT2]; omega) (by unfold maxLen; omega) (Nat.le_refl _) ?_)
  intro w5 hown5 hg5
  obtain ⟨G, hG⟩ : ∃ G, w2.heap.size = G := ⟨_, rfl⟩
  have hb5 : Below w2.heap.size w2 w5 := (Below.refl _ _).grown hg5 (Nat.le_refl _) (by simp)
  rw [hG] at hown5 hb5 hz2 ⊢
  have hus : Us w5 G (m * 2) (fun _ => false) := by
    rcases hown5.2 with ⟨e, -⟩ | ⟨g, cap, cur, e, -, hc, -, -, h3, h4⟩
    · cases e
    · injection e with e1 _ e2
      injection e1 with e1
      injection e1 with e1
      subst e1 e2
      have : cur.toList.length ≤ m * 2 := by simp [h3]
      rw [List.take_of_length_le this] at h4
      refine ⟨cur, hc, h3, fun j hj => ?_⟩
      rw [← Array.getElem?_toList, h4, Array.getElem?_toList]
      exact made_two _ _ hj
  have H5 : Hid (Below (w.heap.size + 1) W1 w5 ∧ Us w5 G (m * 2) (fun _ => false)) := hide ⟨(unhide HB2).trans (hb5.mono (by omega)), hus⟩
  clear hown5 hg5 hb5 hus hG HB2 x0 x1 x2 x3
  go_wp2
  go_loopg [23] N (fun g s23 wr => ∃ (k : Nat) (f : Nat → Bool), k + g = N ∧ s23 = .int .i64 (k : Int) ∧ Hid (Below (w.heap.size + 1) W1 wr ∧ Us wr G (m * 2) f) ∧ Hid (∀ d, f d = true ↔ ∃ v, v < k ∧ U.getD v 0 = (d : Int)))
  case atStart => exact ⟨0, _, by omega, rfl, H5, hide fun d => ⟨fun h => (by cases h), fun ⟨v, h, _⟩ => (by omega)⟩⟩
  case round =>
    clear H5
    obtain ⟨k, f, hkg, rfl, HI, HF⟩ := hrel
    by_cases hk : k < N
    · have hkI : (k : Int) < (N : Int) := by omega
      obtain ⟨g', rfl⟩ : ∃ g', gk = g' + 1 := ⟨gk - 1, by omega⟩
      have c1 := unhide HU2 k hk wr (unhide HI).1
      have hE := unhide HE k hk
      obtain ⟨z, hz⟩ : ∃ z, U.getD k 0 = z := ⟨_, rfl⟩
      rw [hz] at c1 hE
      have HZ := hide hz
      clear hz
      by_cases hz1 : z = -1
      · subst hz1
        have HF2 : Hid (∀ d : Nat, f d = true ↔ ∃ v, v < k + 1 ∧ U.getD v 0 = (d : Int)) := hide fun d => by
          rw [unhide HF]
          constructor
          · rintro ⟨v, h1, h2⟩; exact ⟨v, by omega, h2⟩
          · rintro ⟨v, h1, h2⟩
            by_cases hvk : v = k
            · rw [hvk, unhide HZ] at h2; omega
            · exact ⟨v, by omega, h2⟩
        clear HF HZ hE
        go_wp2
        go_roundg g'
        case rel => exact ⟨k + 1, f, by omega, by go_num, HI, HF2⟩
        case measure => omega
      · have hE2 := hE.resolve_left hz1
        obtain ⟨d, rfl⟩ : ∃ d : Nat, z = (d : Int) := ⟨z.toNat, by omega⟩
        have hml := unhide HM2
        obtain ⟨e0, he0⟩ : ∃ e0, d / 2 = e0 := ⟨_, rfl⟩
        obtain ⟨r0, hr0⟩ : ∃ r0, d % 2 = r0 := ⟨_, rfl⟩
        have hq1 : (d : Int).tdiv 2 = (e0 : Int) := by rw [Int.tdiv_eq_ediv_of_nonneg (by omega)]; omega
        have hq2 : (d : Int) / 2 = (e0 : Int) := by omega
        have hq3 : (d : Int).tmod 2 = (r0 : Int) := by rw [Int.tmod_eq_emod_of_nonneg (by omega)]; omega
        have hq4 : (d : Int) % 2 = (r0 : Int) := by omega
        have he0I : (e0 : Int) < (m : Int) := by omega
        have hr0I : (r0 : Int) < 2 := by omega
        have hdm : e0 * 2 + r0 = d := by omega
        obtain ⟨cu, fu⟩ := (unhide HI).2.cell (j := e0 * 2 + r0) (by omega)
        have ez : ((d : Int) == -1) = false := beq_eq_false_iff_ne.2 (by omega)
        have eb : ((d : Int) != -1) = true := by simp only [bne, ez]; rfl
        have HA : Hid (Below (w.heap.size + 1) W1 (wr.setCell ⟨G, e0 * 2 + r0, none⟩ (.bool true)) ∧ Us (wr.setCell ⟨G, e0 * 2 + r0, none⟩ (.bool true)) G (m * 2) (fun k => if k = e0 * 2 + r0 then true else f k)) := hide ⟨(unhide HI).1.setCell (p := ⟨G, e0 * 2 + r0, none⟩) (by show w.heap.size + 1 ≤ G; omega) _, (unhide HI).2.set _⟩
        have HF2 : Hid (∀ d' : Nat, (if d' = e0 * 2 + r0 then true else f d') = true ↔ ∃ v, v < k + 1 ∧ U.getD v 0 = (d' : Int)) := hide fun d' => by
          rw [hdm]
          by_cases hdd : d' = d
          · rw [if_pos hdd]
            exact ⟨fun _ => ⟨k, by omega, by rw [unhide HZ, hdd]⟩, fun _ => rfl⟩
          · rw [if_neg hdd, unhide HF]
            constructor
            · rintro ⟨v, h1, h2⟩; exact ⟨v, by omega, h2⟩
            · rintro ⟨v, h1, h2⟩
              by_cases hvk : v = k
              · rw [hvk, unhide HZ] at h2; omega
              · exact ⟨v, by omega, h2⟩
        generalize f (e0 * 2 + r0) = fb at cu
        clear HF HZ hE hE2 hz1 HI he0 hr0 hml hdm
        go_wp2
        go_roundg g'
        case rel => exact ⟨k + 1, _, by omega, by go_num, HA, HF2⟩
        case measure => omega
    · have hkI : ¬ (k : Int) < (N : Int) := by omega
      obtain rfl : k = N := by omega
      have hsz := (unhide HI).2.lt
      obtain ⟨NB, hNB⟩ : ∃ NB, wr.heap.size = NB := ⟨_, rfl⟩
      have hal := (Below.refl wr.heap.size wr).alloc (Nat.le_refl _) (.cells #[.bool false, .bool false] 50)
      have H6 : Hid (Below (w.heap.size + 1) W1 (wr.alloc (.cells #[.bool false, .bool false] 50)) ∧ Us (wr.alloc (.cells #[.bool false, .bool false] 50)) G (m * 2) f ∧ (wr.alloc (.cells #[.bool false, .bool false] 50)).heap[NB]? = some (.cells #[.bool false, .bool false] 50) ∧ OwnI (wr.alloc (.cells #[.bool false, .bool false] 50)) (NB + 1) (.slice none 0 0) []) := hide ⟨(unhide HI).1.alloc (by omega) _, (unhide HI).2.of_block (hal.block _ hsz), by
        rw [← hNB]
        show (wr.heap.push _)[wr.heap.size]? = _
        rw [Array.getElem?_push, if_pos rfl], ⟨by simp, .inl ⟨rfl, rfl⟩⟩⟩
      have HUs : Hid (∀ e, Sp.usedB U (2 * e) U.length = (f (e * 2) || f (e * 2 + 1))) := hide fun e => by
        rw [Bool.eq_iff_iff, Bool.or_eq_true, Sp.usedB_iff, unhide HF, unhide HF, unhide HUl]
        constructor
        · rintro ⟨v, h1, h2 | h2⟩
          · exact .inl ⟨v, h1, by omega⟩
          · exact .inr ⟨v, h1, by omega⟩
        · rintro (⟨v, h1, h2⟩ | ⟨v, h1, h2⟩)
          · exact ⟨v, h1, .inl (by omega)⟩
          · exact ⟨v, h1, .inr (by omega)⟩
      have hGN : G < NB := by omega
      clear hal HI HF hsz
      have hsz6 : NB + 1 ≤ (wr.alloc (.cells #[.bool false, .bool false] 50)).heap.size := by
        show _ ≤ (wr.heap.push _).size
        rw [Array.size_push]; omega
      go_wp2
      generalize wr.alloc (.cells #[.bool false, .bool false] 50) = W6 at *
      clear hNB
      go_loopg [9, 40] m (fun g s9 s40 wr => ∃ (e : Nat) (out : List Int) (oa : Option Addr) (oc : Nat), e + g = m ∧ s9 = .slice oa out.length oc ∧ s40 = .int .i64 (e : Int) ∧ out.length ≤ e ∧ NB + 1 ≤ wr.heap.size ∧ Hid (Below (w.heap.size + 1) W1 wr ∧ Us wr G (m * 2) f ∧ wr.heap[NB]? = some (.cells #[.bool false, .bool false] 50) ∧ OwnI wr (NB + 1) (.slice oa out.length oc) out) ∧ Hid (Sp.leftL q U = Sp.leftGo U g e out))
      case atStart => exact ⟨0, [], none, 0, by omega, rfl, rfl, by simp, hsz6, H6, HL⟩
      case round =>
        clear H6 hsz6 HL
        obtain ⟨e, out, oa, oc, heg, rfl, rfl, hoe, hsr, HI, HL⟩ := hrel
        by_cases he : e < m
        · have heI : (e : Int) < (m : Int) := by omega
          obtain ⟨g', rfl⟩ : ∃ g', gk = g' + 1 := ⟨gk - 1, by omega⟩
          have HLs : Hid (Sp.leftL q U = if (f (e * 2) || f (e * 2 + 1)) = true then Sp.leftGo U g' (e + 1) out else Sp.leftGo U g' (e + 1) (out ++ [((2 * e : Nat) : Int)])) := hide (by rw [unhide HL, Sp.leftGo, unhide HUs])
          obtain ⟨ca0, -⟩ := (unhide HI).2.1.cell (j := e * 2) (by omega)
          obtain ⟨ca1, -⟩ := (unhide HI).2.1.cell (j := e * 2 + 1) (by omega)
          have n01 := fun o : Obj => two_at (w := wr.alloc o) ((Below.heap_alloc wr o NB (by omega)).trans (unhide HI).2.2.1)
          have n0 := fun o => (n01 o).1
          have n1 := fun o => (n01 o).2
          have HB : Hid (∀ o, Below (w.heap.size + 1) W1 (wr.alloc o) ∧ Us (wr.alloc o) G (m * 2) f ∧ (wr.alloc o).heap[NB]? = some (.cells #[.bool false, .bool false] 50) ∧ OwnI (wr.alloc o) (NB + 1) (.slice oa out.length oc) out ∧ NB + 2 ≤ (wr.alloc o).heap.size) := hide fun o => by
            have hal := (Below.refl wr.heap.size wr).alloc (Nat.le_refl _) o
            exact ⟨(unhide HI).1.alloc (by omega) _, (unhide HI).2.1.of_block (hal.block _ (by omega)), (hal.block NB (by omega)).trans (unhide HI).2.2.1, own_below (unhide HI).2.2.2 hal, by
              show _ ≤ (wr.heap.push _).size
              rw [Array.size_push]; omega⟩
          clear HI HL n01
          have heq := fun w' => eq_two (f (e * 2)) (f (e * 2 + 1)) w'
          generalize f (e * 2) = b0 at *
          generalize f (e * 2 + 1) = b1 at *
          cases b0
          · cases b1
            · have HL2 : Hid (Sp.leftL q U = Sp.leftGo U g' (e + 1) (out ++ [((2 * e : Nat) : Int)])) := hide (unhide HLs)
              clear HLs
              have h2e : (2 : Int) * (e : Int) = ((2 * e : Nat) : Int) := by omega
              obtain ⟨e2, he2⟩ : ∃ e2, 2 * e = e2 := ⟨_, rfl⟩
              rw [he2] at h2e HL2
              have HBb := hide (unhide HB (.cells #[.bool false, .bool false] 50))
              have hwe : IntKind.i64.wrap (e2 : Int) = (e2 : Int) := by rw [IntKind.wrap_i64]; omega
              clear HB
              go_upto_region 16 with fail
              generalize wr.alloc (.cells #[.bool false, .bool false] 50) = WB at *
              have hszB := (unhide HBb).2.2.2.2
              clear ca0 ca1 n0 n1
              go_wp2_with (at_builtin; refine wpList_app (w := WB.alloc (.cells #[.int .i64 (e2 : Int)] 3)) rfl _ _ rfl (NB + 1) _ _ out [(e2 : Int)] rfl rfl (World.ownsRow.alloc (unhide HBb).2.2.2.1 _) (OwnI.ints (own_lit WB 0 _ 1 [(e2 : Int)] rfl rfl (by omega) (by simp))) (out.length + 1) (by simp) (by omega) (by simp; omega) ?_)
              intro a6 c6 w6 hown6 hb6 hgr6
              have hl6 : (out ++ [(e2 : Int)]).length = out.length + 1 := by simp
              have hbA : Below (NB + 1) WB w6 := ((Below.refl (NB + 1) WB).alloc (by omega) _).trans hb6
              have hs6 := hbA.size
              have HFn : Hid (Below (w.heap.size + 1) W1 w6 ∧ Us w6 G (m * 2) f ∧ w6.heap[NB]? = some (.cells #[.bool false, .bool false] 50) ∧ OwnI w6 (NB + 1) (.slice a6 (out.length + 1) c6) (out ++ [(e2 : Int)])) := hide ⟨(unhide HBb).1.trans (hbA.mono (by omega)), (unhide HBb).2.1.of_block (hbA.block _ (by omega)), (hbA.block NB (by omega)).trans (unhide HBb).2.2.1, hown6⟩
              clear hown6 hb6 hgr6 hbA HBb
              go_wp2
              go_roundg g'
              case rel => exact ⟨e + 1, out ++ [(e2 : Int)], a6, c6, by omega, by rw [hl6], by go_num, by omega, by omega, by rw [hl6]; exact HFn, HL2⟩
              case measure => omega
            · have HL2 : Hid (Sp.leftL q U = Sp.leftGo U g' (e + 1) out) := hide (unhide HLs)
              clear HLs
              go_wp2
              go_roundg g'
              case rel => exact ⟨e + 1, out, oa, oc, by omega, rfl, by go_num, by omega, by have := (unhide HB (.cells #[.bool false, .bool true] 50)).2.2.2.2; omega, hide ⟨(unhide HB _).1, (unhide HB _).2.1, (unhide HB _).2.2.1, (unhide HB _).2.2.2.1⟩, HL2⟩
              case measure => omega
          · have HL2 : Hid (Sp.leftL q U = Sp.leftGo U g' (e + 1) out) := hide (unhide HLs)
            clear HLs
            cases b1
            all_goals
              go_wp2
              go_roundg g'
              case rel => exact ⟨e + 1, out, oa, oc, by omega, rfl, by go_num, by omega, by have := fun o => (unhide HB o).2.2.2.2; exact Nat.le_trans (by omega) (this _), hide ⟨(unhide HB _).1, (unhide HB _).2.1, (unhide HB _).2.2.1, (unhide HB _).2.2.2.1⟩, HL2⟩
              case measure => omega
        · have heI : ¬ (e : Int) < (m : Int) := by omega
          obtain rfl : gk = 0 := by omega
          have HF : Hid (Sp.leftL q U = out ∧ OwnI wr w.heap.size (.slice oa out.length oc) out ∧ Below w.heap.size w wr) := hide ⟨unhide HL, own_base (unhide HI).2.2.2 (by omega), unhide HW _ (unhide HI).1⟩
          clear HI HL
          go_wp2
          rw [unhide HP]
          exact ⟨_, rfl, by rw [(unhide HF).1]; exact (unhide HF).2.1, (unhide HF).2.2⟩
end Go.Proofs.Ytenffkplneimlab


/- append of a row of ints onto a row of the call's own: where the new one lies. -/
namespace Go.Proofs.Ytenffkplneimlab
open Go Go.RowKit

set_option maxRecDepth 100000 in
theorem run_app2 {w : World} {B : Nat} {v x : Value} {l1 l2 : List Int} (ty : TypeId) (hown : OwnI w B v l1) (hx : Ints w x l2) (n : Nat) (hn : l1.length + l2.length = n) (hlen : n ≤ 1000000) (hB : B ≤ w.heap.size) :
    ∃ a' c' w', (Builtin.append_ #[22, 22] ty #[v, x]).run Try.prog w = .ok (.slice a' n c') w' ∧ OwnI w' B (.slice a' n c') (l1 ++ l2) ∧ Below B w w' ∧ w.grownBy w' v.ownBlock ∧ ((Value.slice a' n c').ownBlock = v.ownBlock ∨ (Value.slice a' n c').ownBlock = some w.heap.size) := by
  subst hn
  obtain ⟨i0, hi, hz0, hz1, hz2⟩ := info_parts info3
  have fin : ∀ v' w', OwnI w' B v' (l1 ++ l2) → ∃ a' c', v' = .slice a' (l1.length + l2.length) c' := fun v' w' h => by
    obtain ⟨a, c, e, _⟩ := h.ints
    exact ⟨a, c, by rw [e]; simp⟩
  obtain ⟨a, c, rfl, hc, hm, hcell⟩ := hx
  cases a with
  | none =>
    have hl2 : l2 = [] := by
      cases l2 with
      | nil => rfl
      | cons y r => obtain ⟨b, o, h, _⟩ := hcell 0 (by simp); cases h
    subst hl2
    have hr : (Builtin.append_ #[22, 22] ty #[v, .slice none 0 c]).run Try.prog w = .ok v w := by
      rcases hown.2 with ⟨rfl, h⟩ | ⟨g, cap, cur, rfl, _, _, hnc, _⟩
      · simp [Builtin.append_, run_underlying Try.underlying22, sizeOf, typeInfo, hi, Builtin.lenOf, Builtin.firstCells]
      · simp [Builtin.append_, run_underlying Try.underlying22, sizeOf, typeInfo, hi, Builtin.lenOf, Builtin.firstCells, hnc, storeCells]
    have h2 : OwnI w B v (l1 ++ []) := by simpa using hown
    obtain ⟨a', c', rfl⟩ := fin v w h2
    exact ⟨a', c', w, hr, h2, Below.refl _ _, ⟨rfl, rfl, rfl, Nat.le_refl _, fun _ _ _ => rfl⟩, .inl rfl⟩
  | some ad =>
    obtain ⟨v', w', h1, h2, h3, h4, h5⟩ := run_append_own_at (P := Try.prog) w B 22 ty 3 i0 (.int .i64 0) 1 8 Try.underlying22 hi hz0 hz1 hz2 rfl (by decide) v l1.length (l1.map (Value.int .i64)) hown ad l2.length c (l2.map (Value.int .i64)) (by simp)
      (fun j u hj => by
        rw [List.getElem?_map, Option.map_eq_some_iff] at hj
        obtain ⟨y, hy, rfl⟩ := hj
        obtain ⟨hjl, rfl⟩ := List.getElem?_eq_some_iff.1 hy
        obtain ⟨b, o, e, _, hcl⟩ := hcell j hjl
        injection e with e
        subst e
        have e2 : (⟨b, o, none⟩ : Addr).add j = ⟨b, o + j, none⟩ := by unfold Addr.add; split <;> simp_all
        rw [e2]; exact hcl)
      (fun u hu => by obtain ⟨y, _, rfl⟩ := List.mem_map.1 hu; rfl) (by unfold maxLen; omega) (by omega) hB
    have h2' : OwnI w' B v' (l1 ++ l2) := by unfold OwnI; simpa using h2
    obtain ⟨a', c', rfl⟩ := fin v' w' h2'
    exact ⟨a', c', w', h1, h2', (Below.refl B w).grown h3 hB fun k hk => (hown.lt k hk).1, h3, h5⟩
/-- append, with where the new row lies: in the old one's block, or in a block that was not there. -/
theorem wp_app2 {w : World} {o : Oper} {a : Act} {K : Act → World → Prop} {Q : Exit → Act → World → Prop} (s x : Operand)
    (ho : o.op = .call { callee := .builtin .append, args := #[s, x], argTypes := #[22, 22] })
    (B : Nat) (v xv : Value) (l1 l2 : List Int) (hs : a.eval s = v) (hx' : a.eval x = xv) (hown : OwnI w B v l1) (hx : Ints w xv l2) (n : Nat) (hn : l1.length + l2.length = n) (hlen : n ≤ 1000000) (hB : B ≤ w.heap.size)
    (h : ∀ a' c' w', OwnI w' B (.slice a' n c') (l1 ++ l2) → Below B w w' → w.grownBy w' v.ownBlock → ((Value.slice a' n c').ownBlock = v.ownBlock ∨ (Value.slice a' n c').ownBlock = some w.heap.size) → K (a.put o.dst (.slice a' n c')) w') : o.wp Try.prog a w K Q := by
  obtain ⟨a', c', w', hr, h2, h3, h4, h5⟩ := run_app2 o.type hown hx n hn hlen hB
  unfold Oper.wp execOp
  simp only [ho, resolve, invoke, builtin, Sem.run_bind, Sem.run_pure, Result.andThen_ok, List.map_toArray, List.map_cons, List.map_nil, hs, hx', hr]
  exact h a' c' w' h2 h3 h4 h5
end Go.Proofs.Ytenffkplneimlab


/- Package tree: outward. -/
namespace Go.Proofs.Ytenffkplneimlab
open Go Go.RowKit

theorem wpList_app2 {w : World} {ops : Array Oper} {rest : List Oper} {o : Oper} {a : Act} {Q : Exit → Act → World → Prop} (hgd : o.guard = none) (s x : Operand)
    (ho : o.op = .call { callee := .builtin .append, args := #[s, x], argTypes := #[22, 22] })
    (B : Nat) (v xv : Value) (l1 l2 : List Int) (hs : a.eval s = v) (hx' : a.eval x = xv) (hown : OwnI w B v l1) (hx : Ints w xv l2) (n : Nat) (hn : l1.length + l2.length = n) (hlen : n ≤ 1000000) (hB : B ≤ w.heap.size)
    (h : ∀ a' c' w', OwnI w' B (.slice a' n c') (l1 ++ l2) → Below B w w' → w.grownBy w' v.ownBlock → ((Value.slice a' n c').ownBlock = v.ownBlock ∨ (Value.slice a' n c').ownBlock = some w.heap.size) → wpList Try.prog ops Q rest (a.put o.dst (.slice a' n c')) w') : wpList Try.prog ops Q (o :: rest) a w :=
  wpList_plain hgd fun _ hK => wp_app2 s x ho B v xv l1 l2 hs hx' hown hx n hn hlen hB fun a' c' w' h2 h3 h4 h5 => hK _ _ (h a' c' w' h2 h3 h4 h5)
/-- Rows of the call's own, each in a block of its own, told by block G. -/
structure OutR (w : World) (G N : Nat) (rv : Nat → Value) (D : Nat → List Int) : Prop where
  blk : ∃ c, w.heap[G]? = some (.cells c 22) ∧ c.size = N ∧ ∀ k, k < N → c[k]? = some (rv k)
  row : ∀ k, k < N → OwnI w (G + 1) (rv k) (D k)
  sep : ∀ k k', k < N → k' < N → k ≠ k' → (rv k).ownBlock = none ∨ (rv k).ownBlock ≠ (rv k').ownBlock
theorem OutR.cell {w : World} {G N : Nat} {rv : Nat → Value} {D : Nat → List Int} (h : OutR w G N rv D) {k : Nat} (hk : k < N) : w.cell? ⟨G, k, none⟩ = some (rv k) ∧ w.frozen? ⟨G, k, none⟩ = false := by
  obtain ⟨c, hc, -, hz⟩ := h.blk
  constructor
  · simp only [World.cell?, hc]; exact hz k hk
  · simp [World.frozen?, hc]
theorem OutR.lt {w : World} {G N : Nat} {rv : Nat → Value} {D : Nat → List Int} (h : OutR w G N rv D) : G < w.heap.size := by
  obtain ⟨c, hc, -⟩ := h.blk
  exact (Array.getElem?_eq_some_iff.1 hc).1
theorem OutR.below {w w' : World} {G N : Nat} {rv : Nat → Value} {D : Nat → List Int} (h : OutR w G N rv D) (hb : Below w.heap.size w w') : OutR w' G N rv D := by
  have hl := h.lt
  obtain ⟨⟨c, hc, r⟩, h2, h3⟩ := h
  exact ⟨⟨c, (hb.block G hl).trans hc, r⟩, fun k hk => own_below (h2 k hk) hb, h3⟩
/-- A row has grown. -/
theorem OutR.put {w w6 : World} {o : Obj} {G N x : Nat} {rv : Nat → Value} {D : Nat → List Int} {nv : Value} {l : List Int} (h : OutR w G N rv D) (hx : x < N) (hown : OwnI w6 (G + 1) nv l) (hg : (w.alloc o).grownBy w6 (rv x).ownBlock) (ho : nv.ownBlock = (rv x).ownBlock ∨ nv.ownBlock = some (w.heap.size + 1)) :
    OutR (w6.setCell ⟨G, x, none⟩ nv) G N (fun k => if k = x then nv else rv k) (fun k => if k = x then l else D k) := by
  have hl := h.lt
  have hlt : ∀ k, k < N → ∀ g, (rv k).ownBlock = some g → G + 1 ≤ g ∧ g < w.heap.size := fun k hk g hgk => (h.row k hk).lt g hgk
  have hsz : (w.alloc o).heap.size = w.heap.size + 1 := by show (w.heap.push _).size = _; exact Array.size_push _
  refine ⟨?_, fun k hk => ?_, fun k k' hk hk' hne => ?_⟩
  · obtain ⟨c, hc, hs, hz⟩ := h.blk
    have hc6 : w6.heap[G]? = some (.cells c 22) := by
      rw [hg.block G (by omega) (fun e => by have := (hlt x hx G e.symm).1; omega), Below.heap_alloc _ _ _ hl]; exact hc
    refine ⟨c.setIfInBounds x nv, ?_, by simpa using hs, fun k hk => ?_⟩
    · simp only [World.setCell, Array.getElem?_modify, if_pos, hc6]; rfl
    · show _ = some (if k = x then nv else rv k)
      rw [Array.getElem?_setIfInBounds]
      by_cases hxk : x = k
      · rw [if_pos hxk, if_pos (by omega), if_pos hxk.symm]
      · rw [if_neg hxk, hz k hk, if_neg (fun e : k = x => hxk e.symm)]
  · show OwnI _ (G + 1) (if k = x then nv else rv k) (if k = x then l else D k)
    by_cases hkx : k = x
    · rw [if_pos hkx, if_pos hkx]
      exact ownsRow_setCell_below hown (by show G < G + 1; omega) _
    · rw [if_neg hkx, if_neg hkx]
      exact ownsRow_setCell_below ((World.ownsRow.alloc (h.row k hk) o).kept hg (h.sep k x hk hx hkx)) (by show G < G + 1; omega) _
  · show (if k = x then nv else rv k).ownBlock = none ∨ (if k = x then nv else rv k).ownBlock ≠ (if k' = x then nv else rv k').ownBlock
    by_cases hkx : k = x
    · subst hkx
      rw [if_pos rfl, if_neg (fun e => hne e.symm)]
      rcases ho with ho | ho
      · rw [ho]; exact h.sep k k' hk hk' hne
      · refine .inr fun e => ?_
        rw [ho] at e
        have := (hlt k' hk' _ e.symm).2
        omega
    · rw [if_neg hkx]
      by_cases hkx' : k' = x
      · subst hkx'
        rw [if_pos rfl]
        rcases ho with ho | ho
        · rw [ho]; exact h.sep k k' hk hk' hne
        · refine .inr fun e => ?_
          rw [ho] at e
          have := (hlt k hk _ e).2
          omega
      · rw [if_neg hkx']; exact h.sep k k' hk hk' hne
/-- The first d darts' ones that begin at k. -/
def Sp.dts (T : List Int) (d k : Nat) : List Int := ((List.range d).filter fun e => T.getD e 0 == (k : Int)).map fun (e : Nat) => (e : Int)
theorem Sp.dts_succ (T : List Int) (d k : Nat) : Sp.dts T (d + 1) k = if T.getD d 0 = (k : Int) then Sp.dts T d k ++ [(d : Int)] else Sp.dts T d k := by
  unfold Sp.dts
  rw [List.range_succ, List.filter_append]
  by_cases h : T.getD d 0 = (k : Int)
  · have e : (T.getD d 0 == (k : Int)) = true := by rw [h]; exact beq_self_eq_true _
    rw [if_pos h, List.filter_cons, if_pos e, List.filter_nil, List.map_append]
    rfl
  · have e : ¬ (T.getD d 0 == (k : Int)) = true := by rw [beq_eq_false_iff_ne.2 h]; simp
    rw [if_neg h, List.filter_cons, if_neg e, List.filter_nil, List.append_nil]
theorem Sp.dts_len (T : List Int) (d k : Nat) : (Sp.dts T d k).length ≤ d := by
  unfold Sp.dts
  rw [List.length_map]
  have := List.length_filter_le (fun e => T.getD e 0 == (k : Int)) (List.range d)
  rw [List.length_range] at this
  exact this
theorem infoR : (Try.prog.info? 22).map (fun i => (i.zero, i.size, i.bytes)) = some (some (.slice none 0 0), 1, 24) := by kernel_rfl
set_option maxRecDepth 100000 in
set_option maxHeartbeats 4000000 in
theorem outward_any (q : Sp.Net) (N : Nat) (v tv nv cv : Value) (w : World) (hv : NetI w v q tv nv cv) (h240 : q.tail.length ≤ 240) (hN : q.n = (N : Int)) (hN2 : N ≤ 60) (hN1 : 0 < N) (hT : ∀ x ∈ q.tail, 0 ≤ x ∧ x < (N : Int)) :
    Calls Try.prog 25 #[v] w fun e w' => ∃ G rv, e = .returned (.slice (some ⟨G, 0, none⟩) N N) ∧ w.heap.size ≤ G ∧ OutR w' G N rv (Sp.dts q.tail q.tail.length) ∧ Below w.heap.size w w' := by
  obtain ⟨iS, hiS, hS0, hS1, hS2⟩ := info_parts infoR
  obtain ⟨rfl, h1, h2, h3⟩ := hv
  obtain ⟨ta, tc, rfl, -, -, HT⟩ := h1.allD
  obtain ⟨na, nc, rfl, -, -⟩ := h2.form
  obtain ⟨ca, cc, rfl, -, -⟩ := h3.form
  clear h1 h2 h3
  rw [hN]
  have HBX := hide (box_new w (N : Int) (.slice ta q.tail.length tc) (.slice na q.next.length nc) (.slice ca q.cap.length cc))
  obtain ⟨W1, hW1⟩ : ∃ W1, W1 = w.alloc (.cells #[.int .i64 (N : Int), .slice ta q.tail.length tc, .slice na q.next.length nc, .slice ca q.cap.length cc] 25) := ⟨_, rfl⟩
  rw [← hW1] at HBX
  have hb1 : Below w.heap.size w W1 := by rw [hW1]; exact (Below.refl _ w).alloc (Nat.le_refl _) _
  have hs1 : W1.heap.size = w.heap.size + 1 := by rw [hW1]; simp
  have HW : Hid (∀ w', Below (w.heap.size + 1) W1 w' → Below w.heap.size w w') := hide fun w' hb => hb1.trans (hb.mono (by omega))
  have HTC : Hid (∀ k, k < q.tail.length → ∃ b o, ta = some ⟨b, o, none⟩ ∧ ∀ w', Below (w.heap.size + 1) W1 w' → w'.cell? ⟨b, o + k, none⟩ = some (.int .i64 (q.tail.getD k 0))) := hide fun k hk => by
    obtain ⟨b, o, e, -, h⟩ := unhide HT k hk
    exact ⟨b, o, e, fun w' hb => h w' (unhide HW w' hb)⟩
  have HTb := hide hT
  have HD0 : Hid (∀ k, Sp.dts q.tail 0 k = []) := hide fun k => rfl
  have HDs := hide (Sp.dts_succ q.tail)
  have HDl := hide (Sp.dts_len q.tail)
  obtain ⟨P, hP⟩ : ∃ P : Ending → World → Prop, P = fun e w' => ∃ G rv, e = .returned (.slice (some ⟨G, 0, none⟩) N N) ∧ w.heap.size ≤ G ∧ OutR w' G N rv (Sp.dts q.tail q.tail.length) ∧ Below w.heap.size w w' := ⟨_, rfl⟩
  rw [← hP]
  have HP := hide hP
  have HS1 := hide hs1
  clear hP hb1 hT HT hs1 hN
  generalize q.tail = T at *
  subst hW1
  go_enter Try.func25, Try.ntmps25
  go_wp2_with (at_make; refine wpList_make_full _ rfl _ _ 46 rfl (w.heap.size + 1) 22 iS (.slice none 0 0) 1 Try.underlying46 hiS hS0 hS1 .i64 .i64 _ _ N rfl rfl rfl rfl (by rw [hS2]; omega) (by unfold maxLen; omega) (by simp) ?_)
  intro w5 hown5 hg5
  generalize w.alloc (.cells #[.int .i64 (N : Int), .slice ta T.length tc, .slice na q.next.length nc, .slice ca q.cap.length cc] 25) = W1 at *
  have hG : W1.heap.size = w.heap.size + 1 := unhide HS1
  have hb5 : Below (w.heap.size + 1) W1 w5 := (Below.refl _ _).grown hg5 (by omega) (by simp)
  have hout : OutR w5 (w.heap.size + 1) N (fun _ => .slice none 0 0) (Sp.dts T 0) := by
    rcases hown5.2 with ⟨-, h0⟩ | ⟨g, cap, cur, e, -, hc, h1, -, h3, h4⟩
    · omega
    · injection e with e1 _ e2
      injection e1 with e1
      injection e1 with e1
      subst e1 e2
      have hcur : cur.toList = List.replicate N (.slice none 0 0) := by
        rw [← toList_madeCells_one]
        have : cur.toList.length ≤ N * 1 := by simp [h3]
        rw [List.take_of_length_le this] at h4
        exact h4
      refine ⟨⟨cur, hc, by omega, fun k hk => ?_⟩, fun k _ => ⟨by rw [unhide HD0]; rfl, .inl ⟨rfl, by rw [unhide HD0]; rfl⟩⟩, fun _ _ _ _ _ => .inl rfl⟩
      rw [← Array.getElem?_toList, hcur, List.getElem?_replicate, if_pos hk]
  have H5 := hide (And.intro hb5 hout)
  obtain ⟨x0, x1, x2, x3, -⟩ := unhide HBX w5 hb5
  clear hown5 hg5 hb5 hout hG HD0
  go_wp2
  go_loopg [12] T.length (fun g s12 wr => ∃ (d : Nat) (rv : Nat → Value), d + g = T.length ∧ s12 = .int .i64 (d : Int) ∧ Hid (Below (w.heap.size + 1) W1 wr ∧ OutR wr (w.heap.size + 1) N rv (Sp.dts T d)))
  case atStart => exact ⟨0, _, by omega, rfl, H5⟩
  case round =>
    clear H5 x0 x1 x2 x3
    obtain ⟨d, rv, hdg, rfl, HI⟩ := hrel
    by_cases hd : d < T.length
    · have hdI : (d : Int) < (T.length : Int) := by omega
      obtain ⟨g', rfl⟩ : ∃ g', gk = g' + 1 := ⟨gk - 1, by omega⟩
      obtain ⟨tb, tt, rfl, ht⟩ := unhide HTC d hd
      have ct := ht wr (unhide HI).1
      have hxb := unhide HTb _ (Sp.getD_mem hd)
      obtain ⟨x, hx⟩ : ∃ x : Nat, T.getD d 0 = (x : Int) := ⟨(T.getD d 0).toNat, by omega⟩
      rw [hx] at ct hxb
      have hxN : x < N := by omega
      have hxI : (x : Int) < (N : Int) := by omega
      have HX := hide hx
      obtain ⟨cx, fx⟩ := (unhide HI).2.cell hxN
      have hrow := (unhide HI).2.row x hxN
      have hlr := unhide HDl d x
      have hsz := (unhide HI).2.lt
      have cx' : ∀ o : Obj, (wr.alloc o).cell? ⟨w.heap.size + 1, x, none⟩ = some (rv x) := fun o => (((unhide HI).2.below ((Below.refl _ wr).alloc (Nat.le_refl _) o)).cell hxN).1
      obtain ⟨V, hV⟩ : ∃ V, rv x = V := ⟨_, rfl⟩
      rw [hV] at cx cx' hrow
      have HV := hide hV
      have HRw := hide hrow
      clear ht hx hV hrow
      generalize hDD : Sp.dts T d x = DD at *
      have HDD := hide hDD
      clear hDD
      go_wp2_with (at_builtin; refine wpList_app2 (w := wr.alloc (.cells #[.int .i64 (d : Int)] 3)) rfl _ _ rfl (w.heap.size + 1 + 1) _ _ DD [(d : Int)] rfl rfl (World.ownsRow.alloc (unhide HRw) _) (OwnI.ints (own_lit wr 0 _ 1 [(d : Int)] rfl rfl (by omega) (by simp))) (DD.length + 1) (by simp) (by omega) (by simp; omega) ?_)
      intro a6 c6 w6 hown6 hb6 hg6 ho6
      have hb6' : Below (w.heap.size + 1) W1 w6 := ((unhide HI).1.alloc (by omega) _).trans (hb6.mono (by omega))
      have hput := (unhide HI).2.put (o := .cells #[.int .i64 (d : Int)] 3) (nv := .slice a6 (DD.length + 1) c6) hxN hown6 (by rw [unhide HV]; exact hg6) (by rw [unhide HV]; simpa using ho6)
      have HF : Hid (Below (w.heap.size + 1) W1 (w6.setCell ⟨w.heap.size + 1, x, none⟩ (.slice a6 (DD.length + 1) c6)) ∧ OutR (w6.setCell ⟨w.heap.size + 1, x, none⟩ (.slice a6 (DD.length + 1) c6)) (w.heap.size + 1) N (fun k => if k = x then .slice a6 (DD.length + 1) c6 else rv k) (Sp.dts T (d + 1))) := hide ⟨hb6'.setCell (p := ⟨w.heap.size + 1, x, none⟩) (Nat.le_refl _) _, by
        have e : (fun k => if k = x then DD ++ [(d : Int)] else Sp.dts T d k) = Sp.dts T (d + 1) := funext fun k => by
          rw [unhide HDs, unhide HX]
          by_cases hk : k = x
          · rw [if_pos hk, hk, if_pos rfl, unhide HDD]
          · rw [if_neg hk, if_neg (by omega)]
        rw [← e]
        exact hput⟩
      have cx6 : w6.cell? ⟨w.heap.size + 1, x, none⟩ = some V ∧ w6.frozen? ⟨w.heap.size + 1, x, none⟩ = false := by
        have hne : some (w.heap.size + 1) ≠ V.ownBlock := fun e => by
          have := ((unhide HRw).lt _ e.symm).1
          omega
        have e := hg6.block (w.heap.size + 1) (by simp; omega) hne
        have hz := ((unhide HI).2.below ((Below.refl _ wr).alloc (Nat.le_refl _) (.cells #[.int .i64 (d : Int)] 3))).cell hxN
        exact ⟨by rw [World.cell?_of_block e]; exact cx' _, by rw [World.frozen?_of_block e]; exact hz.2⟩
      obtain ⟨cx7, fx7⟩ := cx6
      clear hown6 hb6 hg6 ho6 hb6' hput HI HRw HV cx cx' fx ct
      go_wp2
      go_roundg g'
      case rel => exact ⟨d + 1, _, by omega, by go_num, HF⟩
      case measure => omega
    · have hdI : ¬ (d : Int) < (T.length : Int) := by omega
      obtain rfl : d = T.length := by omega
      have HF : Hid (OutR wr (w.heap.size + 1) N rv (Sp.dts T T.length) ∧ Below w.heap.size w wr) := hide ⟨(unhide HI).2, unhide HW _ (unhide HI).1⟩
      clear HI
      go_wp2
      rw [unhide HP]
      exact ⟨_, rv, rfl, Nat.le_succ _, (unhide HF).1, (unhide HF).2⟩
end Go.Proofs.Ytenffkplneimlab


/- Package tree: Span. -/
namespace Go.Proofs.Ytenffkplneimlab
open Go Go.RowKit

/-- The darts of a list, one behind the other: what is found by them. -/
def Sp.rowL (T : List Int) (root : Int) : List Int → List Int → List Int → List Int × List Int
  | [], fl, up => (fl, up)
  | d :: ds, fl, up =>
    if T.getD (Sp.oth d.toNat) 0 = root ∨ up.getD (T.getD (Sp.oth d.toNat) 0).toNat 0 ≠ -1 then Sp.rowL T root ds fl up
    else Sp.rowL T root ds (fl ++ [T.getD (Sp.oth d.toNat) 0]) (up.set (T.getD (Sp.oth d.toNat) 0).toNat ((Sp.oth d.toNat : Nat) : Int))
theorem Sp.rowGo_L (T : List Int) (root u : Int) : ∀ c d fl up, Sp.rowGo T root u c d fl up = Sp.rowL T root (((List.range' d c).filter fun e => T.getD e 0 == u).map fun (e : Nat) => (e : Int)) fl up
  | 0, d, fl, up => rfl
  | c + 1, d, fl, up => by
    rw [Sp.rowGo, List.range'_succ, List.filter_cons]
    by_cases h : T.getD d 0 = u
    · have e : (T.getD d 0 == u) = true := by rw [h]; exact beq_self_eq_true _
      rw [if_pos h, if_pos e, List.map_cons, Sp.rowL, Int.toNat_natCast]
      split
      · exact Sp.rowGo_L T root u c (d + 1) fl up
      · exact Sp.rowGo_L T root u c (d + 1) _ _
    · have e : ¬ (T.getD d 0 == u) = true := by rw [beq_eq_false_iff_ne.2 h]; simp
      rw [if_neg h, if_neg e]
      exact Sp.rowGo_L T root u c (d + 1) fl up
theorem Sp.rowGo_dts (T : List Int) (root : Int) (u : Nat) (fl up : List Int) : Sp.rowGo T root (u : Int) T.length 0 fl up = Sp.rowL T root (Sp.dts T T.length u) fl up := by
  rw [Sp.rowGo_L]
  unfold Sp.dts
  rw [List.range_eq_range']
theorem Sp.dts_mem {T : List Int} {n u : Nat} {z : Int} (h : z ∈ Sp.dts T n u) : ∃ d : Nat, z = (d : Int) ∧ d < n ∧ T.getD d 0 = (u : Int) := by
  unfold Sp.dts at h
  obtain ⟨d, hd, rfl⟩ := List.mem_map.1 h
  obtain ⟨h1, h2⟩ := List.mem_filter.1 hd
  exact ⟨d, rfl, List.mem_range.1 h1, by simpa using h2⟩
theorem Sp.SpSt.rowL {T : List Int} {root : Int} {N : Nat} (hT : ∀ x ∈ T, 0 ≤ x ∧ x < (N : Int)) (hev : T.length % 2 = 0) {u : Nat} : ∀ (D fl up : List Int), (∀ z ∈ D, ∃ d : Nat, z = (d : Int) ∧ d < T.length ∧ T.getD d 0 = (u : Int)) → (u : Int) ∈ fl → Sp.SpSt T root N fl up → Sp.SpSt T root N (Sp.rowL T root D fl up).1 (Sp.rowL T root D fl up).2
  | [], fl, up, _, _, h => h
  | z :: D, fl, up, hD, hu, h => by
    obtain ⟨d, rfl, hd, ht⟩ := hD z (by simp)
    rw [Sp.rowL, Int.toNat_natCast]
    split
    · exact Sp.SpSt.rowL hT hev D fl up (fun z hz => hD z (List.mem_cons_of_mem _ hz)) hu h
    · rename_i hn
      exact Sp.SpSt.rowL hT hev D _ _ (fun z hz => hD z (List.mem_cons_of_mem _ hz)) (List.mem_append.2 (.inl hu)) (h.find hT hev hd (by rw [ht]; exact hu) hn)
/-- The darts of each vertex, to be read as long as the blocks from G to Q are as they were. -/
theorem OutR.read {w : World} {G N : Nat} {rv : Nat → Value} {D : Nat → List Int} (h : OutR w G N rv D) {w' : World} (hf : ∀ k, G ≤ k → k < w.heap.size → w'.heap[k]? = w.heap[k]?) {k : Nat} (hk : k < N) :
    w'.cell? ⟨G, k, none⟩ = some (rv k) ∧ ∃ a c, rv k = .slice a (D k).length c ∧ ∀ j, j < (D k).length → ∃ g, a = some ⟨g, 0, none⟩ ∧ G ≤ g ∧ g < w.heap.size ∧ w.cell? ⟨g, j, none⟩ = some (.int .i64 ((D k).getD j 0)) := by
  have hl := h.lt
  refine ⟨by rw [World.cell?_of_block (w := w) (hf G (Nat.le_refl _) hl)]; exact (h.cell hk).1, ?_⟩
  have hr := h.row k hk
  have hr' := hr
  rcases hr.2 with ⟨e, h0⟩ | ⟨g, cap, cur, e, hg, -⟩
  · exact ⟨none, 0, by rw [e, h0], fun j hj => by omega⟩
  · refine ⟨some ⟨g, 0, none⟩, cap, e, fun j hj => ⟨g, rfl, by omega, (hr'.lt g (by rw [e]; rfl)).2, ?_⟩⟩
    unfold OwnI at hr'
    rw [e] at hr'
    rw [World.ownsRow.cellAt hr' j (by omega), List.getElem?_map, List.getD_eq_getElem?_getD, List.getElem?_eq_getElem hj]
    rfl
end Go.Proofs.Ytenffkplneimlab


/- Package tree: Span, walked. -/
namespace Go.Proofs.Ytenffkplneimlab
open Go Go.RowKit

/-- What Span goes over. -/
structure SpX (W1 w5 wr : World) (B N G1 G2 : Nat) (fl up : List Int) (qa : Option Addr) (qc : Nat) : Prop where
  bel : Below (B + 1) W1 wr
  up : OwnI wr (B + 1) (.slice (some ⟨G1, 0, none⟩) N N) up
  fr : ∀ k, G2 ≤ k → k < w5.heap.size → wr.heap[k]? = w5.heap[k]?
  q : OwnI wr w5.heap.size (.slice qa fl.length qc) fl
  sz : w5.heap.size < wr.heap.size
theorem SpX.below {W1 w5 wr w' : World} {B N G1 G2 : Nat} {fl up : List Int} {qa : Option Addr} {qc : Nat} (h : SpX W1 w5 wr B N G1 G2 fl up qa qc) (hB : B + 1 ≤ w5.heap.size) (hb : Below wr.heap.size wr w') : SpX W1 w5 w' B N G1 G2 fl up qa qc :=
  ⟨h.bel.trans (hb.mono (by have := h.sz; omega)), own_below h.up hb, fun k h1 h2 => (hb.block k (by have := h.sz; omega)).trans (h.fr k h1 h2), own_below h.q hb, Nat.lt_of_lt_of_le h.sz hb.size⟩
set_option maxRecDepth 100000 in
set_option maxHeartbeats 8000000 in
theorem span_any (q : Sp.Net) (r N : Nat) (v tv nv cv : Value) (w : World) (hv : NetI w v q tv nv cv) (hev : q.tail.length % 2 = 0) (h240 : q.tail.length ≤ 240) (hN : q.n = (N : Int)) (hN2 : N ≤ 60) (hn : q.n ≤ ((q.tail.length / 2 : Nat) : Int) + 1) (hr : r < N) (hT : ∀ x ∈ q.tail, 0 ≤ x ∧ x < (N : Int)) :
    Calls Try.prog 9 #[v, .int .i64 (r : Int)] w fun e w' => ∃ lv, e = .returned lv ∧ OwnI w' w.heap.size lv (Sp.span q (r : Int)) ∧ Below w.heap.size w w' := by
  have hv' := hv
  obtain ⟨rfl, h1, h2, h3⟩ := hv
  obtain ⟨ta, tc, rfl, -, -⟩ := h1.form
  obtain ⟨na, nc, rfl, -, -⟩ := h2.form
  obtain ⟨ca, cc, rfl, -, -⟩ := h3.form
  clear h1 h2 h3
  have HBX := hide (box_new w q.n (.slice ta q.tail.length tc) (.slice na q.next.length nc) (.slice ca q.cap.length cc))
  obtain ⟨W1, hW1⟩ : ∃ W1, W1 = w.alloc (.cells #[.int .i64 q.n, .slice ta q.tail.length tc, .slice na q.next.length nc, .slice ca q.cap.length cc] 25) := ⟨_, rfl⟩
  rw [← hW1] at HBX
  have hb1 : Below w.heap.size w W1 := by rw [hW1]; exact (Below.refl _ w).alloc (Nat.le_refl _) _
  have hs1 : W1.heap.size = w.heap.size + 1 := by rw [hW1]; simp
  have HW : Hid (∀ w', Below (w.heap.size + 1) W1 w' → Below w.heap.size w w') := hide fun w' hb => hb1.trans (hb.mono (by omega))
  have HV : Hid (∀ w', Below (w.heap.size + 1) W1 w' → NetI w' (.agg #[.int .i64 q.n, .slice ta q.tail.length tc, .slice na q.next.length nc, .slice ca q.cap.length cc]) q (.slice ta q.tail.length tc) (.slice na q.next.length nc) (.slice ca q.cap.length cc)) := hide fun w' hb => by
    have hb0 := unhide HW w' hb
    exact ⟨rfl, hv'.tail.below hb0, hv'.next.below hb0, hv'.cap.below hb0⟩
  have HSo := hide (fun w' (hb : Below (w.heap.size + 1) W1 w') => sound_any q _ _ _ _ w' (unhide HV w' hb) hev h240 hn (fun x hx => by rw [hN]; exact hT x hx))
  have HIs := hide (fun w' (hb : Below (w.heap.size + 1) W1 w') => isVertex_any q _ _ _ _ (r : Int) w' (unhide HV w' hb))
  rw [decide_eq_true (show 0 ≤ (r : Int) ∧ (r : Int) < q.n by omega)] at HIs
  have HOu := hide (fun w' (hb : Below (w.heap.size + 1) W1 w') => outward_any q N _ _ _ _ w' (unhide HV w' hb) h240 hN hN2 (by omega) hT)
  have HHd := hide (fun (y : Nat) w' (hy : y < q.tail.length) (hb : Below (w.heap.size + 1) W1 w') => head_any' q _ _ _ _ y w' (unhide HV w' hb) hy hev h240)
  have HTb := hide hT
  have HO := hide (fun (y : Nat) (hy : y < q.tail.length) => oth_lt hy hev)
  have HSp : Hid (Sp.span q (r : Int) = (Sp.spanGo q.tail (r : Int) N 0 [(r : Int)] (List.replicate N (-1))).2) := hide (by unfold Sp.span; rw [hN, Int.toNat_natCast])
  have HFind := hide (fun (fl up : List Int) (h : Sp.SpSt q.tail (r : Int) N fl up) (d : Nat) hd hu hn => h.find hT hev (d := d) hd hu hn)
  have HFst := hide (Sp.SpSt.first q.tail (root := (r : Int)) (N := N) (by omega) (by omega))
  have HDt := hide (Sp.rowGo_dts q.tail (r : Int))
  have HDm := hide (fun (u : Nat) (z : Int) (h : z ∈ Sp.dts q.tail q.tail.length u) => Sp.dts_mem h)
  have HDl := hide (Sp.dts_len q.tail q.tail.length)
  obtain ⟨P, hP⟩ : ∃ P : Ending → World → Prop, P = fun e w' => ∃ lv, e = .returned lv ∧ OwnI w' w.heap.size lv (Sp.span q (r : Int)) ∧ Below w.heap.size w w' := ⟨_, rfl⟩
  rw [← hP]
  have HP := hide hP
  have HS1 := hide hs1
  have hb0 : Below (w.heap.size + 1) W1 W1 := Below.refl _ _
  obtain ⟨x0, x1, x2, x3, -⟩ := unhide HBX W1 hb0
  rw [hN] at HBX HIs HSo HHd HOu x0 hW1 ⊢
  clear hP hb1 hT hev hv' hs1 hN hn HV
  subst hW1
  go_enter Try.func9, Try.ntmps9
  go_wp2_with fail
  go_at_call 22
  generalize w.alloc (.cells #[.int .i64 (N : Int), .slice ta q.tail.length tc, .slice na q.next.length nc, .slice ca q.cap.length cc] 25) = W1 at *
  refine (unhide HSo W1 hb0).mono ?_
  rintro e w2 ⟨rfl, hl2⟩
  have hs1' := unhide HS1
  have hb2 : Below (w.heap.size + 1) W1 w2 := hb0.trans (hl2.mono (by omega))
  clear hl2 x0 x1 x2 x3
  obtain ⟨x0, x1, x2, x3, hz2⟩ := unhide HBX w2 hb2
  go_wp2_with fail
  go_at_call 23
  refine (unhide HIs w2 hb2).mono ?_
  rintro e w3 ⟨rfl, hl3⟩
  have hb3 : Below (w.heap.size + 1) W1 w3 := hb2.trans (hl3.mono (by omega))
  clear hl3 x0 x1 x2 x3 hz2 hb2
  obtain ⟨-, -, -, -, hz3⟩ := unhide HBX w3 hb3
  have y0 := fun o => (unhide HBX (w3.alloc o) (hb3.alloc hz3 o)).1
  have hcr : (w3.alloc (.cells #[.int .i64 (-1)] 3)).cell? ⟨w3.heap.size, 0, none⟩ = some (.int .i64 (-1)) := by
    have e : (w3.alloc (.cells #[.int .i64 (-1)] 3)).heap[w3.heap.size]? = some (.cells #[.int .i64 (-1)] 3) := by
      show (w3.heap.push _)[w3.heap.size]? = _
      rw [Array.getElem?_push, if_pos rfl]
    simp only [World.cell?, e]
    rfl
  have hsz5 : (w3.alloc (.cells #[.int .i64 (-1)] 3)).heap.size = w3.heap.size + 1 := by show (w3.heap.push _).size = _; exact Array.size_push _
  have HRp := hide (repeat_any (-1) w3.heap.size N _ hN2 hcr (by omega))
  rw [hsz5] at HRp
  have HB3 : Hid (Below (w.heap.size + 1) W1 (w3.alloc (.cells #[.int .i64 (-1)] 3))) := hide (hb3.alloc hz3 _)
  clear hcr hsz5 hb3
  go_wp2_with fail
  go_at_call 24
  refine (unhide HRp).mono ?_
  rintro e w4 ⟨rfl, hown4, hl4⟩
  obtain ⟨G1, hG1⟩ : ∃ G1, w3.heap.size + 1 = G1 := ⟨_, rfl⟩
  rw [hG1] at hown4 hl4 ⊢
  have hG1b : w.heap.size + 1 < G1 := by omega
  have hb4 : Below (w.heap.size + 1) W1 w4 := (unhide HB3).trans (hl4.mono (by omega))
  have H4 := hide (And.intro hb4 hown4)
  have hg14 := (hown4.lt G1 rfl).2
  obtain ⟨x0, x1, x2, x3, hz4⟩ := unhide HBX w4 hb4
  clear hb4 hown4 hl4 hG1 HRp HB3 y0 hz3
  go_wp2_with fail
  go_at_call 25
  refine (unhide HOu w4 (unhide H4).1).mono ?_
  rintro e w5 ⟨G2, rv, rfl, hG2, hout, hl5⟩
  have hG2b : G2 < w5.heap.size := hout.lt
  have HOut := hide hout
  have H6 : Hid (SpX W1 w5 (w5.alloc (.cells #[.int .i64 (r : Int)] 3)) w.heap.size N G1 G2 [(r : Int)] (List.replicate N (-1)) (some ⟨w5.heap.size, 0, none⟩) 1) := hide ⟨((unhide H4).1.trans (hl5.mono (by omega))).alloc (by omega) _, own_below (own_below (own_base (unhide H4).2 (by omega)) hl5) ((Below.refl _ w5).alloc (Nat.le_refl _) _), fun k _ h2 => Below.heap_alloc _ _ _ h2, own_lit w5 w5.heap.size w5.heap.size 1 [(r : Int)] rfl rfl (Nat.le_refl _) (by simp), by
    show _ < (w5.heap.push _).size
    rw [Array.size_push]; omega⟩
  clear hout hl5 H4 x0 x1 x2 x3 hz4
  go_wp2
  generalize w5.alloc (.cells #[.int .i64 (r : Int)] 3) = W6 at *
  obtain ⟨SP, hSP⟩ : ∃ SP, SP = Sp.spanGo q.tail (r : Int) N 0 [(r : Int)] (List.replicate N (-1)) := ⟨_, rfl⟩
  rw [← hSP] at HSp
  have HSP := hide hSP
  clear hSP
  have hB5 : w.heap.size + 1 ≤ w5.heap.size := by omega
  go_loopg [7, 8] N (fun g s7 s8 wr => ∃ (i : Nat) (fl up : List Int) (qa : Option Addr) (qc : Nat), i + g = N ∧ s7 = .slice qa fl.length qc ∧ s8 = .int .i64 (i : Int) ∧ Hid (SpX W1 w5 wr w.heap.size N G1 G2 fl up qa qc ∧ Sp.SpSt q.tail (r : Int) N fl up ∧ SP = Sp.spanGo q.tail (r : Int) g i fl up))
  case atStart => exact ⟨0, [(r : Int)], _, _, _, by omega, rfl, rfl, hide ⟨unhide H6, unhide HFst, unhide HSP⟩⟩
  case round =>
    clear H6 HSP HFst
    obtain ⟨i, fl, up, qa, qc, hig, rfl, rfl, HI⟩ := hrel
    have hfl := (unhide HI).2.1.le
    by_cases hi : i < fl.length
    · have hiI : (i : Int) < (fl.length : Int) := by omega
      obtain ⟨g', rfl⟩ : ∃ g', gk = g' + 1 := ⟨gk - 1, by omega⟩
      have hub := (unhide HI).2.1.bd _ (Sp.getD_mem hi)
      obtain ⟨u, hu⟩ : ∃ u : Nat, fl.getD i 0 = (u : Int) := ⟨(fl.getD i 0).toNat, by omega⟩
      rw [hu] at hub
      have huN : u < N := by omega
      have huI : (u : Int) < (N : Int) := by omega
      have HR : Hid (SP = Sp.spanGo q.tail (r : Int) g' (i + 1) (Sp.rowL q.tail (r : Int) (Sp.dts q.tail q.tail.length u) fl up).1 (Sp.rowL q.tail (r : Int) (Sp.dts q.tail q.tail.length u) fl up).2) := hide (by rw [(unhide HI).2.2, Sp.spanGo, if_pos hi, hu, unhide HDt])
      obtain ⟨cd, a, c, hrv, HRow⟩ := (unhide HOut).read (unhide HI).1.fr huN
      rw [hrv] at cd
      have hDl := unhide HDl u
      have HDu := hide (fun z hz => unhide HDm u z hz)
      have HRow2 := hide HRow
      obtain ⟨D, hD⟩ : ∃ D, Sp.dts q.tail q.tail.length u = D := ⟨_, rfl⟩
      rw [hD] at HR cd hDl HDu HRow2
      obtain ⟨g3, cap, hqe, hg3⟩ : ∃ g3 cap, Value.slice qa fl.length qc = .slice (some ⟨g3, 0, none⟩) fl.length cap ∧ w5.heap.size ≤ g3 := by
        rcases (unhide HI).1.q.2 with ⟨-, h0⟩ | ⟨g3, cap, cur, e, hg, -⟩
        · omega
        · exact ⟨g3, cap, e, hg⟩
      injection hqe with hqe1 _ hqe2
      subst hqe1 hqe2
      have cq : wr.cell? ⟨g3, i, none⟩ = some (.int .i64 (u : Int)) := by
        have := (unhide HI).1.q
        rw [World.ownsRow.cellAt this i (by omega), List.getElem?_map, List.getElem?_eq_getElem hi, ← hu, List.getD_eq_getElem?_getD, List.getElem?_eq_getElem hi]
        rfl
      have HI3 : Hid (SpX W1 w5 wr w.heap.size N G1 G2 fl up (some ⟨g3, 0, none⟩) qc ∧ Sp.SpSt q.tail (r : Int) N fl up ∧ (u : Int) ∈ fl) := hide ⟨(unhide HI).1, (unhide HI).2.1, by rw [← hu]; exact Sp.getD_mem hi⟩
      obtain ⟨RW, hRW⟩ : ∃ RW, RW = Sp.rowL q.tail (r : Int) D fl up := ⟨_, rfl⟩
      rw [← hRW] at HR
      have HRW := hide hRW
      clear HI hu hRW hD HRow hrv hub
      go_wp2
      go_loopg [7, 43] D.length (fun c s7 s43 wr => ∃ (j : Nat) (fl up : List Int) (qa : Option Addr) (qc : Nat), j + c = D.length ∧ s7 = .slice qa fl.length qc ∧ s43 = .int .i64 (j : Int) ∧ Hid (SpX W1 w5 wr w.heap.size N G1 G2 fl up qa qc ∧ Sp.SpSt q.tail (r : Int) N fl up ∧ RW = Sp.rowL q.tail (r : Int) (D.drop j) fl up ∧ (u : Int) ∈ fl))
      case atStart => exact ⟨0, fl, up, _, _, by omega, rfl, rfl, hide ⟨(unhide HI3).1, (unhide HI3).2.1, by rw [unhide HRW, List.drop_zero], (unhide HI3).2.2⟩⟩
      case round =>
        clear HI3 HRW cq cd
        obtain ⟨j, fl2, up2, qa2, qc2, hjc, rfl, rfl, HI⟩ := hrel
        by_cases hj : j < D.length
        · have hjI : (j : Int) < (D.length : Int) := by omega
          obtain ⟨c', rfl⟩ : ∃ c', gk = c' + 1 := ⟨gk - 1, by omega⟩
          obtain ⟨d, hd, hdl, htd⟩ := unhide HDu D[j] (List.getElem_mem hj)
          have HRc : Hid (RW = if q.tail.getD (Sp.oth d) 0 = (r : Int) ∨ up2.getD (q.tail.getD (Sp.oth d) 0).toNat 0 ≠ -1 then Sp.rowL q.tail (r : Int) (D.drop (j + 1)) fl2 up2 else Sp.rowL q.tail (r : Int) (D.drop (j + 1)) (fl2 ++ [q.tail.getD (Sp.oth d) 0]) (up2.set (q.tail.getD (Sp.oth d) 0).toNat ((Sp.oth d : Nat) : Int))) := hide (by rw [(unhide HI).2.2.1, List.drop_eq_getElem_cons hj, Sp.rowL, hd, Int.toNat_natCast])
          have hyb := unhide HTb _ (Sp.getD_mem (unhide HO d hdl))
          have HH := hide (fun w' (hb : Below (w.heap.size + 1) W1 w') => unhide HHd d w' hdl hb)
          have HFd := hide (fun hn => unhide HFind fl2 up2 (unhide HI).2.1 d hdl (by rw [htd]; exact (unhide HI).2.2.2) hn)
          obtain ⟨y, hy⟩ : ∃ y : Nat, q.tail.getD (Sp.oth d) 0 = (y : Int) := ⟨(q.tail.getD (Sp.oth d) 0).toNat, by omega⟩
          rw [hy] at hyb HH HRc HFd
          rw [Int.toNat_natCast] at HRc HFd
          have hyN : y < N := by omega
          have hyI : (y : Int) < (N : Int) := by omega
          have hX := xor_oth ⟨d, by omega⟩
          simp only at hX
          obtain ⟨g, hga, hg1, hg2, hcell⟩ := unhide HRow2 j hj
          have cdj : wr.cell? ⟨g, j, none⟩ = some (.int .i64 (d : Int)) := by
            rw [World.cell?_of_block (w := w5) ((unhide HI).1.fr g hg1 hg2), hcell, Sp.getD_eq _ _ hj, hd]
          subst hga
          obtain ⟨x0, x1, x2, x3, hzr⟩ := unhide HBX wr (unhide HI).1.bel
          clear hy hyb hd htd hcell
          go_wp2_with fail
          go_at_call 26
          refine (unhide HH wr (unhide HI).1.bel).mono ?_
          rintro e w8 ⟨rfl, hb8⟩
          have hsp := (unhide HI).1.below hB5 hb8
          have HSt := hide (unhide HI).2.1
          have HMu := hide (unhide HI).2.2.2
          have hul : up2.length = N := (unhide HSt).len
          have hflN : fl2.length ≤ N := (unhide HSt).le
          have cu : w8.cell? ⟨G1, y, none⟩ = some (.int .i64 (up2.getD y 0)) := by
            have := hsp.up
            unfold OwnI at this
            rw [hul] at this
            rw [World.ownsRow.cellAt this y (by omega), List.getElem?_map, List.getD_eq_getElem?_getD, List.getElem?_eq_getElem (by omega)]
            rfl
          have fu : w8.frozen? ⟨G1, y, none⟩ = false := by
            have := hsp.up
            unfold OwnI at this
            rw [hul] at this
            exact World.ownsRow.frozenAt this y
          have HS8 := hide hsp
          have hszz := hsp.sz
          clear hsp HI HH x0 x1 x2 x3 hb8 cdj hzr
          by_cases hyr : y = r
          · have e1 : ((y : Int) == (r : Int)) = true := by rw [hyr]; exact beq_self_eq_true _
            have e2 : (y == r) = true := by rw [hyr]; exact beq_self_eq_true _
            have HR2 : Hid (RW = Sp.rowL q.tail (r : Int) (D.drop (j + 1)) fl2 up2) := hide (by rw [unhide HRc, if_pos (.inl (by rw [hyr]))])
            generalize up2.getD y 0 = uy at *
            clear HRc HFd
            subst hyr
            go_wp2
            go_roundg c'
            case rel => exact ⟨j + 1, fl2, up2, _, _, by omega, rfl, by go_num, hide ⟨unhide HS8, unhide HSt, unhide HR2, unhide HMu⟩⟩
            case measure => omega
          · have hyrI : (y : Int) ≠ (r : Int) := by omega
            have e1 : ((y : Int) == (r : Int)) = false := beq_eq_false_iff_ne.2 hyrI
            have e2 : (y == r) = false := beq_eq_false_iff_ne.2 hyr
            by_cases hm : up2.getD y 0 = -1
            · have hno : ¬ ((y : Int) = (r : Int) ∨ up2.getD y 0 ≠ -1) := fun h => h.elim hyrI (fun h => h hm)
              have HR2 : Hid (RW = Sp.rowL q.tail (r : Int) (D.drop (j + 1)) (fl2 ++ [(y : Int)]) (up2.set y ((Sp.oth d : Nat) : Int))) := hide (by rw [unhide HRc, if_neg hno])
              have HSt2 := hide (unhide HFd hno)
              rw [hm] at cu
              have HA : Hid (Below (w.heap.size + 1) W1 (w8.setCell ⟨G1, y, none⟩ (.int .i64 ((Sp.oth d : Nat) : Int))) ∧ OwnI (w8.setCell ⟨G1, y, none⟩ (.int .i64 ((Sp.oth d : Nat) : Int))) (w.heap.size + 1) (.slice (some ⟨G1, 0, none⟩) N N) (up2.set y ((Sp.oth d : Nat) : Int)) ∧ (∀ k, G2 ≤ k → k < w5.heap.size → (w8.setCell ⟨G1, y, none⟩ (.int .i64 ((Sp.oth d : Nat) : Int))).heap[k]? = w5.heap[k]?) ∧ OwnI (w8.setCell ⟨G1, y, none⟩ (.int .i64 ((Sp.oth d : Nat) : Int))) w5.heap.size (.slice qa2 fl2.length qc2) fl2 ∧ w5.heap.size < (w8.setCell ⟨G1, y, none⟩ (.int .i64 ((Sp.oth d : Nat) : Int))).heap.size) := hide ⟨(unhide HS8).bel.setCell (p := ⟨G1, y, none⟩) (by show w.heap.size + 1 ≤ G1; omega) _, own_setCell (unhide HS8).up y _, fun k h1 h2 => by rw [Below.heap_setCell _ _ _ _ (by show k ≠ G1; omega)]; exact (unhide HS8).fr k h1 h2, ownsRow_setCell_below (unhide HS8).q (by show G1 < w5.heap.size; omega) _, by rw [World.size_setCell]; exact (unhide HS8).sz⟩
              clear HRc HFd hno hm
              go_upto_region 15 with fail
              generalize w8.setCell ⟨G1, y, none⟩ (.int .i64 ((Sp.oth d : Nat) : Int)) = WA at *
              have hszA := (unhide HA).2.2.2.2
              clear cu fu HS8
              go_wp2_with (at_builtin; refine wpList_app (w := WA.alloc (.cells #[.int .i64 (y : Int)] 3)) rfl _ _ rfl w5.heap.size _ _ fl2 [(y : Int)] rfl rfl (World.ownsRow.alloc (unhide HA).2.2.2.1 _) (OwnI.ints (own_lit WA 0 _ 1 [(y : Int)] rfl rfl (by omega) (by simp))) (fl2.length + 1) (by simp) (by omega) (by simp; omega) ?_)
              intro a6 c6 w6 hown6 hb6 hgr6
              have hl6 : (fl2 ++ [(y : Int)]).length = fl2.length + 1 := by simp
              have hbA : Below w5.heap.size WA w6 := ((Below.refl w5.heap.size WA).alloc (by omega) _).trans hb6
              have HF : Hid (SpX W1 w5 w6 w.heap.size N G1 G2 (fl2 ++ [(y : Int)]) (up2.set y ((Sp.oth d : Nat) : Int)) a6 c6) := hide ⟨(unhide HA).1.trans (hbA.mono (by omega)), own_same (unhide HA).2.1 (hbA.block _ (by omega)), fun k h1 h2 => (hbA.block k h2).trans ((unhide HA).2.2.1 k h1 h2), by rw [hl6]; exact hown6, Nat.lt_of_lt_of_le hszA hbA.size⟩
              clear hown6 hb6 hgr6 hbA HA
              go_wp2
              go_roundg c'
              case rel => exact ⟨j + 1, fl2 ++ [(y : Int)], _, a6, c6, by omega, by rw [hl6], by go_num, hide ⟨unhide HF, unhide HSt2, unhide HR2, List.mem_append.2 (.inl (unhide HMu))⟩⟩
              case measure => omega
            · have HR2 : Hid (RW = Sp.rowL q.tail (r : Int) (D.drop (j + 1)) fl2 up2) := hide (by rw [unhide HRc, if_pos (.inr hm)])
              have em : (up2.getD y 0 == -1) = false := beq_eq_false_iff_ne.2 hm
              have ebm : (up2.getD y 0 != -1) = true := by simp only [bne, em]; rfl
              clear HRc HFd
              generalize up2.getD y 0 = uy at *
              go_wp2
              go_roundg c'
              case rel => exact ⟨j + 1, fl2, up2, _, _, by omega, rfl, by go_num, hide ⟨unhide HS8, unhide HSt, unhide HR2, unhide HMu⟩⟩
              case measure => omega
        · have hjI : ¬ (j : Int) < (D.length : Int) := by omega
          have HF : Hid (SP = Sp.spanGo q.tail (r : Int) g' (i + 1) fl2 up2) := hide (by rw [unhide HR, (unhide HI).2.2.1, List.drop_eq_nil_of_le (by omega)]; rfl)
          have HG := hide (And.intro (unhide HI).1 (unhide HI).2.1)
          clear HI HR
          go_wp2
          go_roundg g'
          case rel => exact ⟨i + 1, fl2, up2, qa2, qc2, by omega, rfl, by go_num, hide ⟨(unhide HG).1, (unhide HG).2, unhide HF⟩⟩
          case measure => omega
    · have hiI : ¬ (i : Int) < (fl.length : Int) := by omega
      have HF : Hid (SP = (fl, up)) := hide (by
        rw [(unhide HI).2.2]
        cases gk with
        | zero => rfl
        | succ g' => rw [Sp.spanGo, if_neg hi])
      have HG := hide (unhide HI).1
      clear HI
      go_wp2
      rw [unhide HP]
      exact ⟨_, rfl, by rw [unhide HSp, unhide HF]; exact own_base (unhide HG).up (Nat.le_succ _), unhide HW _ (unhide HG).bel⟩
end Go.Proofs.Ytenffkplneimlab


