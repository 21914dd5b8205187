/- What the proof needs, part 3. -/
import Derived.WalkMore
import Derived.Deep.LoopGhost
import Derived.Test.YtoegjnolccabjabL2
/- A row of numbers in a block of its own, as a function; all but some blocks as they were. -/
namespace Go.Proofs.Ytoegjnolccabjab
open Go Go.RowKit

/-- All but the blocks of p is as it was. -/
structure Bt (p : Nat → Prop) (w w' : World) : Prop where
  os : w'.os = w.os
  tape : w'.tape = w.tape
  output : w'.output = w.output
  size : w.heap.size ≤ w'.heap.size
  block : ∀ k, k < w.heap.size → ¬ p k → w'.heap[k]? = w.heap[k]?
theorem Bt.refl (p : Nat → Prop) (w : World) : Bt p w w := ⟨rfl, rfl, rfl, Nat.le_refl _, fun _ _ _ => rfl⟩
theorem Bt.trans {p : Nat → Prop} {u v w : World} (h : Bt p u v) (k : Bt p v w) : Bt p u w :=
  ⟨k.os.trans h.os, k.tape.trans h.tape, k.output.trans h.output, Nat.le_trans h.size k.size, fun i hi hb => (k.block i (Nat.lt_of_lt_of_le hi h.size) hb).trans (h.block i hi hb)⟩
theorem Bt.mono {p q : Nat → Prop} {w w' : World} (h : Bt p w w') (hq : ∀ k, k < w.heap.size → p k → q k) : Bt q w w' := ⟨h.os, h.tape, h.output, h.size, fun k hk hn => h.block k hk (fun hp => hn (hq k hk hp))⟩
theorem Bt.of {p : Nat → Prop} {w w' : World} (h : Below w.heap.size w w') : Bt p w w' := ⟨h.os, h.tape, h.output, h.size, fun k hk _ => h.block k hk⟩
theorem Bt.below {p : Nat → Prop} {B : Nat} {w w' : World} (h : Bt p w w') (hp : ∀ k, p k → B ≤ k) (hw : B ≤ w.heap.size) : Below B w w' := ⟨h.os, h.tape, h.output, h.size, fun k hk => h.block k (by omega) (fun e => by have := hp k e; omega)⟩
theorem Bt.drew {p : Nat → Prop} {u w : World} (h : Bt p u w) : Bt p u w.drew := h.trans ⟨rfl, rfl, rfl, Nat.le_refl _, fun _ _ _ => rfl⟩
theorem Bt.dn {p : Nat → Prop} {u w : World} (h : Bt p u w) (n : Nat) : Bt p u (w.drewN n) := ⟨h.os, h.tape, h.output, h.size, h.block⟩
theorem Bt.alloc {p : Nat → Prop} {u w : World} (h : Bt p u w) (o : Obj) : Bt p u (w.alloc o) := h.trans (Bt.of ((Below.refl _ w).alloc (Nat.le_refl _) o))
theorem Bt.set {p : Nat → Prop} {u w : World} (h : Bt p u w) {b : Nat} (hb : p b ∨ u.heap.size ≤ b) (j : Nat) (s : Option Nat) (v : Value) : Bt p u (w.setCell ⟨b, j, s⟩ v) := by
  refine ⟨h.os, h.tape, h.output, ?_, fun k hk hn => ?_⟩
  · have := h.size
    have e : (w.setCell ⟨b, j, s⟩ v).heap.size = w.heap.size := by simp [World.setCell]
    omega
  · rw [Below.heap_setCell _ _ _ _ (by
      show k ≠ b
      intro e
      subst e
      rcases hb with hb | hb
      · exact hn hb
      · omega)]
    exact h.block k hk hn
theorem Bt.cell {p : Nat → Prop} {w w' : World} (h : Bt p w w') {a : Addr} (ha : a.block < w.heap.size) (hb : ¬ p a.block) : w'.cell? a = w.cell? a := World.cell?_of_block (w := w) (h.block a.block ha hb)
/-- Block b is a row of the n numbers z. -/
def RowAt (w : World) (b n : Nat) (z : Nat → Int) : Prop := ∃ c, w.heap[b]? = some (.cells c 3) ∧ c.size = n ∧ ∀ j, j < n → c[j]? = some (.int .i64 (z j))
theorem RowAt.lt {w : World} {b n : Nat} {z : Nat → Int} (h : RowAt w b n z) : b < w.heap.size := by
  obtain ⟨c, hc, -⟩ := h
  exact (Array.getElem?_eq_some_iff.1 hc).1
theorem RowAt.cell {w : World} {b n : Nat} {z : Nat → Int} (h : RowAt w b n z) {j : Nat} (hj : j < n) : w.cell? ⟨b, j, none⟩ = some (.int .i64 (z j)) := by
  obtain ⟨c, hc, -, hz⟩ := h
  simp only [World.cell?, hc]
  exact hz j hj
theorem RowAt.frozen {w : World} {b n : Nat} {z : Nat → Int} (h : RowAt w b n z) (j : Nat) (s : Option Nat) : w.frozen? ⟨b, j, s⟩ = false := by
  obtain ⟨c, hc, -⟩ := h
  simp only [World.frozen?, hc]
  simp
theorem RowAt.of_block {w w' : World} {b n : Nat} {z : Nat → Int} (h : RowAt w b n z) (e : w'.heap[b]? = w.heap[b]?) : RowAt w' b n z := by
  obtain ⟨c, hc, h1⟩ := h
  exact ⟨c, by rw [e]; exact hc, h1⟩
theorem RowAt.set {w : World} {b n : Nat} {z : Nat → Int} (h : RowAt w b n z) (j : Nat) (v : Int) : RowAt (w.setCell ⟨b, j, none⟩ (.int .i64 v)) b n (Sp.upd z j v) := by
  obtain ⟨c, hc, hs, hz⟩ := h
  refine ⟨c.setIfInBounds j (.int .i64 v), ?_, by simpa using hs, fun k hk => ?_⟩
  · simp only [World.setCell, Array.getElem?_modify, if_pos, hc]
    rfl
  · rw [Array.getElem?_setIfInBounds]
    by_cases hjk : j = k
    · rw [if_pos hjk, if_pos (by omega), ← hjk, Sp.upd_same]
    · rw [if_neg hjk, hz k hk, Sp.upd_other _ _ (by omega)]
theorem RowAt.set_ne {w : World} {b n : Nat} {z : Nat → Int} (h : RowAt w b n z) {b' : Nat} (hb : b ≠ b') (j : Nat) (s : Option Nat) (v : Value) : RowAt (w.setCell ⟨b', j, s⟩ v) b n z :=
  h.of_block (Below.heap_setCell _ _ _ _ hb)
theorem RowAt.below {w w' : World} {b n : Nat} {z : Nat → Int} (h : RowAt w b n z) (hb : Below w.heap.size w w') : RowAt w' b n z := h.of_block (hb.block b h.lt)
theorem RowAt.bt {p : Nat → Prop} {w w' : World} {b n : Nat} {z : Nat → Int} (h : RowAt w b n z) (hb : Bt p w w') (hp : ¬ p b) : RowAt w' b n z := h.of_block (hb.block b h.lt hp)
theorem RowAt.alloc {w : World} {b n : Nat} {z : Nat → Int} (h : RowAt w b n z) (o : Obj) : RowAt (w.alloc o) b n z := h.below ((Below.refl _ w).alloc (Nat.le_refl _) o)
theorem RowAt.drew {w : World} {b n : Nat} {z : Nat → Int} (h : RowAt w b n z) : RowAt w.drew b n z := h.of_block rfl
theorem RowAt.dn {w : World} {b n : Nat} {z : Nat → Int} (h : RowAt w b n z) (k : Nat) : RowAt (w.drewN k) b n z := h.of_block rfl
theorem RowAt.congr {w : World} {b n : Nat} {z z' : Nat → Int} (h : RowAt w b n z) (e : ∀ j, j < n → z j = z' j) : RowAt w b n z' := by
  obtain ⟨c, hc, hs, hz⟩ := h
  exact ⟨c, hc, hs, fun j hj => by rw [← e j hj]; exact hz j hj⟩
theorem RowAt.own {w : World} {b n B : Nat} {z : Nat → Int} (h : RowAt w b n z) (hB : B ≤ b) (hn : n ≤ 1000000) : OwnI w B (.slice (some ⟨b, 0, none⟩) n n) ((List.range n).map z) := by
  obtain ⟨c, hc, hs, hz⟩ := h
  refine ⟨by simp, .inr ⟨b, n, c, by simp, hB, hc, by simp, by unfold maxLen; omega, by simp [hs], ?_⟩⟩
  apply List.ext_getElem?
  intro j
  simp only [List.length_map, List.length_range, List.getElem?_map, List.getElem?_take, Nat.mul_one]
  by_cases hj : j < n
  · rw [if_pos hj, Array.getElem?_toList, hz j hj, List.getElem?_range hj]; rfl
  · rw [if_neg hj, List.getElem?_eq_none (by simpa using hj)]; rfl
theorem RowAt.ints {w : World} {b n : Nat} {z : Nat → Int} (h : RowAt w b n z) (hn : n ≤ 1000000) : Ints w (.slice (some ⟨b, 0, none⟩) n n) ((List.range n).map z) := (h.own (Nat.zero_le _) hn).ints
theorem RowAt.of_own {w : World} {B b n : Nat} {l : List Int} (h : OwnI w B (.slice (some ⟨b, 0, none⟩) n n) l) (hl : l.length = n) : RowAt w b n (fun j => l.getD j 0) ∧ B ≤ b := by
  obtain ⟨h1, ⟨h2, -⟩ | ⟨g', cap, cur, e, hg, hh, hnc, hcm, hsz, htk⟩⟩ := h
  · cases h2
  · injection e with e1 e2 e3
    injection e1 with e1
    injection e1 with e1 _
    subst e1 e3
    refine ⟨⟨cur, hh, by omega, fun j hj => ?_⟩, hg⟩
    have e4 : cur.toList = l.map (Value.int .i64) := by
      rw [← htk, List.take_of_length_le]
      simp; omega
    show _ = some (Value.int .i64 (l.getD j 0))
    rw [← Array.getElem?_toList, e4, List.getElem?_map, List.getD_eq_getElem?_getD, List.getElem?_eq_getElem (by omega)]; rfl
theorem RowAt.of_rep {w : World} {B b n : Nat} {x : Int} (h : OwnI w B (.slice (some ⟨b, 0, none⟩) n n) (List.replicate n x)) : RowAt w b n (fun _ => x) ∧ B ≤ b := by
  obtain ⟨h1, h2⟩ := RowAt.of_own h (by simp)
  exact ⟨h1.congr fun j hj => by rw [List.getD_eq_getElem?_getD, List.getElem?_replicate, if_pos hj]; rfl, h2⟩
end Go.Proofs.Ytoegjnolccabjab


/- rim: the arcs of a land. -/
namespace Go.Proofs.Ytoegjnolccabjab
open Go Go.RowKit

theorem OwnA.at_ {w : World} {B n c : Nat} {a : Option Addr} {L : List Sp.Arc} (h : OwnA w B (.slice a n c) L) (hp : 0 < L.length) : ∃ g, a = some ⟨g, 0, none⟩ ∧ B ≤ g ∧ g < w.heap.size := by
  have h' := h
  obtain ⟨_, ⟨_, h2⟩ | ⟨g, cap, cur, e, hg, _⟩⟩ := h
  · omega
  · injection e with e1
    subst e1
    exact ⟨g, rfl, hg, (h'.lt g rfl).2⟩
theorem OwnA.cells {w : World} {B g c : Nat} {L : List Sp.Arc} (h : OwnA w B (.slice (some ⟨g, 0, none⟩) L.length c) L) {i : Nat} (hi : i < L.length) : w.cell? ⟨g, i * 3, none⟩ = some (.int .i64 ((L.getD i Sp.arc0).f : Int)) ∧ w.cell? ⟨g, i * 3 + 1, none⟩ = some (.int .i64 ((L.getD i Sp.arc0).t : Int)) ∧ w.cell? ⟨g, i * 3 + 2, none⟩ = some (.int .i64 (L.getD i Sp.arc0).l) := by
  have h' := h
  unfold OwnA at h'
  obtain ⟨g0, g1, g2⟩ := Sp.cells3_get L i hi
  have hc : ∀ j, j < L.length * 3 → w.cell? ⟨g, j, none⟩ = (Sp.cells3 L)[j]? := fun j hj => World.ownsRow.cellAt h' j hj
  exact ⟨(hc _ (by omega)).trans g0, (hc _ (by omega)).trans g1, (hc _ (by omega)).trans g2⟩
set_option maxRecDepth 100000 in
set_option maxHeartbeats 8000000 in
theorem rmarcs_any (F C : List Int) (fv cv : Value) (b0 : Int) (m : Nat) (w : World) (hF : Ints w fv F) (hC : Ints w cv C) (hFl : F.length = m) (hCl : C.length = m) (hev : m % 2 = 0) (hm : m ≤ 999) (hFn : ∀ d, d < m → 0 ≤ F.getD d 0) :
    Calls Try.prog 32 #[.agg #[fv, .slice none 0 0, .int .i64 b0], cv] w fun e w' => ∃ v, e = .returned v ∧ OwnA w' w.heap.size v (Sp.rimL F C m) ∧ Below w.heap.size w w' := by
  obtain ⟨fa, fc, hfe, -, -, HFa⟩ := hF.allA
  obtain ⟨ca, cc, hce, -, -, HCa⟩ := hC.allA
  rw [hFl] at hfe HFa
  rw [hCl] at hce HCa
  subst hfe hce
  have HFn := hide hFn
  have HB1 : Hid (∀ w', Below (w.heap.size + 1) (w.alloc (.cells #[.slice fa m fc, .slice none 0 0, .int .i64 b0] 44)) w' → Below w.heap.size w w' ∧ w'.cell? ⟨w.heap.size, 0, none⟩ = some (.slice fa m fc)) := hide fun w' hb => by
    have hs : (w.alloc (.cells #[.slice fa m fc, .slice none 0 0, .int .i64 b0] 44)).heap.size = w.heap.size + 1 := by simp
    exact ⟨((Below.refl _ w).alloc (Nat.le_refl _) _).trans (hb.mono (by omega)), (hb.cell (p := ⟨w.heap.size, 0, none⟩) (by show w.heap.size < _; omega)).trans (by rw [cell_of_row _ _ _ _ _ _ (heap_alloc_new w _)]; rfl)⟩
  have HS1 : Hid ((w.alloc (.cells #[.slice fa m fc, .slice none 0 0, .int .i64 b0] 44)).heap.size = w.heap.size + 1) := hide (by simp)
  obtain ⟨P, hP⟩ : ∃ P : Ending → World → Prop, P = fun e w' => ∃ v, e = .returned v ∧ OwnA w' w.heap.size v (Sp.rimL F C m) ∧ Below w.heap.size w w' := ⟨_, rfl⟩
  rw [← hP]
  have HP := hide hP
  clear hP hF hC hFl hCl hFn
  have HQ : Hid (Below (w.heap.size + 1) (w.alloc (.cells #[.slice fa m fc, .slice none 0 0, .int .i64 b0] 44)) (w.alloc (.cells #[.slice fa m fc, .slice none 0 0, .int .i64 b0] 44)) ∧ OwnA (w.alloc (.cells #[.slice fa m fc, .slice none 0 0, .int .i64 b0] 44)) (w.heap.size + 1) (.slice none 0 0) (Sp.rimL F C 0)) := hide ⟨Below.refl _ _, OwnA.nil _ _⟩
  go_enter Try.func32, Try.ntmps32
  go_wp2
  go_step3
  go_wp2
  go_step3
  go_wp2
  generalize w.alloc (.cells #[.slice fa m fc, .slice none 0 0, .int .i64 b0] 44) = W1 at *
  go_loopg [5, 14] m (fun g s5 s14 wr => ∃ d : Nat, d + g = m ∧ s14 = .int .i64 (d : Int) ∧ Hid (Below (w.heap.size + 1) W1 wr ∧ OwnA wr (w.heap.size + 1) s5 (Sp.rimL F C d)))
  case atStart => exact ⟨0, by omega, rfl, HQ⟩
  case round =>
    clear HQ
    obtain ⟨d, hdg, rfl, HI⟩ := hrel
    have HSr : Hid (w.heap.size + 1 ≤ wr.heap.size) := hide (by have := (unhide HI).1.size; have := unhide HS1; omega)
    obtain ⟨L, hLe⟩ : ∃ L, Sp.rimL F C d = L := ⟨_, rfl⟩
    have hLd : L.length ≤ d := by rw [← hLe]; exact Sp.rimL_len F C d
    have HLs0 : Hid (Sp.rimL F C (d + 1) = Sp.putA L (Sp.rimA F C d)) := hide (by rw [← hLe]; rfl)
    have hLe' := hide hLe
    rw [hLe] at HI
    clear hLe
    obtain ⟨va, vc, hve, -, -⟩ := (unhide HI).2.arcs.form
    subst hve
    cases gk with
    | succ g' =>
      have hd : d < m := by omega
      have hdI : (d : Int) < (m : Int) := by omega
      have ho := oth_lt hd hev
      have hoI : ((Sp.oth d : Nat) : Int) < (m : Int) := by omega
      have HOt := hide (fun w' => rmother_any d w' (by omega))
      obtain ⟨x, hx⟩ : ∃ x : Nat, F.getD d 0 = (x : Int) := ⟨_, (Int.toNat_of_nonneg (unhide HFn d hd)).symm⟩
      obtain ⟨y, hy⟩ : ∃ y : Nat, F.getD (Sp.oth d) 0 = (y : Int) := ⟨_, (Int.toNat_of_nonneg (unhide HFn _ ho)).symm⟩
      obtain ⟨z, hz⟩ : ∃ z, C.getD d 0 = z := ⟨_, rfl⟩
      have HLs : Hid (Sp.rimL F C (d + 1) = Sp.putA L ⟨x, y, z⟩) := hide (by rw [unhide HLs0]; unfold Sp.rimA; rw [hx, hy, hz]; rfl)
      obtain ⟨b1, o1, rfl, -, hc1⟩ := unhide HFa d hd
      obtain ⟨b2, o2, e2, -, hc2⟩ := unhide HFa _ ho
      obtain ⟨b3, o3, rfl, -, hc3⟩ := unhide HCa d hd
      injection e2 with e2
      injection e2 with q1 q2
      subst q1 q2
      rw [hx] at hc1
      rw [hy] at hc2
      rw [hz] at hc3
      have HRD : Hid (∀ w', Below wr.heap.size wr w' → w'.cell? ⟨w.heap.size, 0, none⟩ = some (.slice (some ⟨b1, o1, none⟩) m fc) ∧ w'.cell? ⟨b1, o1 + d, none⟩ = some (.int .i64 (x : Int)) ∧ w'.cell? ⟨b1, o1 + Sp.oth d, none⟩ = some (.int .i64 (y : Int)) ∧ w'.cell? ⟨b3, o3 + d, none⟩ = some (.int .i64 z)) := hide fun w' hb => by
        have h := unhide HB1 _ ((unhide HI).1.trans (hb.mono (unhide HSr)))
        exact ⟨h.2, hc1 _ h.1, hc2 _ h.1, hc3 _ h.1⟩
      obtain ⟨c0, c1, c2, c3⟩ := unhide HRD wr (Below.refl _ _)
      clear hx hy hz hc1 hc2 hc3 HLs0
      go_upto_region 5 with fail
      go_cut [8] (fun s8 wc6 => ∃ (B8 : Nat) (w6 : World), wc6 = w6 ∧ s8 = .pointer (some ⟨B8, 0, none⟩) ∧ wr.heap.size ≤ B8 ∧ Hid (Below wr.heap.size wr w6 ∧ w6.heap[B8]? = some (.cells #[.int .i64 (x : Int), .int .i64 (y : Int), .int .i64 z] 65)))
      case first =>
        have hbq := (Below.refl wr.heap.size wr).drew
        refine wp_region_G (fun w' => w'.cell? ⟨w.heap.size, 0, none⟩ = some (.slice (some ⟨b1, o1, none⟩) m fc) ∧ w'.cell? ⟨b1, o1 + d, none⟩ = some (.int .i64 (x : Int)) ∧ w'.cell? ⟨b1, o1 + Sp.oth d, none⟩ = some (.int .i64 (y : Int)) ∧ w'.cell? ⟨b3, o3 + d, none⟩ = some (.int .i64 z)) (fun _ => false) (by kernel_rfl) (unhide HRD _ hbq) (fun hHeld => ?_)
        generalize wr.drew = wq at *
        refine wpAnyG_take (v := ?_) 0 (by rfl) (by kernel_rfl) (by kernel_rfl) (by kernel_rfl) (by kernel_rfl) (fun _ _ _ h => h) (Or.inl ⟨by rfl, ?_⟩) (by assumption) ?_
        rotate_left
        · (intro w' hSw; (try dsimp only at hSw); (try simp only [List.getElem_toArray, List.getElem_cons_zero]); go_simp; try (with_reducible rfl))
        simp only [Act.put, List.getElem_toArray, List.getElem_cons_zero, List.setIfInBounds_toArray, List.set_cons_zero, List.set_cons_succ]
        refine wpAnyG_take (v := ?_) 1 (by rfl) (by kernel_rfl) (by kernel_rfl) (by kernel_rfl) (by kernel_rfl) (fun _ _ _ h => h) (Or.inl ⟨by rfl, ?_⟩) (by assumption) ?_
        rotate_left
        · (intro w' hSw; (try dsimp only at hSw); (try simp only [List.getElem_toArray, List.getElem_cons_succ, List.getElem_cons_zero]); go_simp; try (with_reducible rfl))
        simp only [Act.put, List.getElem_toArray, List.getElem_cons_succ, List.getElem_cons_zero, List.setIfInBounds_toArray, List.set_cons_zero, List.set_cons_succ]
        refine wpAnyG_take (v := ?_) 2 (by rfl) (by kernel_rfl) (by kernel_rfl) (by kernel_rfl) (by kernel_rfl) (fun _ _ _ h => h) (Or.inl ⟨by rfl, ?_⟩) (by assumption) ?_
        rotate_left
        · (intro w' hSw; (try dsimp only at hSw); (try simp only [List.getElem_toArray, List.getElem_cons_succ, List.getElem_cons_zero]); go_simp; try (with_reducible rfl))
        simp only [Act.put, List.getElem_toArray, List.getElem_cons_succ, List.getElem_cons_zero, List.setIfInBounds_toArray, List.set_cons_zero, List.set_cons_succ]
        refine wpAnyG_take (v := ?_) 3 (by rfl) (by kernel_rfl) (by kernel_rfl) (by kernel_rfl) (by kernel_rfl) (fun _ _ _ h => h) (Or.inl ⟨by rfl, ?_⟩) (by assumption) ?_
        rotate_left
        · (intro w' hSw; (try dsimp only at hSw); (try simp only [List.getElem_toArray, List.getElem_cons_succ, List.getElem_cons_zero]); go_simp; try (with_reducible rfl))
        simp only [Act.put, List.getElem_toArray, List.getElem_cons_succ, List.getElem_cons_zero, List.setIfInBounds_toArray, List.set_cons_zero, List.set_cons_succ]
        refine wpAnyG_take (v := ?_) 7 (by rfl) (by kernel_rfl) (by kernel_rfl) (by kernel_rfl) (by kernel_rfl) (fun _ _ _ h => h) (Or.inl ⟨by rfl, ?_⟩) (by assumption) ?_
        rotate_left
        · (intro w' hSw; (try dsimp only at hSw); (try simp only [List.getElem_toArray, List.getElem_cons_succ, List.getElem_cons_zero]); go_simp; try (with_reducible rfl))
        simp only [Act.put, List.getElem_toArray, List.getElem_cons_succ, List.getElem_cons_zero, List.setIfInBounds_toArray, List.set_cons_zero, List.set_cons_succ]
        refine wpAnyG_take (v := ?_) 8 (by rfl) (by kernel_rfl) (by kernel_rfl) (by kernel_rfl) (by kernel_rfl) (fun _ _ _ h => h) (Or.inl ⟨by rfl, ?_⟩) (by assumption) ?_
        rotate_left
        · (intro w' hSw; (try dsimp only at hSw); (try simp only [List.getElem_toArray, List.getElem_cons_succ, List.getElem_cons_zero]); go_simp; try (with_reducible rfl))
        simp only [Act.put, List.getElem_toArray, List.getElem_cons_succ, List.getElem_cons_zero, List.setIfInBounds_toArray, List.set_cons_zero, List.set_cons_succ]
        refine wpAnyG_take (v := ?_) 9 (by rfl) (by kernel_rfl) (by kernel_rfl) (by kernel_rfl) (by kernel_rfl) (fun _ _ _ h => h) (Or.inl ⟨by rfl, ?_⟩) (by assumption) ?_
        rotate_left
        · (intro w' hSw; (try dsimp only at hSw); (try simp only [List.getElem_toArray, List.getElem_cons_succ, List.getElem_cons_zero]); go_simp; try (with_reducible rfl))
        simp only [Act.put, List.getElem_toArray, List.getElem_cons_succ, List.getElem_cons_zero, List.setIfInBounds_toArray, List.set_cons_zero, List.set_cons_succ]
        refine wpAnyG_take (v := ?_) 10 (by rfl) (by kernel_rfl) (by kernel_rfl) (by kernel_rfl) (by kernel_rfl) (fun _ _ _ h => h) (Or.inl ⟨by rfl, ?_⟩) (by assumption) ?_
        rotate_left
        · (intro w' hSw; (try dsimp only at hSw); (try simp only [List.getElem_toArray, List.getElem_cons_succ, List.getElem_cons_zero]); go_simp; try (with_reducible rfl))
        simp only [Act.put, List.getElem_toArray, List.getElem_cons_succ, List.getElem_cons_zero, List.setIfInBounds_toArray, List.set_cons_zero, List.set_cons_succ]
        refine wpAnyG_ready [4, 12] (by kernel_rfl) (by simp) ?_
        refine AllReadyG.cons 4 (by rfl) (fun K hK => ?_) ?_
        · simp only [List.getElem_toArray, List.getElem_cons_succ, List.getElem_cons_zero]
          go_simp
          go_at_call 33
          refine (unhide HOt _).mono ?_
          rintro e wc1 ⟨rfl, hlc1⟩
          have hlc1' := hlc1.symm
          clear hlc1
          subst hlc1'
          refine hK.out _ _ (unhide HRD _ hbq) (fun _ => ?_)
          clear hK K
          try simp only [Act.put, List.setIfInBounds_toArray, List.set_cons_zero, List.set_cons_succ]
          refine wpAnyG_take (v := ?_) 5 (by rfl) (by kernel_rfl) (by kernel_rfl) (by kernel_rfl) (by kernel_rfl) (fun _ _ _ h => h) (Or.inl ⟨by rfl, ?_⟩) (by assumption) ?_
          rotate_left
          · (intro w' hSw; (try dsimp only at hSw); (try simp only [List.getElem_toArray, List.getElem_cons_succ, List.getElem_cons_zero]); go_simp; try (with_reducible rfl))
          simp only [Act.put, List.getElem_toArray, List.getElem_cons_succ, List.getElem_cons_zero, List.setIfInBounds_toArray, List.set_cons_zero, List.set_cons_succ]
          refine wpAnyG_take (v := ?_) 6 (by rfl) (by kernel_rfl) (by kernel_rfl) (by kernel_rfl) (by kernel_rfl) (fun _ _ _ h => h) (Or.inl ⟨by rfl, ?_⟩) (by assumption) ?_
          rotate_left
          · (intro w' hSw; (try dsimp only at hSw); (try simp only [List.getElem_toArray, List.getElem_cons_succ, List.getElem_cons_zero]); go_simp; try (with_reducible rfl))
          simp only [Act.put, List.getElem_toArray, List.getElem_cons_succ, List.getElem_cons_zero, List.setIfInBounds_toArray, List.set_cons_zero, List.set_cons_succ]
          refine wpAnyG_take (v := ?_) 11 (by rfl) (by kernel_rfl) (by kernel_rfl) (by kernel_rfl) (by kernel_rfl) (fun _ _ _ h => h) (Or.inl ⟨by rfl, ?_⟩) (by assumption) ?_
          rotate_left
          · (intro w' hSw; (try dsimp only at hSw); (try simp only [List.getElem_toArray, List.getElem_cons_succ, List.getElem_cons_zero]); go_simp; try (with_reducible rfl))
          simp only [Act.put, List.getElem_toArray, List.getElem_cons_succ, List.getElem_cons_zero, List.setIfInBounds_toArray, List.set_cons_zero, List.set_cons_succ]
          refine wpAnyG_ready [12] (by kernel_rfl) (by simp) ?_
          refine AllReadyG.cons 12 (by rfl) (fun K hK => ?_) ?_
          · simp only [List.getElem_toArray, List.getElem_cons_succ, List.getElem_cons_zero]
            go_simp
            have hba := Below.alloc hbq hbq.size (.cells #[.int .i64 0, .int .i64 0, .int .i64 0] 65)
            refine hK.out _ _ (unhide HRD _ hba) (fun _ => ?_)
            clear hK K
            try simp only [Act.put, List.setIfInBounds_toArray, List.set_cons_zero, List.set_cons_succ]
            refine wpAnyG_ready [13] (by kernel_rfl) (by simp) ?_
            refine AllReadyG.cons 13 (by rfl) (fun K hK => ?_) ?_
            · simp only [List.getElem_toArray, List.getElem_cons_succ, List.getElem_cons_zero]
              go_simp
              have hbs := Below.alloc hbq hbq.size (.cells #[.int .i64 (x : Int), .int .i64 (y : Int), .int .i64 z] 65)
              refine hK.out _ _ (unhide HRD _ hbs) (fun _ => ?_)
              clear hK K
              try simp only [Act.put, List.setIfInBounds_toArray, List.set_cons_zero, List.set_cons_succ]
              refine wpAnyG_done (by kernel_rfl) ?_ _
              refine NoPanic.normal ?_
              clear hHeld
              go_wp2
              go_meet
              exact ⟨_, _, rfl, rfl, hbq.size, hide ⟨hbs, heap_alloc_new _ _⟩⟩
            exact AllReadyG.nil
          exact AllReadyG.nil
        refine AllReadyG.cons 12 (by rfl) (fun K hK => ?_) ?_
        · simp only [List.getElem_toArray, List.getElem_cons_succ, List.getElem_cons_zero]
          go_simp
          have hba := Below.alloc hbq hbq.size (.cells #[.int .i64 0, .int .i64 0, .int .i64 0] 65)
          refine hK.out _ _ (unhide HRD _ hba) (fun _ => ?_)
          clear hK K
          try simp only [Act.put, List.setIfInBounds_toArray, List.set_cons_zero, List.set_cons_succ]
          refine wpAnyG_ready [4] (by kernel_rfl) (by simp) ?_
          refine AllReadyG.cons 4 (by rfl) (fun K hK => ?_) ?_
          · simp only [List.getElem_toArray, List.getElem_cons_succ, List.getElem_cons_zero]
            go_simp
            go_at_call 33
            refine (unhide HOt _).mono ?_
            rintro e wc1 ⟨rfl, hlc1⟩
            have hlc1' := hlc1.symm
            clear hlc1
            subst hlc1'
            refine hK.out _ _ (unhide HRD _ hba) (fun _ => ?_)
            clear hK K
            try simp only [Act.put, List.setIfInBounds_toArray, List.set_cons_zero, List.set_cons_succ]
            refine wpAnyG_take (v := ?_) 5 (by rfl) (by kernel_rfl) (by kernel_rfl) (by kernel_rfl) (by kernel_rfl) (fun _ _ _ h => h) (Or.inl ⟨by rfl, ?_⟩) (by assumption) ?_
            rotate_left
            · (intro w' hSw; (try dsimp only at hSw); (try simp only [List.getElem_toArray, List.getElem_cons_succ, List.getElem_cons_zero]); go_simp; try (with_reducible rfl))
            simp only [Act.put, List.getElem_toArray, List.getElem_cons_succ, List.getElem_cons_zero, List.setIfInBounds_toArray, List.set_cons_zero, List.set_cons_succ]
            refine wpAnyG_take (v := ?_) 6 (by rfl) (by kernel_rfl) (by kernel_rfl) (by kernel_rfl) (by kernel_rfl) (fun _ _ _ h => h) (Or.inl ⟨by rfl, ?_⟩) (by assumption) ?_
            rotate_left
            · (intro w' hSw; (try dsimp only at hSw); (try simp only [List.getElem_toArray, List.getElem_cons_succ, List.getElem_cons_zero]); go_simp; try (with_reducible rfl))
            simp only [Act.put, List.getElem_toArray, List.getElem_cons_succ, List.getElem_cons_zero, List.setIfInBounds_toArray, List.set_cons_zero, List.set_cons_succ]
            refine wpAnyG_take (v := ?_) 11 (by rfl) (by kernel_rfl) (by kernel_rfl) (by kernel_rfl) (by kernel_rfl) (fun _ _ _ h => h) (Or.inl ⟨by rfl, ?_⟩) (by assumption) ?_
            rotate_left
            · (intro w' hSw; (try dsimp only at hSw); (try simp only [List.getElem_toArray, List.getElem_cons_succ, List.getElem_cons_zero]); go_simp; try (with_reducible rfl))
            simp only [Act.put, List.getElem_toArray, List.getElem_cons_succ, List.getElem_cons_zero, List.setIfInBounds_toArray, List.set_cons_zero, List.set_cons_succ]
            refine wpAnyG_ready [13] (by kernel_rfl) (by simp) ?_
            refine AllReadyG.cons 13 (by rfl) (fun K hK => ?_) ?_
            · simp only [List.getElem_toArray, List.getElem_cons_succ, List.getElem_cons_zero]
              go_simp
              have hbs := Below.alloc hbq hbq.size (.cells #[.int .i64 (x : Int), .int .i64 (y : Int), .int .i64 z] 65)
              refine hK.out _ _ (unhide HRD _ hbs) (fun _ => ?_)
              clear hK K
              try simp only [Act.put, List.setIfInBounds_toArray, List.set_cons_zero, List.set_cons_succ]
              refine wpAnyG_done (by kernel_rfl) ?_ _
              refine NoPanic.normal ?_
              clear hHeld
              go_wp2
              go_meet
              exact ⟨_, _, rfl, rfl, hbq.size, hide ⟨hbs, heap_alloc_new _ _⟩⟩
            exact AllReadyG.nil
          exact AllReadyG.nil
        exact AllReadyG.nil
      case rest =>
        obtain ⟨B8, w6, hw6, h8, hB8, HA⟩ := hcut
        have hw6' := hw6.symm
        subst hw6'
        subst h8
        clear hw6
        clear c0 c1 c2 c3 HRD HOt
        have HA6 := HA
        have HO6 := hide ((unhide HI).2.below (unhide HA).1)
        have HK8 : Hid (∀ w', Below w6.heap.size w6 w' → B8 < w'.heap.size ∧ w'.cell? ⟨B8, 0, none⟩ = some (.int .i64 (x : Int)) ∧ w'.cell? ⟨B8, 1, none⟩ = some (.int .i64 (y : Int)) ∧ w'.cell? ⟨B8, 2, none⟩ = some (.int .i64 z)) := hide fun w' hb => by
          have hlt : B8 < w6.heap.size := (Array.getElem?_eq_some_iff.1 (unhide HA).2).1
          have e := hb.block B8 hlt
          rw [(unhide HA).2] at e
          refine ⟨by have := hb.size; omega, ?_, ?_, ?_⟩ <;> rw [cell_of_row _ _ _ _ _ _ e] <;> rfl
        have HN0 : Hid (∀ j, j < 0 → ¬ ((L.getD j Sp.arc0).f = x ∧ (L.getD j Sp.arc0).t = y)) := hide fun j hj => by omega
        have HBr := hide (Below.refl w6.heap.size w6)
        clear HA
        go_wp2
        go_loopg [33] L.length (fun g2 s33 wr => ∃ i : Nat, i + g2 = L.length ∧ s33 = .int .i64 (i : Int) ∧ Hid (Below w6.heap.size w6 wr) ∧ Hid (∀ j, j < i → ¬ ((L.getD j Sp.arc0).f = x ∧ (L.getD j Sp.arc0).t = y)))
        case atStart => exact ⟨0, by omega, rfl, HBr, HN0⟩
        case round =>
          clear HBr HN0
          obtain ⟨i, hig, rfl, HB, HN⟩ := hrel
          cases gk with
          | succ g2' =>
            have hi : i < L.length := by omega
            have hiI : (i : Int) < (L.length : Int) := by omega
            obtain ⟨gL, rfl, hgL, hgL2⟩ := (unhide HO6).at_ (by omega)
            obtain ⟨c0, c1, c2⟩ := ((unhide HO6).below (unhide HB)).cells hi
            obtain ⟨⟨p, q, l⟩, ha⟩ : ∃ a, L.getD i Sp.arc0 = a := ⟨_, rfl⟩
            rw [ha] at c0 c1 c2
            have HLi := hide ha
            clear ha
            go_upto_region 9 with fail
            obtain ⟨wt, hwt⟩ : ∃ wt, wr.alloc (.cells #[.int .i64 (p : Int), .int .i64 (q : Int), .int .i64 l] 65) = wt := ⟨_, rfl⟩
            rw [hwt]
            obtain ⟨k0, k1, k2⟩ := arc_new wr (.int .i64 (p : Int)) (.int .i64 (q : Int)) (.int .i64 l)
            rw [hwt] at k0 k1 k2
            have HBt := hide ((unhide HB).alloc (unhide HB).size (.cells #[.int .i64 (p : Int), .int .i64 (q : Int), .int .i64 l] 65))
            rw [hwt] at HBt
            obtain ⟨-, a0, a1, a2⟩ := unhide HK8 wt (unhide HBt)
            clear hwt c0 c1 c2
            by_cases hpx : p = x
            · have hpb : ((p : Int) == (x : Int)) = true := beq_iff_eq.2 (by rw [hpx])
              by_cases hqy : q = y
              · have hqb : ((q : Int) == (y : Int)) = true := beq_iff_eq.2 (by rw [hqy])
                have fz := fun k => ((unhide HO6).below (unhide HBt)).frozen k
                have d2 := (((unhide HO6).below (unhide HBt)).cells hi).2.2
                rw [unhide HLi] at d2
                by_cases hlz : l ≤ z
                · have hmin : min l z = l := Int.min_eq_left hlz
                  have HF : Hid (Below (w.heap.size + 1) W1 (wt.setCell ⟨gL, i * 3 + 2, none⟩ (.int .i64 (min l z))) ∧ OwnA (wt.setCell ⟨gL, i * 3 + 2, none⟩ (.int .i64 (min l z))) (w.heap.size + 1) (.slice (some ⟨gL, 0, none⟩) L.length vc) (Sp.rimL F C (d + 1))) := hide ⟨((unhide HI).1.trans ((unhide HA6).1.trans ((unhide HBt).mono (unhide HA6).1.size) |>.mono (unhide HSr))).setCell (p := ⟨gL, i * 3 + 2, none⟩) (by exact hgL) _, by
                    rw [unhide HLs, Sp.putA_at L ⟨x, y, z⟩ i hi (unhide HN) (by rw [unhide HLi]; exact ⟨hpx, hqy⟩), unhide HLi]
                    have h := ((unhide HO6).below (unhide HBt)).set rfl i (min l z)
                    rw [unhide HLi] at h
                    exact h⟩
                  rw [hmin] at HF
                  go_wp2
                  go_roundg g'
                  case rel => exact ⟨d + 1, by omega, by go_num, HF⟩
                  case measure => omega
                · have hmin : min l z = z := Int.min_eq_right (by omega)
                  have HF : Hid (Below (w.heap.size + 1) W1 (wt.setCell ⟨gL, i * 3 + 2, none⟩ (.int .i64 (min l z))) ∧ OwnA (wt.setCell ⟨gL, i * 3 + 2, none⟩ (.int .i64 (min l z))) (w.heap.size + 1) (.slice (some ⟨gL, 0, none⟩) L.length vc) (Sp.rimL F C (d + 1))) := hide ⟨((unhide HI).1.trans ((unhide HA6).1.trans ((unhide HBt).mono (unhide HA6).1.size) |>.mono (unhide HSr))).setCell (p := ⟨gL, i * 3 + 2, none⟩) (by exact hgL) _, by
                    rw [unhide HLs, Sp.putA_at L ⟨x, y, z⟩ i hi (unhide HN) (by rw [unhide HLi]; exact ⟨hpx, hqy⟩), unhide HLi]
                    have h := ((unhide HO6).below (unhide HBt)).set rfl i (min l z)
                    rw [unhide HLi] at h
                    exact h⟩
                  rw [hmin] at HF
                  go_wp2
                  go_roundg g'
                  case rel => exact ⟨d + 1, by omega, by go_num, HF⟩
                  case measure => omega
              · have hqb : ((q : Int) == (y : Int)) = false := beq_eq_false_iff_ne.2 (by omega)
                have HN2 : Hid (∀ j, j < i + 1 → ¬ ((L.getD j Sp.arc0).f = x ∧ (L.getD j Sp.arc0).t = y)) := hide fun j hj => by
                  by_cases e : j = i
                  · subst e; rw [unhide HLi]; exact fun hh => hqy hh.2
                  · exact unhide HN j (by omega)
                go_wp2
                go_roundg g2'
                case rel => exact ⟨i + 1, by omega, by go_num, HBt, HN2⟩
                case measure => omega
            · have hpb : ((p : Int) == (x : Int)) = false := beq_eq_false_iff_ne.2 (by omega)
              have HN2 : Hid (∀ j, j < i + 1 → ¬ ((L.getD j Sp.arc0).f = x ∧ (L.getD j Sp.arc0).t = y)) := hide fun j hj => by
                by_cases e : j = i
                · subst e; rw [unhide HLi]; exact fun hh => hpx hh.1
                · exact unhide HN j (by omega)
              go_wp2
              go_roundg g2'
              case rel => exact ⟨i + 1, by omega, by go_num, HBt, HN2⟩
              case measure => omega
          | zero =>
            obtain rfl : i = L.length := by omega
            have hnn : ¬ ((L.length : Nat) : Int) < (L.length : Int) := by omega
            obtain ⟨-, a0, a1, a2⟩ := unhide HK8 wr (unhide HB)
            have HO7 := hide ((unhide HO6).below (unhide HB))
            have HB7 := hide ((unhide HI).1.trans (((unhide HA6).1.trans ((unhide HB).mono (unhide HA6).1.size)).mono (unhide HSr)))
            go_wp2_with (at_builtin; refine wpList_appA (w := wr.alloc (.cells #[.int .i64 (x : Int), .int .i64 (y : Int), .int .i64 z] 65)) rfl _ _ rfl (w.heap.size + 1) _ _ L [⟨x, y, z⟩] rfl rfl ((unhide HO7).alloc _) (OwnA.arcs (own_litA _ 0 _ 1 [⟨x, y, z⟩] _ rfl rfl rfl (Nat.zero_le _) (by simp))) (L.length + 1) rfl (by omega) (by have h1 := (unhide HB7).size; have h2 := unhide HS1; simp; omega) ?_)
            intro a9 c9 w9 hown9 hg9 ho9
            have HF : Hid (Below (w.heap.size + 1) W1 w9 ∧ OwnA w9 (w.heap.size + 1) (.slice a9 (L.length + 1) c9) (Sp.rimL F C (d + 1))) := hide ⟨((unhide HB7).alloc (by have h1 := (unhide HB7).size; have h2 := unhide HS1; omega) _).grown hg9 (by have h1 := (unhide HB7).size; have h2 := unhide HS1; simp; omega) (fun g hg => ((unhide HO7).lt g hg).1), by rw [unhide HLs, Sp.putA_end L ⟨x, y, z⟩ (unhide HN)]; exact hown9⟩
            clear hown9 hg9 ho9 a0 a1 a2
            go_wp2
            go_roundg g'
            case rel => exact ⟨d + 1, by omega, by go_num, HF⟩
            case measure => omega
    | zero =>
      obtain rfl : d = m := by omega
      have hnn : ¬ (d : Int) < (d : Int) := by omega
      go_wp2
      try rw [Exit.noGoto_ret]
      rw [unhide HP]
      exact ⟨_, rfl, by rw [unhide hLe']; exact (unhide HI).2.base (by omega), (unhide HB1 _ (unhide HI).1).1⟩
end Go.Proofs.Ytoegjnolccabjab


/- The walks of the second law's within and lay, of the second reference's Head. -/
namespace Go.Proofs.Ytoegjnolccabjab
open Go Go.RowKit

/-- A row of the caller's own, another one laid behind a dart. -/
def Sp.layIn (l : List Int) (bh d : Nat) : List Int := (l.set d (l.getD bh 0)).set bh (d : Int)
end Go.Proofs.Ytoegjnolccabjab


/- The walks of the second reference's About and Face, where the way comes round. -/
namespace Go.Proofs.Ytoegjnolccabjab
open Go Go.RowKit

/-- What comes behind each dart about its face. -/
def Sp.behindL (nx : List Int) : List Int := (List.range nx.length).map fun d => nx.getD (Sp.oth d) 0
theorem Sp.behindL_len (nx : List Int) : (Sp.behindL nx).length = nx.length := by simp [Sp.behindL]
theorem Sp.behindL_get (nx : List Int) (j : Nat) (h : j < nx.length) : (Sp.behindL nx).getD j 0 = nx.getD (Sp.oth j) 0 := by
  rw [Sp.getD_eq _ _ (by rw [Sp.behindL_len]; exact h)]
  simp [Sp.behindL]
theorem Sp.behindL_bd (nx : List Int) (hev : nx.length % 2 = 0) (hx : ∀ x ∈ nx, 0 ≤ x ∧ x < nx.length) : ∀ x ∈ Sp.behindL nx, 0 ≤ x ∧ x < nx.length := by
  intro x hm
  obtain ⟨d, hd, rfl⟩ := List.mem_map.1 hm
  exact hx _ (Sp.getD_mem (oth_lt (List.mem_range.1 hd) hev))
end Go.Proofs.Ytoegjnolccabjab


/- The walk of package rot: rounds. -/
namespace Go.Proofs.Ytoegjnolccabjab
open Go Go.RowKit

/-- One round, from d on: what was met, and the round's darts behind it, where it comes back to its least. -/
def Sp.walkR (st : List Int) (least : Int) : Nat → Int → List Int → Option (List Int)
  | 0, _, _ => none
  | f + 1, d, row => if d ∈ row then (if d = least then some row else none) else Sp.walkR st least f (st.getD d.toNat 0) (row ++ [d])
/-- All rounds, as the row of their darts and the ends of each. -/
def Sp.rgo (st : List Int) : Nat → Nat → List Int → List (Nat × Nat) → Option (List Int × List (Nat × Nat))
  | 0, _, row, ps => some (row, ps)
  | f + 1, k, row, ps => if (k : Int) ∈ row then Sp.rgo st f (k + 1) row ps else
      match Sp.walkR st k (st.length + 1 - row.length) k row with
      | some row' => Sp.rgo st f (k + 1) row' (ps ++ [(row.length, row'.length)])
      | none => none
def Sp.rnds (st : List Int) : Option (List Int × List (Nat × Nat)) := Sp.rgo st st.length 0 [] []
def Sp.metL (n : Nat) (row : List Int) : List Bool := (List.range n).map fun (d : Nat) => decide ((d : Int) ∈ row)
theorem Sp.metL_len (n : Nat) (row : List Int) : (Sp.metL n row).length = n := by simp [Sp.metL]
theorem Sp.metL_get (n : Nat) (row : List Int) (d : Nat) (h : d < (Sp.metL n row).length) : (Sp.metL n row)[d] = decide ((d : Int) ∈ row) := by simp [Sp.metL]
theorem Sp.metL_set (n : Nat) (row : List Int) (d : Nat) : (Sp.metL n row).set d true = Sp.metL n (row ++ [(d : Int)]) := by
  apply List.ext_getElem
  · simp [Sp.metL]
  · intro i h1 h2
    rw [List.getElem_set, Sp.metL_get n (row ++ [(d : Int)]) i h2]
    split
    · rename_i h; subst h; simp
    · rename_i h
      rw [Sp.metL_get]
      have : ¬ ((i : Int) = (d : Int)) := by omega
      simp [this]
theorem Sp.metL_nil (n : Nat) : Sp.metL n [] = List.replicate n false := by
  apply List.ext_getElem
  · simp [Sp.metL]
  · intro i h1 h2; simp [Sp.metL]
/-- A row of numbers below n, each once, is no longer than n. -/
theorem nodup_le : ∀ (n : Nat) (l : List Int), l.Nodup → (∀ x ∈ l, 0 ≤ x ∧ x < (n : Int)) → l.length ≤ n
  | 0, l, _, h => by
    cases l with
    | nil => simp
    | cons x r => have := h x (by simp); omega
  | n + 1, l, hd, h => by
    have h1 : (l.erase (n : Int)).length ≤ n := nodup_le n _ (hd.erase _) fun x hx => by
      have h2 := (List.Nodup.mem_erase_iff hd).1 hx
      have h3 := h x h2.2
      have h4 := h2.1
      omega
    have h2 := List.length_erase (a := (n : Int)) (l := l)
    split at h2 <;> omega

theorem infoL : (Try.prog.info? 22).map (fun i => (i.zero, i.size, i.bytes)) = some (some (.slice none 0 0), 1, 24) := by kernel_rfl
theorem infoB : (Try.prog.info? 4).map (fun i => (i.zero, i.size, i.bytes)) = some (some (.bool false), 1, 1) := by kernel_rfl
abbrev OwnB (w : World) (base : Nat) (v : Value) (l : List Bool) : Prop := w.ownsRow base 4 1 v l.length (l.map Value.bool)
def pieceV (g : Nat) (p : Nat × Nat) : Value := .slice (some ⟨g, p.1, none⟩) (p.2 - p.1) (p.2 - p.1)
theorem owns_base {w : World} {base base' : Nat} {e : TypeId} {size : Nat} {v : Value} {n : Nat} {xs : List Value} (h : w.ownsRow base e size v n xs) (hb : base' ≤ base) : w.ownsRow base' e size v n xs := by
  obtain ⟨h1, h2 | ⟨g, cap, cur, e, hg, r⟩⟩ := h
  · exact ⟨h1, .inl h2⟩
  · exact ⟨h1, .inr ⟨g, cap, cur, e, Nat.le_trans hb hg, r⟩⟩
/-- What rounds leaves. -/
def RoundsPost (st : List Int) (w : World) (e : Ending) (w' : World) : Prop :=
  Below w.heap.size w w' ∧ (∀ row ps, Sp.rnds st = some (row, ps) → ∃ lv, e = .returned (.tuple #[lv, .bool true]) ∧ OwnI w' w.heap.size (.slice (some ⟨w.heap.size, 0, none⟩) row.length st.length) row ∧ w'.ownsRow w.heap.size 22 1 lv ps.length (ps.map (pieceV w.heap.size)))
    ∧ (Sp.rnds st = none → e = .returned (.tuple #[.slice none 0 0, .bool false]))
/-- The three rows that rounds keeps. -/
structure RKeep (B M n : Nat) (W wr : World) (row : List Int) (ps : List (Nat × Nat)) (lq : Value) : Prop where
  rw1 : OwnI wr B (.slice (some ⟨B, 0, none⟩) row.length n) row
  met : OwnB wr B (.slice (some ⟨M, 0, none⟩) n n) (Sp.metL n row)
  ls : wr.ownsRow (M + 1) 22 1 lq ps.length (ps.map (pieceV B))
  bel : Below B W wr
  big : M < wr.heap.size
  lt : B < M
structure RFit (n : Nat) (row : List Int) : Prop where
  nd : row.Nodup
  bd : ∀ x ∈ row, 0 ≤ x ∧ x < (n : Int)
theorem RFit.le {n : Nat} {row : List Int} (h : RFit n row) : row.length ≤ n := nodup_le n row h.nd h.bd
theorem RFit.snoc {n : Nat} {row : List Int} (h : RFit n row) (d : Nat) (hd : d < n) (hn : ¬ (d : Int) ∈ row) : RFit n (row ++ [(d : Int)]) := by
  refine ⟨?_, ?_⟩
  · rw [List.nodup_append]
    refine ⟨h.nd, by simp, ?_⟩
    intro a ha b hb
    rw [List.mem_singleton] at hb
    subst hb
    intro e; subst e; exact hn ha
  · intro x hx
    rcases List.mem_append.1 hx with hx | hx
    · exact h.bd x hx
    · rw [List.mem_singleton] at hx; subst hx; omega
theorem RKeep.metCell {B M n : Nat} {W wr : World} {row : List Int} {ps : List (Nat × Nat)} {lq : Value} (h : RKeep B M n W wr row ps lq) (d : Nat) (hd : d < n) : wr.cell? ⟨M, d, none⟩ = some (.bool (decide ((d : Int) ∈ row))) := by
  have h1 := h.met
  unfold OwnB at h1
  rw [Sp.metL_len] at h1
  rw [World.ownsRow.cellAt h1 d (by omega)]
  rw [List.getElem?_eq_getElem (by simp [Sp.metL_len]; exact hd)]
  simp [Sp.metL]
theorem RKeep.metOpen {B M n : Nat} {W wr : World} {row : List Int} {ps : List (Nat × Nat)} {lq : Value} (h : RKeep B M n W wr row ps lq) (d : Nat) : wr.frozen? ⟨M, d, none⟩ = false := by
  have h1 := h.met
  unfold OwnB at h1
  rw [Sp.metL_len] at h1
  exact World.ownsRow.frozenAt h1 d
theorem made_bools' (n : Nat) : (madeCells #[Value.bool false] n).toList = (List.replicate n false).map Value.bool := by
  rw [toList_madeCells_one]
  simp
/-- A dart met: its mark is set, then it is laid behind the row. -/
theorem RKeep.push {B M n : Nat} {W wr : World} {row : List Int} {ps : List (Nat × Nat)} {lq : Value} (h : RKeep B M n W wr row ps lq) (d : Nat) (ob : Obj) (w6 : World) (hgr : ((wr.setCell ⟨M, d, none⟩ (.bool true)).alloc ob).grownBy w6 (some B))
    (hrow : w6.ownsRow B 3 1 (.slice (some ⟨B, 0, none⟩) (row.length + 1) n) (row.length + 1) (row.map (Value.int .i64) ++ [.int .i64 (d : Int)])) : RKeep B M n W w6 (row ++ [(d : Int)]) ps lq := by
  have hlt := h.lt
  have hbig := h.big
  have hm := h.met
  unfold OwnB at hm
  rw [Sp.metL_len] at hm
  obtain ⟨hm2, hg2⟩ := World.ownsRow.stored hm d (.bool true)
  have hls : (wr.setCell ⟨M, d, none⟩ (.bool true)).ownsRow (M + 1) 22 1 lq ps.length (ps.map (pieceV B)) := h.ls.kept hg2 (by
    cases hq : lq.ownBlock with
    | none => exact .inl rfl
    | some q => exact .inr (by have := (h.ls.lt q hq).1; simp; omega))
  have hsz : (wr.setCell ⟨M, d, none⟩ (.bool true)).heap.size = wr.heap.size := by simp
  refine ⟨?_, ?_, ?_, ?_, ?_, hlt⟩
  · show w6.ownsRow B 3 1 (.slice (some ⟨B, 0, none⟩) (row ++ [(d : Int)]).length n) (row ++ [(d : Int)]).length ((row ++ [(d : Int)]).map (Value.int .i64))
    simpa using hrow
  · have h3 := (hm2.alloc ob).kept hgr (.inr (by simp [Value.ownBlock]; omega))
    show w6.ownsRow B 4 1 _ (Sp.metL n (row ++ [(d : Int)])).length ((Sp.metL n (row ++ [(d : Int)])).map Value.bool)
    rw [Sp.metL_len, ← Sp.metL_set, List.map_set]
    exact h3
  · refine (hls.alloc ob).kept hgr ?_
    cases hq : lq.ownBlock with
    | none => exact .inl rfl
    | some q => exact .inr (by have := (h.ls.lt q hq).1; simp; omega)
  · exact ((h.bel.grown hg2 (by omega) (by simp; omega)).alloc (by rw [hsz]; omega) ob).grown hgr (by simp; omega) (by simp)
  · have := hgr.size
    simp at this
    omega
/-- A round laid behind the others. -/
theorem RKeep.round {B M n : Nat} {W wr : World} {row : List Int} {ps : List (Nat × Nat)} {lq lv : Value} (h : RKeep B M n W wr row ps lq) (b : Nat) (ob : Obj) (w6 : World) (hgr : (wr.alloc ob).grownBy w6 lq.ownBlock)
    (hls : w6.ownsRow (M + 1) 22 1 lv (ps.length + 1) (ps.map (pieceV B) ++ [pieceV B (b, row.length)])) : RKeep B M n W w6 row (ps ++ [(b, row.length)]) lv := by
  have hlt := h.lt
  have hbig := h.big
  have hfar : ∀ x, x ≤ M → some x ≠ lq.ownBlock := fun x hx e => by
    have := (h.ls.lt x e.symm).1
    omega
  refine ⟨?_, ?_, ?_, ?_, ?_, hlt⟩
  · exact (World.ownsRow.alloc h.rw1 ob).kept hgr (.inr (hfar B (by omega)))
  · exact (World.ownsRow.alloc h.met ob).kept hgr (.inr (hfar M (by omega)))
  · simpa using hls
  · exact (h.bel.alloc (by omega) ob).grown hgr (by simp; omega) fun k hk => by have := (h.ls.lt k hk).1; omega
  · have := hgr.size
    simp at this
    omega
end Go.Proofs.Ytoegjnolccabjab


/- Next ones that are each one's once: from each dart on the way comes round. -/
namespace Go.Proofs.Ytoegjnolccabjab
open Go Go.RowKit

structure Sp.Perm (st : List Int) : Prop where
  bd : ∀ x ∈ st, 0 ≤ x ∧ x < (st.length : Int)
  inj : ∀ i j, i < st.length → j < st.length → st.getD i 0 = st.getD j 0 → i = j
theorem least_of {p : Nat → Prop} (h : ∃ n, p n) : ∃ n, p n ∧ ∀ m, p m → n ≤ m := by
  obtain ⟨n, hn⟩ := h
  induction n using Nat.strongRecOn with
  | _ n ih =>
    by_cases hm : ∃ m, m < n ∧ p m
    · obtain ⟨m, hlt, hp⟩ := hm
      exact ih m hlt hp
    · exact ⟨n, hn, fun m hp => Nat.le_of_not_lt fun hlt => hm ⟨m, hlt, hp⟩⟩
theorem Sp.Perm.back {st : List Int} (h : Sp.Perm st) {d : Nat} (hd : d < st.length) : ∀ i j, Sp.nth st d (i + j) = Sp.nth st d i → Sp.nth st d j = d
  | 0, j, e => by rw [Nat.zero_add] at e; exact e
  | i + 1, j, e => by
    refine Sp.Perm.back h hd i j ?_
    have b1 := Sp.nth_bd (d := (d : Int)) rfl h.bd (by omega) (by omega) (i + j)
    have b2 := Sp.nth_bd (d := (d : Int)) rfl h.bd (by omega) (by omega) i
    have e2 : st.getD (Sp.nth st d (i + j)).toNat 0 = st.getD (Sp.nth st d i).toNat 0 := by
      have : i + 1 + j = (i + j) + 1 := by omega
      rw [this] at e
      exact e
    have := h.inj _ _ (by omega) (by omega) e2
    omega
theorem Sp.Perm.twice {st : List Int} (h : Sp.Perm st) {d : Nat} (hd : d < st.length) : ∃ i j, i < j ∧ j ≤ st.length ∧ Sp.nth st d i = Sp.nth st d j := by
  apply Classical.byContradiction
  intro hno
  have hnd : (Sp.rounds st d (st.length + 1)).Nodup := by
    unfold List.Nodup
    rw [List.pairwise_iff_getElem]
    intro i j hi hj hij
    rw [Sp.rounds_len] at hi hj
    simp only [Sp.rounds, List.getElem_map, List.getElem_range]
    intro e
    exact hno ⟨i, j, hij, by omega, e⟩
  have hle := nodup_le st.length _ hnd (fun x hx => by
    obtain ⟨k, -, rfl⟩ := List.mem_map.1 hx
    exact Sp.nth_bd rfl h.bd (by omega) (by omega) k)
  rw [Sp.rounds_len] at hle
  omega
/-- From each dart on the way comes round. -/
theorem Sp.Perm.round {st : List Int} (h : Sp.Perm st) {d : Nat} (hd : d < st.length) : ∃ m, 1 ≤ m ∧ m ≤ st.length ∧ Sp.nth st d m = d ∧ ∀ i, 0 < i → i < m → Sp.nth st d i ≠ d := by
  obtain ⟨i, j, hij, hj, e⟩ := h.twice hd
  have e2 : Sp.nth st d (j - i) = d := h.back hd i (j - i) (by rw [show i + (j - i) = j by omega]; exact e.symm)
  obtain ⟨m, ⟨h1, h2⟩, h3⟩ := least_of (p := fun m => 1 ≤ m ∧ Sp.nth st d m = d) ⟨j - i, by omega, e2⟩
  refine ⟨m, h1, ?_, h2, fun k hk0 hk e3 => ?_⟩
  · have := h3 (j - i) ⟨by omega, e2⟩
    omega
  · have := h3 k ⟨by omega, e3⟩
    omega
theorem oth_inj {a b : Nat} (h : Sp.oth a = Sp.oth b) : a = b := by rw [← oth_oth a, h, oth_oth]
theorem Sp.Perm.behind {nx : List Int} (h : Sp.Perm nx) (hev : nx.length % 2 = 0) : Sp.Perm (Sp.behindL nx) := by
  refine ⟨?_, ?_⟩
  · rw [Sp.behindL_len]
    exact Sp.behindL_bd nx hev h.bd
  · intro i j hi hj e
    rw [Sp.behindL_len] at hi hj
    rw [Sp.behindL_get nx i hi, Sp.behindL_get nx j hj] at e
    exact oth_inj (h.inj _ _ (oth_lt hi hev) (oth_lt hj hev) e)
theorem getD_set_eq (l : List Int) (i j : Nat) (x : Int) (hj : j < l.length) : (l.set j x).getD i 0 = if i = j then x else l.getD i 0 := by
  by_cases h : i = j
  · subst h
    rw [if_pos rfl, List.getD_eq_getElem?_getD, List.getElem?_set_self hj]; rfl
  · rw [if_neg h, List.getD_eq_getElem?_getD, List.getElem?_set_ne (Ne.symm h), ← List.getD_eq_getElem?_getD]
/-- A dart that was its own next one, laid behind another. -/
theorem Sp.Perm.lay {l : List Int} (h : Sp.Perm l) (bh d : Nat) (hb : bh < l.length) (hd : d < l.length) (hfix : l.getD d 0 = (d : Int)) : Sp.Perm (Sp.layIn l bh d) := by
  have hlen : (Sp.layIn l bh d).length = l.length := by simp [Sp.layIn]
  have key : ∀ i, i < l.length → (Sp.layIn l bh d).getD i 0 = l.getD (if i = bh then d else if i = d then bh else i) 0 := by
    intro i hi
    unfold Sp.layIn
    rw [getD_set_eq _ _ _ _ (by rw [List.length_set]; exact hb), getD_set_eq _ _ _ _ hd]
    by_cases h1 : i = bh
    · rw [if_pos h1, if_pos h1, hfix]
    · rw [if_neg h1, if_neg h1]
      by_cases h2 : i = d
      · rw [if_pos h2, if_pos h2]
      · rw [if_neg h2, if_neg h2]
  have kb : ∀ i, i < l.length → (if i = bh then d else if i = d then bh else i) < l.length := by
    intro i hi
    split
    · exact hd
    · split
      · exact hb
      · exact hi
  refine ⟨?_, ?_⟩
  · intro x hx
    rw [hlen]
    obtain ⟨i, hi, rfl⟩ := List.mem_iff_getElem.1 hx
    rw [hlen] at hi
    rw [← Sp.getD_eq (Sp.layIn l bh d) i (by rw [hlen]; exact hi), key i hi]
    exact h.bd _ (Sp.getD_mem (kb i hi))
  · intro i j hi hj e
    rw [hlen] at hi hj
    rw [key i hi, key j hj] at e
    have := h.inj _ _ (kb i hi) (kb j hj) e
    split at this <;> split at this <;> (try split at this) <;> (try split at this) <;> omega
theorem Sp.Perm.add {l : List Int} (h : Sp.Perm l) : Sp.Perm (l ++ [(l.length : Int), ((l.length + 1 : Nat) : Int)]) := by
  have key : ∀ i, i < l.length + 2 → (l ++ [(l.length : Int), ((l.length + 1 : Nat) : Int)]).getD i 0 = if i < l.length then l.getD i 0 else (i : Int) := by
    intro i hi
    rw [List.getD_eq_getElem?_getD]
    by_cases h1 : i < l.length
    · rw [if_pos h1, List.getElem?_append_left h1, ← List.getD_eq_getElem?_getD]
    · rw [if_neg h1, List.getElem?_append_right (by omega)]
      have : i = l.length ∨ i = l.length + 1 := by omega
      rcases this with rfl | rfl
      · simp
      · simp
  have hlen : (l ++ [(l.length : Int), ((l.length + 1 : Nat) : Int)]).length = l.length + 2 := by simp
  have hold : ∀ i, i < l.length → 0 ≤ l.getD i 0 ∧ l.getD i 0 < (l.length : Int) := fun i hi => h.bd _ (Sp.getD_mem hi)
  refine ⟨?_, ?_⟩
  · intro x hx
    rw [hlen]
    rcases List.mem_append.1 hx with hx | hx
    · have := h.bd x hx; omega
    · simp only [List.mem_cons, List.not_mem_nil, or_false] at hx
      omega
  · intro i j hi hj e
    rw [hlen] at hi hj
    rw [key i hi, key j hj] at e
    by_cases h1 : i < l.length <;> by_cases h2 : j < l.length
    · rw [if_pos h1, if_pos h2] at e; exact h.inj _ _ h1 h2 e
    · rw [if_pos h1, if_neg h2] at e; have := hold i h1; omega
    · rw [if_neg h1, if_pos h2] at e; have := hold j h2; omega
    · rw [if_neg h1, if_neg h2] at e; omega
/-- How long the round from d on is. -/
def Sp.perGo (st : List Int) (d : Nat) : Nat → Nat → Nat
  | 0, m => m
  | f + 1, m => if Sp.nth st d m = d then m else Sp.perGo st d f (m + 1)
def Sp.per (st : List Int) (d : Nat) : Nat := Sp.perGo st d st.length 1
theorem Sp.perGo_eq (st : List Int) (d m : Nat) (h2 : Sp.nth st d m = d) (h3 : ∀ i, 0 < i → i < m → Sp.nth st d i ≠ d) : ∀ f i, 0 < i → i ≤ m → m < i + f → Sp.perGo st d f i = m
  | 0, i, _, h, h' => by omega
  | f + 1, i, h0, h, h' => by
    rw [Sp.perGo]
    by_cases e : i = m
    · subst e; rw [if_pos h2]
    · rw [if_neg (h3 i h0 (by omega))]
      exact Sp.perGo_eq st d m h2 h3 f (i + 1) (by omega) (by omega) (by omega)
theorem Sp.Perm.per {st : List Int} (h : Sp.Perm st) {d : Nat} (hd : d < st.length) : 1 ≤ Sp.per st d ∧ Sp.per st d ≤ st.length ∧ Sp.nth st d (Sp.per st d) = d ∧ ∀ i, 0 < i → i < Sp.per st d → Sp.nth st d i ≠ d := by
  obtain ⟨m, h1, h2, h3, h4⟩ := h.round hd
  have e : Sp.per st d = m := Sp.perGo_eq st d m h3 h4 st.length 1 (by omega) h1 (by omega)
  rw [e]
  exact ⟨h1, h2, h3, h4⟩
end Go.Proofs.Ytoegjnolccabjab


/- The walk of package rot: rounds. -/
namespace Go.Proofs.Ytoegjnolccabjab
open Go Go.RowKit

theorem piece_cell (wr : World) (v : Value) : ∀ j u, [v][j]? = some u → (wr.alloc (.cells #[v] 22)).cell? ((⟨wr.heap.size, 0, none⟩ : Addr).add j) = some u := by
  intro j u hj
  exact (World.ownsRow_lit (base := 0) (size := 1) (e := 22) wr #[v] 1 (Nat.zero_le _) (by unfold maxLen; omega) rfl).cells rfl j u hj
theorem dart_cell (wr : World) (a : Addr) (v x : Value) : ∀ j u, [v][j]? = some u → ((wr.setCell a x).alloc (.cells #[v] 3)).cell? ((⟨wr.heap.size, 0, none⟩ : Addr).add j) = some u := by
  intro j u hj
  have hs : wr.heap.size = (wr.setCell a x).heap.size := by simp
  rw [hs]
  exact (World.ownsRow_lit (base := 0) (size := 1) (e := 3) (wr.setCell a x) #[v] 1 (Nat.zero_le _) (by unfold maxLen; omega) rfl).cells rfl j u hj
theorem one_cell1 (v : Value) (h : v.oneCell' = true) : ∀ u ∈ [v], u.oneCell' = true := by
  intro u hu
  rw [List.mem_singleton] at hu
  rw [hu]; exact h
theorem row_far {B M n l' : Nat} {W wr : World} {row : List Int} {ps : List (Nat × Nat)} {lq : Value} (hl : row.length = l') (h : RKeep B M n W wr row ps lq) (d : Nat) {ob : Obj} : ((wr.setCell ⟨M, d, none⟩ (.bool true)).alloc ob).ownsRow B 3 1 (.slice (some ⟨B, 0, none⟩) l' n) l' (row.map (Value.int .i64)) := by
  subst hl
  have hm := h.met
  have hlt := h.lt
  unfold OwnB at hm
  rw [Sp.metL_len] at hm
  exact (World.ownsRow.kept h.rw1 (World.ownsRow.stored hm d (.bool true)).2 (.inr (by simp [Value.ownBlock]; omega))).alloc ob
set_option maxRecDepth 100000 in
set_option maxHeartbeats 2000000 in
theorem rounds_any (st : List Int) (sv : Value) (w : World) (hv : Ints w sv st) (hn : st.length ≤ 240) (hx : ∀ x ∈ st, 0 ≤ x ∧ x < (st.length : Int)) :
    Calls Try.prog 88 #[sv] w (RoundsPost st w) := by
  obtain ⟨sa, sc, rfl, hsc, hsm, HT⟩ := hv.all
  clear hv
  obtain ⟨iB, hiB, hB0, hB1, hB2⟩ := info_parts infoB
  obtain ⟨iI, hiI, hI0, hI1, hI2⟩ := info_parts info3
  obtain ⟨iL, hiL, hL0, hL1, hL2⟩ := info_parts infoL
  have Hx := hide hx
  clear hx
  unfold maxLen at hsm
  obtain ⟨n, hnn⟩ : ∃ n, st.length = n := ⟨_, rfl⟩
  obtain ⟨P, hP⟩ : ∃ P, P = RoundsPost st w := ⟨_, rfl⟩
  rw [← hP]
  have HP := hide hP
  clear hP
  rw [hnn] at hn hsc ⊢
  have Hnn := hide hnn
  clear hnn
  go_enter Try.func88, Try.ntmps88
  go_wp2
  go_step3
  go_wp2_with (at_make; refine wpList_make_own _ rfl _ _ 22 rfl w.heap.size 3 iI (.int .i64 0) 1 Try.underlying22 hiI hI0 hI1 .i64 .i64 _ n rfl rfl rfl (by rw [hI2]; omega) (by unfold maxLen; omega) (Nat.le_refl _) ?_)
  intro w1 hown1 hg1
  go_wp2_with (at_make; refine wpList_make_full _ rfl _ _ 118 rfl w.heap.size 4 iB (.bool false) 1 Try.underlying118 hiB hB0 hB1 .i64 .i64 _ _ n rfl rfl rfl rfl (by rw [hB2]; omega) (by unfold maxLen; omega) hg1.size ?_)
  intro w2 hown2 hg2
  have hs1 := (hown1.lt w.heap.size rfl).2
  have hle1 := hg1.size
  generalize w1.heap.size = M at *
  have HK0 : Hid (RKeep w.heap.size M n w w2 [] [] (.slice none 0 0) ∧ RFit n [] ∧ Sp.rgo st n 0 [] [] = Sp.rnds st) := by
    refine hide ⟨⟨?_, ?_, ?_, ?_, ?_, hs1⟩, ⟨by simp, by simp⟩, by rw [← unhide Hnn]; rfl⟩
    · exact hown1.kept hg2 (.inr (by simp [Value.ownBlock]))
    · unfold OwnB
      rw [Sp.metL_nil, List.length_replicate, ← made_bools']
      exact hown2
    · exact World.ownsRow_nil _ _ _ _
    · exact ((Below.refl _ w).grown hg1 (Nat.le_refl _) (by simp)).grown hg2 hg1.size (by simp)
    · exact (hown2.lt M rfl).2
  clear hown1 hg1 hown2 hg2 hs1 hle1
  go_wp2
  go_step3
  go_wp2
  go_loopg [4, 6, 18] n (fun g s4 s6 s18 wr => ∃ (k : Nat) (row : List Int) (ps : List (Nat × Nat)) (lq : Value), lq = s6 ∧ ps.length ≤ k ∧ k + g = n ∧ s18 = .int .i64 (k : Int) ∧ s4 = .slice (some ⟨w.heap.size, 0, none⟩) row.length n ∧ Hid (RKeep w.heap.size M n w wr row ps lq ∧ RFit n row ∧ Sp.rgo st g k row ps = Sp.rnds st))
  case atStart => exact ⟨0, [], [], _, rfl, Nat.le_refl _, by omega, rfl, rfl, HK0⟩
  case round =>
    clear HK0
    obtain ⟨k, row, ps, lq, rfl, hpk, hkg, rfl, rfl, HK⟩ := hrel
    obtain ⟨ll, hll⟩ : ∃ ll, row.length = ll := ⟨_, rfl⟩
    have hln : ll ≤ n := by rw [← hll]; exact (unhide HK).2.1.le
    have Hll := hide hll
    rw [hll]
    clear hll
    cases gk with
    | zero =>
      have hkn : k = n := by omega
      subst hkn
      have HF := (unhide HK)
      clear HK
      have HF := hide HF
      go_wp2
      rw [unhide HP]
      refine ⟨(unhide HF).1.bel, ?_, ?_⟩
      · intro row' ps' he
        obtain ⟨h1, h2, h3⟩ := unhide HF
        rw [he] at h3
        simp only [Sp.rgo, Option.some.injEq, Prod.mk.injEq] at h3
        obtain ⟨rfl, rfl⟩ := h3
        rw [unhide Hnn]
        exact ⟨_, rfl, h1.rw1, owns_base h1.ls (by have := h1.lt; omega)⟩
      · intro he
        have h3 := (unhide HF).2.2
        rw [he] at h3
        simp [Sp.rgo] at h3
    | succ g' =>
      have hlt : k < n := by omega
      have hltI : (k : Int) < (n : Int) := by omega
      have m1 := (unhide HK).1.metCell k hlt
      by_cases hm : (k : Int) ∈ row
      · rw [decide_eq_true hm] at m1
        have HN : Hid (RKeep w.heap.size M n w wr row ps lq ∧ RFit n row ∧ Sp.rgo st g' (k + 1) row ps = Sp.rnds st) := by
          obtain ⟨h1, h2, h3⟩ := unhide HK
          rw [Sp.rgo, if_pos hm] at h3
          exact hide ⟨h1, h2, h3⟩
        clear hm
        go_wp2
        go_roundg g'
        case rel => exact ⟨k + 1, row, ps, lq, rfl, by omega, by omega, by go_num, by rw [unhide Hll], HN⟩
        case measure => omega
      · rw [decide_eq_false hm] at m1
        have HM := hide hm
        clear hm
        go_wp2
        go_loopg [4, 6, 9] (n + 1 - ll) (fun g s4 s6 s9 wr => ∃ (d : Nat) (rw' : List Int) (l' : Nat) (lz : Value), lz = s6 ∧ lq = lz ∧ l' + g = n + 1 ∧ d < n ∧ s9 = .int .i64 (d : Int) ∧ s4 = .slice (some ⟨w.heap.size, 0, none⟩) l' n ∧ Hid (rw'.length = l' ∧ (ll < l' ∨ rw' = row) ∧ RKeep w.heap.size M n w wr rw' ps lq ∧ RFit n rw' ∧ Sp.walkR st k g d rw' = Sp.walkR st k (n + 1 - ll) k row))
        case atStart => exact ⟨k, row, ll, _, rfl, rfl, by omega, hlt, rfl, rfl, hide ⟨unhide Hll, .inr rfl, (unhide HK).1, (unhide HK).2.1, rfl⟩⟩
        case round =>
          obtain ⟨d, rw', l', lz, rfl, rfl, hlg, hdn, rfl, rfl, HI⟩ := hrel
          clear m1
          have hl'n : l' ≤ n := by rw [← (unhide HI).1]; exact (unhide HI).2.2.2.1.le
          have m2 := (unhide HI).2.2.1.metCell d hdn
          have f2 := (unhide HI).2.2.1.metOpen d
          have hdnI : (d : Int) < (n : Int) := by omega
          obtain ⟨g2, rfl⟩ : ∃ g2, gk = g2 + 1 := ⟨gk - 1, by omega⟩
          by_cases hd : (d : Int) ∈ rw'
          · rw [decide_eq_true hd] at m2
            by_cases hk : d = k
            · subst hk
              have hne : ll < l' := by
                rcases (unhide HI).2.1 with h | h
                · exact h
                · rw [h] at hd; exact absurd hd (unhide HM)
              have HN : Hid (Sp.rgo st g' (d + 1) rw' (ps ++ [(ll, l')]) = Sp.rnds st) := by
                have h3 := (unhide HK).2.2
                have h5 := (unhide HI).2.2.2.2
                rw [Sp.walkR, if_pos hd, if_pos rfl] at h5
                rw [Sp.rgo, if_neg (unhide HM), unhide Hnn, unhide Hll, ← h5] at h3
                simp only [(unhide HI).1] at h3
                exact hide h3
              have hkk : ((d : Int) == (d : Int)) = true := beq_self_eq_true _
              clear hd
              have HL := hide (unhide HI).2.2.1
              have hbig := (unhide HI).2.2.1.big
              have hpl : ps.length ≤ 240 := by omega
              go_wp2_with (at_builtin; refine wpList_append_own (w := wr.alloc (.cells #[.slice (some ⟨w.heap.size, ll, none⟩) (l' - ll) (l' - ll)] 22)) rfl _ _ 115 rfl (M + 1) 22 iL (.slice none 0 0) 1 24 Try.underlying115 hiL hL0 hL1 hL2 rfl (by decide) lq ps.length (ps.map (pieceV w.heap.size)) rfl (World.ownsRow.alloc (unhide HL).ls _) ⟨wr.heap.size, 0, none⟩ 1 1 [pieceV w.heap.size (ll, l')] rfl rfl (piece_cell wr _) (one_cell1 _ rfl) (by unfold maxLen; omega) (by omega) (by simp; omega) ?_)
              intro l6 w6 hown6 hgr6 hnil6
              have HN2 : Hid (RKeep w.heap.size M n w w6 rw' (ps ++ [(ll, l')]) l6 ∧ RFit n rw' ∧ Sp.rgo st g' (d + 1) rw' (ps ++ [(ll, l')]) = Sp.rnds st) := by
                have h1 := (unhide HI).1
                subst h1
                exact hide ⟨(unhide HL).round ll _ w6 hgr6 hown6, (unhide HI).2.2.2.1, unhide HN⟩
              clear hown6 hgr6 hnil6
              go_wp2
              go_roundg g'
              case rel => exact ⟨d + 1, rw', _, l6, rfl, by simp; omega, by omega, by go_num, by rw [(unhide HI).1], HN2⟩
              case measure => omega
            · have hkI : ((d : Int) == (k : Int)) = false := beq_eq_false_iff_ne.2 (by omega)
              have HN : Hid (Sp.rnds st = none) := by
                have h3 := (unhide HK).2.2
                have h5 := (unhide HI).2.2.2.2
                rw [Sp.walkR, if_pos hd, if_neg (by omega)] at h5
                rw [Sp.rgo, if_neg (unhide HM), unhide Hnn, unhide Hll, ← h5] at h3
                exact hide h3.symm
              clear hd
              go_wp2
              rw [unhide HP]
              refine ⟨(unhide HI).2.2.1.bel, ⟨?_, fun _ => rfl⟩⟩
              intro _ _ he
              rw [unhide HN] at he
              cases he
          · rw [decide_eq_false hd] at m2
            have HD := hide hd
            have hlt' : l' < n := by
              have := ((unhide HI).2.2.2.1.snoc d hdn hd).le
              rw [List.length_append, (unhide HI).1] at this
              simp only [List.length_cons, List.length_nil] at this
              omega
            obtain ⟨b, o, hsa, -, hcx⟩ := unhide HT d (by rw [unhide Hnn]; exact hdn)
            subst hsa
            obtain ⟨x, hxx⟩ : ∃ x : Nat, st[d]'(by rw [unhide Hnn]; exact hdn) = (x : Int) := ⟨(st[d]'(by rw [unhide Hnn]; exact hdn)).toNat, by have := unhide Hx _ (List.getElem_mem (by rw [unhide Hnn]; exact hdn)); omega⟩
            have hxn : x < n := by have := (unhide Hx _ (List.getElem_mem (l := st) (n := d) (by rw [unhide Hnn]; exact hdn))).2; rw [hxx, unhide Hnn] at this; omega
            rw [hxx] at hcx
            have HXX : Hid (st.getD (d : Int).toNat 0 = (x : Int)) := hide (by rw [Int.toNat_natCast, Sp.getD_eq _ _ (by rw [unhide Hnn]; exact hdn)]; exact hxx)
            have HCX := hide hcx
            have hbig := (unhide HI).2.2.1.big
            have hBM := (unhide HI).2.2.1.lt
            have HL := hide (unhide HI).2.2.1
            clear hd hxx hcx
            go_wp2_with (at_builtin; refine wpList_append_fits (wr.setCell ⟨M, d, none⟩ (.bool true) |>.alloc (.cells #[.int .i64 (d : Int)] 3)) rfl _ _ 22 rfl w.heap.size 3 iI 1 Try.underlying22 hiI hI1 w.heap.size l' n (rw'.map (Value.int .i64)) rfl (row_far (unhide HI).1 (unhide HL) d) ⟨wr.heap.size, 0, none⟩ 1 1 [.int .i64 (d : Int)] rfl rfl (dart_cell wr _ _ _) (one_cell1 _ rfl) (by omega) ?_)
            intro w6 hown6 hgr6
            have HK6 : Hid (RKeep w.heap.size M n w w6 (rw' ++ [(d : Int)]) ps lq) := by
              have h1 := (unhide HI).1
              subst h1
              exact hide ((unhide HL).push d _ w6 hgr6 hown6)
            have g6 := unhide HCX w6 (unhide HK6).bel
            clear hown6 hgr6 f2 m2
            go_wp2
            go_roundg g2
            case rel => 
              refine ⟨x, rw' ++ [(d : Int)], l' + 1, _, rfl, rfl, by omega, hxn, rfl, rfl, hide ⟨?_, ?_, unhide HK6, (unhide HI).2.2.2.1.snoc d hdn (unhide HD), ?_⟩⟩
              · rw [List.length_append, (unhide HI).1]; rfl
              · rcases (unhide HI).2.1 with h | h
                · exact .inl (by omega)
                · exact .inl (by rw [← (unhide HI).1, h, unhide Hll]; omega)
              · rw [← (unhide HI).2.2.2.2, Sp.walkR, if_neg (unhide HD), unhide HXX]
            case measure => omega
end Go.Proofs.Ytoegjnolccabjab


/- What rounds tells is sound; the walk of package rot: turning. -/
namespace Go.Proofs.Ytoegjnolccabjab
open Go Go.RowKit

theorem walkR_ok {st : List Int} {n : Nat} (hn : st.length = n) (hx : ∀ x ∈ st, 0 ≤ x ∧ x < (n : Int)) (least : Int) : ∀ f d row row', Sp.walkR st least f d row = some row' → 0 ≤ d → d < (n : Int) → RFit n row → RFit n row' ∧ least ∈ row' ∧ ∃ m, row' = row ++ m
  | 0, d, row, row', h, _, _, _ => by simp [Sp.walkR] at h
  | f + 1, d, row, row', h, h0, h1, hf => by
    rw [Sp.walkR] at h
    by_cases hd : d ∈ row
    · rw [if_pos hd] at h
      by_cases hl : d = least
      · rw [if_pos hl] at h
        cases h
        exact ⟨hf, hl ▸ hd, [], by simp⟩
      · rw [if_neg hl] at h
        cases h
    · rw [if_neg hd] at h
      have hdn : d.toNat < n := by omega
      have hdd : ((d.toNat : Nat) : Int) = d := by omega
      have hs := hf.snoc d.toNat hdn (by rw [hdd]; exact hd)
      rw [hdd] at hs
      have hb := hx _ (Sp.getD_mem (l := st) (k := d.toNat) (by omega))
      obtain ⟨r1, r2, m, r3⟩ := walkR_ok hn hx least f _ _ _ h hb.1 hb.2 hs
      exact ⟨r1, r2, d :: m, by rw [r3]; simp⟩
structure POk (n : Nat) (row : List Int) (ps : List (Nat × Nat)) : Prop where
  fit : RFit n row
  ok : ∀ p ∈ ps, p.1 < p.2 ∧ p.2 ≤ row.length
theorem rgo_ok {st : List Int} {n : Nat} (hn : st.length = n) (hx : ∀ x ∈ st, 0 ≤ x ∧ x < (n : Int)) : ∀ f k row ps row' ps', k + f = n → Sp.rgo st f k row ps = some (row', ps') → POk n row ps → POk n row' ps' ∧ ps'.length ≤ ps.length + f
  | 0, k, row, ps, row', ps', _, h, hp => by
    simp only [Sp.rgo, Option.some.injEq, Prod.mk.injEq] at h
    obtain ⟨rfl, rfl⟩ := h
    exact ⟨hp, by omega⟩
  | f + 1, k, row, ps, row', ps', hk, h, hp => by
    rw [Sp.rgo] at h
    by_cases hm : (k : Int) ∈ row
    · rw [if_pos hm] at h
      obtain ⟨r1, r2⟩ := rgo_ok hn hx f (k + 1) row ps row' ps' (by omega) h hp
      exact ⟨r1, by omega⟩
    · rw [if_neg hm] at h
      cases hw : Sp.walkR st k (st.length + 1 - row.length) k row with
      | none => rw [hw] at h; cases h
      | some row1 =>
        rw [hw] at h
        obtain ⟨q1, q2, m, q3⟩ := walkR_ok hn hx k _ _ _ _ hw (by omega) (by omega) hp.fit
        have hlen : row.length < row1.length := by
          cases m with
          | nil => rw [List.append_nil] at q3; subst q3; exact absurd q2 hm
          | cons a r => rw [q3]; simp
        obtain ⟨r1, r2⟩ := rgo_ok hn hx f (k + 1) row1 _ row' ps' (by omega) h ⟨q1, fun p hpm => by
          rcases List.mem_append.1 hpm with hpm | hpm
          · have := hp.ok p hpm; omega
          · rw [List.mem_singleton] at hpm; subst hpm; exact ⟨hlen, Nat.le_refl _⟩⟩
        exact ⟨r1, by simp at r2; omega⟩
theorem rnds_ok {st : List Int} (hx : ∀ x ∈ st, 0 ≤ x ∧ x < (st.length : Int)) {row : List Int} {ps : List (Nat × Nat)} (h : Sp.rnds st = some (row, ps)) : POk st.length row ps ∧ ps.length ≤ st.length := by
  have := rgo_ok rfl hx st.length 0 [] [] row ps (by omega) h ⟨⟨by simp, by simp⟩, by simp⟩
  simpa using this
def Sp.piece (row : List Int) (p : Nat × Nat) : List Int := (row.drop p.1).take (p.2 - p.1)
theorem Sp.piece_len {row : List Int} {p : Nat × Nat} (h : p.2 ≤ row.length) : (Sp.piece row p).length = p.2 - p.1 := by
  simp [Sp.piece]; omega
theorem Sp.piece_get {row : List Int} {p : Nat × Nat} (h : p.2 ≤ row.length) (j : Nat) (hj : j < (Sp.piece row p).length) : (Sp.piece row p)[j] = row[p.1 + j]'(by rw [Sp.piece_len h] at hj; omega) := by
  simp [Sp.piece]
def Sp.turnGo (tl row : List Int) : List (Nat × Nat) → List Int → Bool
  | [], _ => true
  | p :: r, bg => if tl.getD (row.getD p.1 0).toNat 0 ∈ bg then false
      else if (Sp.piece row p).all (fun d => tl.getD d.toNat 0 == tl.getD (row.getD p.1 0).toNat 0) then Sp.turnGo tl row r (bg ++ [tl.getD (row.getD p.1 0).toNat 0]) else false
def Sp.rndsD (st : List Int) : List Int × List (Nat × Nat) := (Sp.rnds st).getD ([], [])
/-- Are each vertex's darts one round? -/
def Sp.turningB (q : Sp.Net) : Bool := Sp.turnGo q.tail (Sp.rndsD q.next).1 (Sp.rndsD q.next).2 [] && (Sp.rnds q.next).isSome
theorem owns_all {w : World} {base n : Nat} {e : TypeId} {v : Value} {xs : List Value} (h : w.ownsRow base e 1 v n xs) :
    ∃ a c, v = .slice a n c ∧ n ≤ c ∧ c ≤ maxLen ∧ Hid (∀ k, (hk : k < xs.length) → ∃ b, a = some ⟨b, 0, none⟩ ∧ b < w.heap.size ∧ base ≤ b ∧ ∀ w', Below w.heap.size w w' → w'.cell? ⟨b, k, none⟩ = some xs[k]) := by
  have h0 := h
  obtain ⟨h1, h2 | ⟨g, cap, cur, rfl, hg, hh, hnc, hcm, hsz, htk⟩⟩ := h
  · obtain ⟨rfl, rfl⟩ := h2
    refine ⟨none, 0, rfl, by omega, by unfold maxLen; omega, hide fun k hk => ?_⟩
    omega
  · refine ⟨_, cap, rfl, hnc, hcm, hide fun k hk => ⟨g, rfl, (h0.lt g rfl).2, hg, fun w' hb => ?_⟩⟩
    have h3 := own_below h0 hb
    rw [World.ownsRow.cellAt h3 k (by omega), List.getElem?_eq_getElem hk]
/-- What rounds leaves, in one form. -/
theorem RoundsPost.one {st : List Int} {w w' : World} {e : Ending} (h : RoundsPost st w e w') (hx : ∀ x ∈ st, 0 ≤ x ∧ x < (st.length : Int)) :
    ∃ lv, e = .returned (.tuple #[lv, .bool (Sp.rnds st).isSome]) ∧ Below w.heap.size w w' ∧ (Sp.rndsD st).2.length ≤ st.length ∧ POk st.length (Sp.rndsD st).1 (Sp.rndsD st).2 ∧ w'.ownsRow w.heap.size 22 1 lv (Sp.rndsD st).2.length ((Sp.rndsD st).2.map (pieceV w.heap.size))
      ∧ (∀ k, (hk : k < (Sp.rndsD st).1.length) → ∀ w'', Below w'.heap.size w' w'' → w''.cell? ⟨w.heap.size, k, none⟩ = some (.int .i64 (Sp.rndsD st).1[k]) ∧ w''.frozen? ⟨w.heap.size, k, none⟩ = false) := by
  obtain ⟨hb, hs, hn⟩ := h
  unfold Sp.rndsD
  cases hr : Sp.rnds st with
  | none =>
    refine ⟨_, hn hr, hb, by simp, ⟨⟨by simp, by simp⟩, by simp⟩, World.ownsRow_nil _ _ _ _, ?_⟩
    intro k hk
    simp at hk
  | some rp =>
    obtain ⟨row, ps⟩ := rp
    obtain ⟨lv, he, ho, hl⟩ := hs row ps hr
    obtain ⟨h1, h2⟩ := rnds_ok hx hr
    refine ⟨lv, he, hb, h2, h1, hl, ?_⟩
    intro k hk w'' hb'
    have h3 : OwnI w'' w.heap.size (.slice (some ⟨w.heap.size, 0, none⟩) row.length st.length) row := own_below ho hb'
    exact ⟨own_cell h3 k hk, own_frozen h3 k⟩
end Go.Proofs.Ytoegjnolccabjab


