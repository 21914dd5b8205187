/- What the proof needs, part 2. -/
import Derived.Lib.SliceRun
import Derived.Deep.WholeRow
import Derived.KernelRfl
import Derived.Maps.AppendAt
import Derived.Laws.OwnMore
import Derived.Test.YtfcknfodejnhnaaL1
/- Package heap: settle, find. -/
namespace Go.Proofs.Ytfcknfodejnhnaa
open Go Go.RowKit

set_option maxRecDepth 100000 in
set_option maxHeartbeats 4000000 in
theorem settle_any (z : Nat → Int) (M : Nat → Option Int) (b n f k : Nat) (r : Int) (w : World) (h : HpAt w b z) (hi : Sp.HoI z M n f k r) :
    Calls Try.prog 28 #[.pointer (some ⟨b, 0, none⟩), .int .i64 (f : Int), .agg #[.int .i64 (k : Int), .int .i64 r]] w fun e w' => ∃ (z' : Nat → Int), e = .returned (.tuple #[]) ∧ But b w w' ∧ HpAt w' b z' ∧ Sp.HpI z' M n ∧ Sp.Up n z z' := by
  have hb := h.lt
  have hnl := hi.le
  have HI0 : Hid (HpAt (w.alloc (.cells #[.int .i64 (k : Int), .int .i64 r] 32)) b z ∧ Sp.HoI z M n f k r) := hide ⟨h.alloc _, hi⟩
  have HX : Hid (∀ wr, But b (w.alloc (.cells #[.int .i64 (k : Int), .int .i64 r] 32)) wr → wr.cell? ⟨w.heap.size, 0, none⟩ = some (.int .i64 (k : Int)) ∧ wr.cell? ⟨w.heap.size, 1, none⟩ = some (.int .i64 r) ∧ But b w wr) := hide fun wr hw => by
    obtain ⟨x0, x1⟩ := item_new w (.int .i64 (k : Int)) (.int .i64 r)
    exact ⟨(hw.cell (by simp) (by show w.heap.size ≠ b; omega)).trans x0, (hw.cell (by simp) (by show w.heap.size ≠ b; omega)).trans x1, ((But.refl b w).alloc _).trans hw⟩
  obtain ⟨P, hP⟩ : ∃ P : Ending → World → Prop, P = fun e w' => ∃ (z' : Nat → Int), e = .returned (.tuple #[]) ∧ But b w w' ∧ HpAt w' b z' ∧ Sp.HpI z' M n ∧ Sp.Up n z z' := ⟨_, rfl⟩
  rw [← hP]
  have HP := hide hP
  obtain ⟨x0, x1, -⟩ := unhide HX _ (But.refl _ _)
  clear hP h hi
  go_enter Try.func28, Try.ntmps28
  go_wp2_with fail
  generalize w.alloc (.cells #[.int .i64 (k : Int), .int .i64 r] 32) = W1 at *
  refine (rise_any z M b n f k r W1 (unhide HI0).1 (unhide HI0).2).mono ?_
  rintro e w2 ⟨f2, z2, rfl, hb2, ha2, hi2, hu2, hp2⟩
  obtain ⟨y0, y1, -⟩ := unhide HX _ hb2
  have H2 := hide (And.intro hb2 (And.intro ha2 (And.intro hi2 (And.intro hu2 hp2))))
  clear hb2 ha2 hi2 hu2 hp2 x0 x1
  go_wp2_with fail
  refine (sink_any z2 M b n f2 k r w2 (unhide H2).2.1 (unhide H2).2.2.1 (unhide H2).2.2.2.2).mono ?_
  rintro e w3 ⟨f3, z3, rfl, hb3, ha3, hi3, hu3, hp3, hd3⟩
  have hb3' := (unhide H2).1.trans hb3
  obtain ⟨x0, x1, hbw⟩ := unhide HX _ hb3'
  have H3 := hide (And.intro hbw (And.intro ha3 (And.intro hi3 (And.intro ((unhide H2).2.2.2.1.trans hu3) (And.intro hp3 hd3)))))
  have hf3 := hi3.fn
  have hk3 := hi3.kl
  clear hb3 hb3' ha3 hi3 hu3 hp3 hd3 hbw y0 y1 H2
  go_wp2_with fail
  refine (stand_any z3 b f3 k r w3 (unhide H3).2.1 (by omega) hk3).mono ?_
  rintro e w4 ⟨rfl, hb4, ha4⟩
  have HF : Hid (But b w w4 ∧ HpAt w4 b (Sp.stand z3 f3 k r) ∧ Sp.HpI (Sp.stand z3 f3 k r) M n ∧ Sp.Up n z (Sp.stand z3 f3 k r)) := hide ⟨(unhide H3).1.trans hb4, ha4, (unhide H3).2.2.1.shut (unhide H3).2.2.2.2.1 (unhide H3).2.2.2.2.2, (unhide H3).2.2.2.1.trans (Sp.Up.stand _ _ _ _ hf3)⟩
  clear hb4 ha4 H3
  go_wp2
  go_end0
  rw [unhide HP]
  exact ⟨_, rfl, unhide HF⟩

/-- Where a key is. -/
def Sp.findB (z : Nat → Int) (k : Int) : Bool := decide (0 ≤ k ∧ k < 300 ∧ z (601 + k.toNat) ≠ 0)
def Sp.findP (z : Nat → Int) (k : Int) : Int := if Sp.findB z k = true then z (601 + k.toNat) - 1 else 0
set_option maxRecDepth 100000 in
set_option maxHeartbeats 4000000 in
theorem find_any (z : Nat → Int) (b : Nat) (k : Int) (w : World) (h : HpAt w b z) (hz : ∀ j, j < 300 → 0 ≤ z (601 + j) ∧ z (601 + j) ≤ 300) :
    Calls Try.prog 27 #[.pointer (some ⟨b, 0, none⟩), .int .i64 k] w fun e w' => e = .returned (.tuple #[.int .i64 (Sp.findP z k), .bool (Sp.findB z k)]) ∧ w' = w := by
  by_cases hk : 0 ≤ k ∧ k < 300
  · obtain ⟨j, rfl⟩ : ∃ j : Nat, k = (j : Int) := ⟨k.toNat, by omega⟩
    have hjI : (j : Int) < 300 := hk.2
    have hK := isKey_any (j : Int) w
    rw [decide_eq_true hk] at hK
    have HK := hide hK
    have c0 := h.cell (j := 601 + j) (by omega)
    have hzj := hz j (by omega)
    by_cases h0 : z (601 + j) = 0
    · have HR : Hid (Sp.findB z (j : Int) = false ∧ Sp.findP z (j : Int) = 0) := hide (by
        have : Sp.findB z (j : Int) = false := by simp [Sp.findB, h0]
        exact ⟨this, by simp [Sp.findP, this]⟩)
      rw [h0] at c0
      generalize Sp.findB z (j : Int) = RB at *
      generalize Sp.findP z (j : Int) = RP at *
      clear hK hk hz h hzj h0
      go_enter Try.func27, Try.ntmps27
      go_wp2_with fail
      go_at_call 26
      refine (unhide HK).mono ?_
      rintro e w' ⟨rfl, hw'⟩
      have := hw'.symm
      subst this
      go_wp2
      go_ret2
      exact ⟨by rw [(unhide HR).1, (unhide HR).2]; rfl, rfl⟩
    · have HR : Hid (Sp.findB z (j : Int) = true ∧ Sp.findP z (j : Int) = z (601 + j) - 1) := hide (by
        have : Sp.findB z (j : Int) = true := by simp [Sp.findB, h0]; omega
        exact ⟨this, by simp [Sp.findP, this]⟩)
      generalize z (601 + j) = zj at *
      have e0 : (zj == 0) = false := by simpa using h0
      generalize Sp.findB z (j : Int) = RB at *
      generalize Sp.findP z (j : Int) = RP at *
      clear hK hk hz h
      go_enter Try.func27, Try.ntmps27
      go_wp2_with fail
      go_at_call 26
      refine (unhide HK).mono ?_
      rintro e w' ⟨rfl, hw'⟩
      have := hw'.symm
      subst this
      go_wp2
      go_ret2
      exact ⟨by rw [(unhide HR).1, (unhide HR).2]; rfl, rfl⟩
  · have hK := isKey_any k w
    rw [decide_eq_false hk] at hK
    have HK := hide hK
    have HR : Hid (Sp.findB z k = false ∧ Sp.findP z k = 0) := hide (by
      have : Sp.findB z k = false := by simp only [Sp.findB, decide_eq_false_iff_not]; omega
      exact ⟨this, by simp [Sp.findP, this]⟩)
    generalize Sp.findB z k = RB at *
    generalize Sp.findP z k = RP at *
    clear hK hk hz h
    go_enter Try.func27, Try.ntmps27
    go_wp2_with fail
    go_at_call 26
    refine (unhide HK).mono ?_
    rintro e w' ⟨rfl, hw'⟩
    have := hw'.symm
    subst this
    go_wp2
    go_ret2
    exact ⟨by rw [(unhide HR).1, (unhide HR).2]; rfl, rfl⟩
end Go.Proofs.Ytfcknfodejnhnaa


/- Keys by rank: what a heap holds; put, dropped. -/
namespace Go.Proofs.Ytfcknfodejnhnaa
open Go Go.RowKit

theorem Sp.HpI.congr {z z' : Nat → Int} {M : Nat → Option Int} {n : Nat} (h : Sp.HpI z M n) (h0 : z' 600 = z 600) (h1 : ∀ k, k < 300 → z' (601 + k) = z (601 + k)) (h2 : ∀ i, i < n → z' (i * 2) = z (i * 2) ∧ z' (i * 2 + 1) = z (i * 2 + 1)) : Sp.HpI z' M n := by
  refine ⟨by rw [h0]; exact h.many, h.le, fun i hi => ?_, fun k hk => ?_, fun i hi0 hi => ?_, h.out, h.cnt⟩
  · obtain ⟨k, hk, a, b, c⟩ := h.it i hi
    exact ⟨k, hk, by rw [(h2 i hi).1]; exact a, by rw [h1 k hk]; exact b, by rw [(h2 i hi).2]; exact c⟩
  · rw [h1 k hk]
    rcases h.pl k hk with a | ⟨i, hi, a, b⟩
    · exact .inl a
    · exact .inr ⟨i, hi, a, by rw [(h2 i hi).1]; exact b⟩
  · unfold Sp.ah
    rw [(h2 i hi).1, (h2 i hi).2, (h2 _ (by omega)).1, (h2 _ (by omega)).2]
    exact h.ord i hi0 hi
/-- Behind the row all is nothing. -/
def Sp.Wiped (z : Nat → Int) (n : Nat) : Prop := ∀ i, n ≤ i → i < 300 → z (i * 2) = 0 ∧ z (i * 2 + 1) = 0
/-- A heap that holds M. -/
def HpIs (w : World) (b : Nat) (M : Nat → Option Int) : Prop := ∃ z, HpAt w b z ∧ Sp.HpI z M (Sp.cnt M) ∧ Sp.Wiped z (Sp.cnt M)
theorem HpIs.lt {w : World} {b : Nat} {M : Nat → Option Int} (h : HpIs w b M) : b < w.heap.size := by
  obtain ⟨z, h, -⟩ := h; exact h.lt
theorem HpIs.below {w w' : World} {b : Nat} {M : Nat → Option Int} (h : HpIs w b M) (hb : Below w.heap.size w w') : HpIs w' b M := by
  obtain ⟨z, h, h2⟩ := h; exact ⟨z, h.below hb, h2⟩
theorem HpIs.of_block {w w' : World} {b : Nat} {M : Nat → Option Int} (h : HpIs w b M) (e : w'.heap[b]? = w.heap[b]?) : HpIs w' b M := by
  obtain ⟨z, h, h2⟩ := h; exact ⟨z, h.of_block e, h2⟩
theorem Sp.HpI.places {z : Nat → Int} {M : Nat → Option Int} {n : Nat} (h : Sp.HpI z M n) : ∀ j, j < 300 → 0 ≤ z (601 + j) ∧ z (601 + j) ≤ 300 := fun j hj => by
  have := h.le
  rcases h.pl j hj with ⟨a, -⟩ | ⟨i, hi, a, -⟩ <;> rw [a] <;> omega
theorem Sp.HpI.inj {z : Nat → Int} {M : Nat → Option Int} {n : Nat} (h : Sp.HpI z M n) {i j : Nat} (hi : i < n) (hj : j < n) (e : z (i * 2) = z (j * 2)) : i = j := by
  obtain ⟨k, hk, a, b, -⟩ := h.it i hi
  obtain ⟨k', hk', a', b', -⟩ := h.it j hj
  have : k = k' := by omega
  subst this
  omega
/-- A key that is there is put anew: its place is free for it. -/
theorem Sp.HpI.anew {z : Nat → Int} {M : Nat → Option Int} {n f k : Nat} (h : Sp.HpI z M n) (hf : f < n) (hk : k < 300) (hz : z (f * 2) = (k : Int)) (r : Int) : Sp.HoI z (Sp.put M k (some r)) n f k r := by
  obtain ⟨k0, hk0, a0, b0, c0⟩ := h.it f hf
  obtain rfl : k = k0 := by omega
  refine ⟨h.many, h.le, hf, hk, Sp.put_same _ _ _, fun i hi hif => ?_, fun k' hk' hkk => ?_, fun i h0 hi _ _ => h.ord i h0 hi, fun i h0 hi hp hf0 => ?_, fun k' hk' => ?_, ?_⟩
  · obtain ⟨k1, hk1, a1, b1, c1⟩ := h.it i hi
    have hne : k1 ≠ k := fun e => hif (h.inj hi hf (by rw [a1, hz, e]))
    exact ⟨k1, hk1, hne, a1, b1, by rw [Sp.put_other _ _ hne]; exact c1⟩
  · rw [Sp.put_other _ _ hkk]
    rcases h.pl k' hk' with a | ⟨i, hi, a, b⟩
    · exact .inl a
    · exact .inr ⟨i, hi, fun e => by subst e; omega, a, b⟩
  · have := h.ord i h0 hi
    rw [hp] at this
    exact Sp.ah_trans this (h.ord f hf0 hf)
  · rw [Sp.put_other _ _ (by omega)]; exact h.out k' hk'
  · rw [Sp.cnt_anew M k r _ hk c0]; exact h.cnt
/-- A new key: a place behind the row is free for it. -/
theorem Sp.HpI.new {z : Nat → Int} {M : Nat → Option Int} {n k : Nat} (h : Sp.HpI z M n) (hk : k < 300) (hm : M k = none) (r : Int) : Sp.HoI (Sp.upd z 600 ((n : Int) + 1)) (Sp.put M k (some r)) (n + 1) n k r := by
  have hc := Sp.cnt_add M k r hk hm
  have hle := Sp.cnt_le (Sp.put M k (some r))
  have hcn := h.cnt
  have e1 : ∀ i, i < 300 → Sp.upd z 600 ((n : Int) + 1) (i * 2) = z (i * 2) ∧ Sp.upd z 600 ((n : Int) + 1) (i * 2 + 1) = z (i * 2 + 1) := fun i hi => ⟨Sp.upd_other _ _ (by omega), Sp.upd_other _ _ (by omega)⟩
  have e2 : ∀ j, Sp.upd z 600 ((n : Int) + 1) (601 + j) = z (601 + j) := fun j => Sp.upd_other _ _ (by omega)
  refine ⟨by rw [Sp.upd_same]; rfl, by omega, by omega, hk, Sp.put_same _ _ _, fun i hi hif => ?_, fun k' hk' hkk => ?_, fun i h0 hi hin hp => ?_, fun i h0 hi hp hf0 => by omega, fun k' hk' => ?_, by omega⟩
  · obtain ⟨k1, hk1, a1, b1, c1⟩ := h.it i (by omega)
    have hne : k1 ≠ k := fun e => by subst e; rw [hm] at c1; cases c1
    exact ⟨k1, hk1, hne, by rw [(e1 i (by omega)).1]; exact a1, by rw [e2]; exact b1, by rw [Sp.put_other _ _ hne, (e1 i (by omega)).2]; exact c1⟩
  · rw [Sp.put_other _ _ hkk, e2]
    rcases h.pl k' hk' with a | ⟨i, hi, a, b⟩
    · exact .inl a
    · exact .inr ⟨i, by omega, by omega, a, by rw [(e1 i (by omega)).1]; exact b⟩
  · unfold Sp.ah
    rw [(e1 i (by omega)).1, (e1 i (by omega)).2, (e1 _ (by omega)).1, (e1 _ (by omega)).2]
    exact h.ord i h0 (by omega)
  · rw [Sp.put_other _ _ (by omega)]; exact h.out k' hk'
/-- The row without its last item, the one at p taken away: place p is free for the last. -/
theorem Sp.HpI.less {z : Nat → Int} {M : Nat → Option Int} {m p kp km : Nat} (h : Sp.HpI z M (m + 1)) (hp : p < m) (hzp : z (p * 2) = (kp : Int)) (hzm : z (m * 2) = (km : Int)) :
    Sp.HoI (Sp.upd (Sp.upd z 600 (m : Int)) (601 + kp) 0) (Sp.put M kp none) m p km (z (m * 2 + 1)) := by
  have hle := h.le
  obtain ⟨k0, hk0, a0, b0, c0⟩ := h.it p (by omega)
  obtain rfl : kp = k0 := by omega
  obtain ⟨k1, hk1, a1, b1, c1⟩ := h.it m (by omega)
  obtain rfl : km = k1 := by omega
  have hne : km ≠ kp := fun e => by subst e; omega
  have e0 : ∀ i, i < 300 → Sp.upd (Sp.upd z 600 (m : Int)) (601 + kp) 0 (i * 2) = z (i * 2) ∧ Sp.upd (Sp.upd z 600 (m : Int)) (601 + kp) 0 (i * 2 + 1) = z (i * 2 + 1) := fun i hi => ⟨by rw [Sp.upd_other _ _ (by omega), Sp.upd_other _ _ (by omega)], by rw [Sp.upd_other _ _ (by omega), Sp.upd_other _ _ (by omega)]⟩
  have e2 : ∀ j, j ≠ kp → Sp.upd (Sp.upd z 600 (m : Int)) (601 + kp) 0 (601 + j) = z (601 + j) := fun j hj => by rw [Sp.upd_other _ _ (by omega), Sp.upd_other _ _ (by omega)]
  refine ⟨by rw [Sp.upd_other _ _ (by omega), Sp.upd_same], by omega, hp, hk1, by rw [Sp.put_other _ _ hne]; exact c1, fun i hi hif => ?_, fun k' hk' hkk => ?_, fun i h0 hi hin hpp => ?_, fun i h0 hi hpp hf0 => ?_, fun k' hk' => ?_, ?_⟩
  · obtain ⟨k2, hk2, a2, b2, c2⟩ := h.it i (by omega)
    have n1 : k2 ≠ km := fun e => by subst e; omega
    have n2 : k2 ≠ kp := fun e => by subst e; omega
    exact ⟨k2, hk2, n1, by rw [(e0 i (by omega)).1]; exact a2, by rw [e2 _ n2]; exact b2, by rw [Sp.put_other _ _ n2, (e0 i (by omega)).2]; exact c2⟩
  · by_cases hkp : k' = kp
    · subst hkp
      exact .inl ⟨Sp.upd_same _ _ _, Sp.put_same _ _ _⟩
    · rw [e2 _ hkp, Sp.put_other _ _ hkp]
      rcases h.pl k' hk' with a | ⟨i, hi, a, b⟩
      · exact .inl a
      · have n1 : i ≠ m := fun e => by subst e; omega
        have n2 : i ≠ p := fun e => by subst e; omega
        exact .inr ⟨i, by omega, n2, a, by rw [(e0 i (by omega)).1]; exact b⟩
  · unfold Sp.ah
    rw [(e0 i (by omega)).1, (e0 i (by omega)).2, (e0 _ (by omega)).1, (e0 _ (by omega)).2]
    exact h.ord i h0 (by omega)
  · have h1 := h.ord i h0 (by omega)
    rw [hpp] at h1
    have h2 := Sp.ah_trans h1 (h.ord p hf0 (by omega))
    unfold Sp.ah at *
    rw [(e0 i (by omega)).1, (e0 i (by omega)).2, (e0 _ (by omega)).1, (e0 _ (by omega)).2]
    exact h2
  · rw [Sp.put_other _ _ (by omega)]; exact h.out k' hk'
  · have := Sp.cnt_drop M kp _ hk0 c0
    have := h.cnt
    omega
theorem Sp.HpI.last {z : Nat → Int} {M : Nat → Option Int} {m kp : Nat} (h : Sp.HpI z M (m + 1)) (hzp : z (m * 2) = (kp : Int)) :
    Sp.HpI (Sp.upd (Sp.upd z 600 (m : Int)) (601 + kp) 0) (Sp.put M kp none) m := by
  have hle := h.le
  obtain ⟨k0, hk0, a0, b0, c0⟩ := h.it m (by omega)
  obtain rfl : kp = k0 := by omega
  have e0 : ∀ i, i < 300 → Sp.upd (Sp.upd z 600 (m : Int)) (601 + kp) 0 (i * 2) = z (i * 2) ∧ Sp.upd (Sp.upd z 600 (m : Int)) (601 + kp) 0 (i * 2 + 1) = z (i * 2 + 1) := fun i hi => ⟨by rw [Sp.upd_other _ _ (by omega), Sp.upd_other _ _ (by omega)], by rw [Sp.upd_other _ _ (by omega), Sp.upd_other _ _ (by omega)]⟩
  have e2 : ∀ j, j ≠ kp → Sp.upd (Sp.upd z 600 (m : Int)) (601 + kp) 0 (601 + j) = z (601 + j) := fun j hj => by rw [Sp.upd_other _ _ (by omega), Sp.upd_other _ _ (by omega)]
  refine ⟨by rw [Sp.upd_other _ _ (by omega), Sp.upd_same], by omega, fun i hi => ?_, fun k' hk' => ?_, fun i h0 hi => ?_, fun k' hk' => ?_, ?_⟩
  · obtain ⟨k2, hk2, a2, b2, c2⟩ := h.it i (by omega)
    have n2 : k2 ≠ kp := fun e => by subst e; omega
    exact ⟨k2, hk2, by rw [(e0 i (by omega)).1]; exact a2, by rw [e2 _ n2]; exact b2, by rw [Sp.put_other _ _ n2, (e0 i (by omega)).2]; exact c2⟩
  · by_cases hkp : k' = kp
    · subst hkp
      exact .inl ⟨Sp.upd_same _ _ _, Sp.put_same _ _ _⟩
    · rw [e2 _ hkp, Sp.put_other _ _ hkp]
      rcases h.pl k' hk' with a | ⟨i, hi, a, b⟩
      · exact .inl a
      · have n1 : i ≠ m := fun e => by subst e; omega
        exact .inr ⟨i, by omega, a, by rw [(e0 i (by omega)).1]; exact b⟩
  · unfold Sp.ah
    rw [(e0 i (by omega)).1, (e0 i (by omega)).2, (e0 _ (by omega)).1, (e0 _ (by omega)).2]
    exact h.ord i h0 (by omega)
  · rw [Sp.put_other _ _ (by omega)]; exact h.out k' hk'
  · have := Sp.cnt_drop M kp _ hk0 c0
    have := h.cnt
    omega
/-- The first item is ahead of all others. -/
theorem Sp.HpI.first {z : Nat → Int} {M : Nat → Option Int} {n : Nat} (h : Sp.HpI z M n) : ∀ i, i < n → Sp.ah z i 0 = false := by
  intro i
  induction i using Nat.strongRecOn with
  | ind i ih =>
    intro hi
    by_cases h0 : i = 0
    · subst h0; unfold Sp.ah; rw [Sp.ahead_no]; omega
    · exact Sp.ah_trans (h.ord i (by omega) hi) (ih _ (by omega) (by omega))
end Go.Proofs.Ytfcknfodejnhnaa


/- Package heap: remove. -/
namespace Go.Proofs.Ytfcknfodejnhnaa
open Go Go.RowKit

theorem wiped_is {w : World} {b m : Nat} {z : Nat → Int} {M : Nat → Option Int} (h : HpAt w b z) (hi : Sp.HpI z M m) (hw : Sp.Wiped z (m + 1)) (hm : m < 300) :
    HpIs ((w.setCell ⟨b, m * 2, none⟩ (.int .i64 0)).setCell ⟨b, m * 2 + 1, none⟩ (.int .i64 0)).drew b M := by
  have hc := hi.cnt
  refine ⟨_, ((h.set _ _).set _ _).drew, ?_, ?_⟩
  · rw [← hc]
    exact hi.congr (by rw [Sp.upd_other _ _ (by omega), Sp.upd_other _ _ (by omega)]) (fun k hk => by rw [Sp.upd_other _ _ (by omega), Sp.upd_other _ _ (by omega)]) (fun i hi' => ⟨by rw [Sp.upd_other _ _ (by omega), Sp.upd_other _ _ (by omega)], by rw [Sp.upd_other _ _ (by omega), Sp.upd_other _ _ (by omega)]⟩)
  · rw [← hc]
    intro i h1 h2
    by_cases him : i = m
    · subst him
      rw [Sp.upd_other _ _ (by omega), Sp.upd_same, Sp.upd_same]; exact ⟨rfl, rfl⟩
    · rw [Sp.upd_other _ _ (by omega), Sp.upd_other _ _ (by omega), Sp.upd_other _ _ (by omega), Sp.upd_other _ _ (by omega)]
      exact hw i (by omega) h2
theorem run_clear_item (w : World) (b : Nat) (z : Nat → Int) (m c : Nat) (h : HpAt w b z) (hm : m < 300) (ty : TypeId) :
    (Builtin.clear_ #[50] ty #[.slice (some ⟨b, m * 2, none⟩) 1 c]).run Try.prog w.drew = .ok (.tuple #[]) ((w.setCell ⟨b, m * 2, none⟩ (.int .i64 0)).setCell ⟨b, m * 2 + 1, none⟩ (.int .i64 0)).drew := by
  have c0 := h.cell (j := m * 2) (by omega)
  have c1 := h.cell (j := m * 2 + 1) (by omega)
  have c1' : (w.setCell ⟨b, m * 2, none⟩ (.int .i64 0)).cell? ⟨b, m * 2 + 1, none⟩ = some (.int .i64 (z (m * 2 + 1))) := by rw [cell_set_ne (by omega)]; exact c1
  have f := fun j => h.frozen j none
  have ht : Try.prog.underlying 50 = some (.slice 32) := by rfl
  have hv : ∀ w, (zeroValue 32).run Try.prog w = .ok (.agg #[.int .i64 0, .int .i64 0]) w := fun w => by rfl
  have hzc : (Builtin.zeroCells (Value.agg #[.int .i64 0, .int .i64 0]).cells 1).toList = [.int .i64 0, .int .i64 0] := by
    show (Builtin.zeroCells #[.int .i64 0, .int .i64 0] 1).toList = _
    simp [Builtin.zeroCells, List.range_succ]
  have hst := run_storeCells_cells (P := Try.prog) b (m * 2) [.int .i64 0, .int .i64 0] 0 w.drew (fun j hj => by
    rcases j with _ | _ | j
    · rw [World.cell?_drew]; simp [c0]
    · rw [World.cell?_drew]; simp [c1]
    · simp at hj; omega) (fun j _ => f _) (fun v hv' => by
    simp at hv'; subst hv'; rfl)
  simp only [Nat.add_zero] at hst
  simp [Builtin.clear_, run_underlying ht, hv, hzc, hst]
  rfl
theorem run_slice_item (b m : Nat) (hm : m < 300) (w : World) : (Instr.sliceAt 47 (.pointer (some ⟨b, 0, none⟩)) (some (.int .i64 (m : Int))) (some (.int .i64 ((m : Int) + 1))) none).run Try.prog w = .ok (.slice (some ⟨b, m * 2, none⟩) 1 (300 - m)) w := by
  have ht : Try.prog.underlying 47 = some (.array (Try.prog.arrayLen 47) (Try.prog.elem 47)) := by rfl
  have hn : Try.prog.arrayLen 47 = 300 := by rfl
  have hs : ∀ w, (sizeOf (Try.prog.elem 47)).run Try.prog w = .ok 2 w := fun w => by rfl
  rw [run_sliceAt_array_lh w _ _ ht .i64 .i64 _ _ (by omega) (by omega) (by rw [hn]; omega), hs, hn]
  simp only [Result.andThen_ok, slicedAt, Addr.add]
  have e1 : ((m : Int)).toNat = m := by omega
  have e2 : ((m : Int) + 1).toNat = m + 1 := by omega
  rw [e1, e2, if_neg (by omega)]
  have e3 : m + 1 - m = 1 := by omega
  rw [e3]
  by_cases h0 : m = 0
  · subst h0; rfl
  · rw [if_neg (by omega), Nat.zero_add]
set_option maxRecDepth 100000 in
set_option maxHeartbeats 4000000 in
theorem remove_any (z : Nat → Int) (M : Nat → Option Int) (b m p kp : Nat) (w : World) (h : HpAt w b z) (hi : Sp.HpI z M (m + 1)) (hw : Sp.Wiped z (m + 1)) (hp : p < m + 1) (hzp : z (p * 2) = (kp : Int)) :
    Calls Try.prog 29 #[.pointer (some ⟨b, 0, none⟩), .int .i64 (p : Int)] w fun e w' => e = .returned (.tuple #[]) ∧ But b w w' ∧ HpIs w' b (Sp.put M kp none) := by
  have hle := hi.le
  have hb := h.lt
  obtain ⟨k0, hk0, a0, -, -⟩ := hi.it p hp
  obtain rfl : kp = k0 := by omega
  obtain ⟨km, hkm, hzm, -, -⟩ := hi.it m (by omega)
  have c6 := h.cell (j := 600) (by omega)
  rw [hi.many] at c6
  have f6 := h.frozen 600 none
  have hm1 : (m : Int) < 300 := by omega
  have hpI : (p : Int) < 300 := by omega
  have H0 := hide (And.intro h (And.intro hi hw))
  have HZ := hide (And.intro hzp (And.intro hzm a0))
  have hm2 : ((m + 1 : Nat) : Int) - 1 = (m : Int) := by omega
  rw [show (((m + 1 : Nat) : Int)) = (m : Int) + 1 from rfl] at c6
  have hm3 : (m : Int) + 1 - 1 = (m : Int) := by omega
  clear h hi hw hzp hzm a0 hm2
  obtain ⟨P, hP⟩ : ∃ P : Ending → World → Prop, P = fun e w' => e = .returned (.tuple #[]) ∧ But b w w' ∧ HpIs w' b (Sp.put M kp none) := ⟨_, rfl⟩
  rw [← hP]
  have HP := hide hP
  clear hP
  go_enter Try.func29, Try.ntmps29
  go_wp2_with fail
  obtain ⟨W1, hW1⟩ : ∃ W1, W1 = w.setCell ⟨b, 600, none⟩ (.int .i64 (m : Int)) := ⟨_, rfl⟩
  have h1 : HpAt W1 b (Sp.upd z 600 (m : Int)) := by rw [hW1]; exact (unhide H0).1.set _ _
  have HB1 : Hid (But b w W1) := hide (by rw [hW1]; exact (But.refl b w).set _ _ _)
  have hs1 : Hid (W1.heap.size = w.heap.size) := hide (by rw [hW1]; simp [World.setCell])
  rw [← hW1]
  clear hW1 c6 f6
  have c6 := h1.cell (j := 600) (by omega)
  rw [Sp.upd_same] at c6
  have c0 := h1.cell (j := m * 2) (by omega)
  rw [Sp.upd_other _ _ (by omega), (unhide HZ).2.1] at c0
  have c1 := h1.cell (j := m * 2 + 1) (by omega)
  rw [Sp.upd_other _ _ (by omega)] at c1
  have g6 := fun o => (h1.alloc o).cell (j := 600) (by omega)
  rw [Sp.upd_same] at g6
  have g0 := fun o => (h1.alloc o).cell (j := m * 2) (by omega)
  rw [Sp.upd_other _ _ (by omega), (unhide HZ).2.1] at g0
  have g1 := fun o => (h1.alloc o).cell (j := m * 2 + 1) (by omega)
  rw [Sp.upd_other _ _ (by omega)] at g1
  have H1 := hide h1
  clear h1
  obtain ⟨rm, hrm⟩ : ∃ rm, z (m * 2 + 1) = rm := ⟨_, rfl⟩
  rw [hrm] at c1 g1
  have HRM := hide hrm
  clear hrm
  go_region
  go_wp2_with fail
  obtain ⟨W2, hW2⟩ : ∃ W2, W2 = (W1.alloc (.cells #[.int .i64 (km : Int), .int .i64 rm] 32)).drew := ⟨_, rfl⟩
  have h2 : HpAt W2 b (Sp.upd z 600 (m : Int)) := by rw [hW2]; exact ((unhide H1).alloc _).drew
  have HB2 : Hid (But b w W2) := hide (by rw [hW2]; exact ((unhide HB1).alloc _).drew)
  obtain ⟨y0, y1⟩ : W2.cell? ⟨W1.heap.size, 0, none⟩ = some (.int .i64 (km : Int)) ∧ W2.cell? ⟨W1.heap.size, 1, none⟩ = some (.int .i64 rm) := by rw [hW2]; exact item_new W1 _ _
  rw [← hW2]
  obtain ⟨B1, hB1⟩ : ∃ B1, B1 = W1.heap.size := ⟨_, rfl⟩
  have hbB : b ≠ B1 := by rw [hB1, unhide hs1]; omega
  rw [← hB1] at y0 y1 ⊢
  clear hW2 c6 c0 c1 g6 g0 g1 H1 HB1 hs1 hB1
  have hkpI : (kp : Int) < 300 := by omega
  have c0 := h2.cell (j := p * 2) (by omega)
  rw [Sp.upd_other _ _ (by omega), (unhide HZ).1] at c0
  have c1 := h2.cell (j := 601 + kp) (by omega)
  have f1 := fun j => h2.frozen j none
  have H2 := hide h2
  clear h2
  go_region
  obtain ⟨W3, hW3⟩ : ∃ W3, W3 = (W2.setCell ⟨b, 601 + kp, none⟩ (.int .i64 0)).drew := ⟨_, rfl⟩
  have h3 : HpAt W3 b (Sp.upd (Sp.upd z 600 (m : Int)) (601 + kp) 0) := by rw [hW3]; exact ((unhide H2).set _ _).drew
  have HB3 : Hid (But b w W3) := hide (by rw [hW3]; exact ((unhide HB2).set _ _ _).drew)
  have x0 : W3.cell? ⟨B1, 0, none⟩ = some (.int .i64 (km : Int)) := by
    rw [hW3]; show World.cell? (World.setCell _ _ _) _ = _; rw [cell_set_ne (by omega)]; exact y0
  have x1 : W3.cell? ⟨B1, 1, none⟩ = some (.int .i64 rm) := by
    rw [hW3]; show World.cell? (World.setCell _ _ _) _ = _; rw [cell_set_ne (by omega)]; exact y1
  rw [← hW3]
  clear hW3 c0 c1 f1 y0 y1 H2 HB2
  have c6 := h3.cell (j := 600) (by omega)
  rw [Sp.upd_other _ _ (by omega), Sp.upd_same] at c6
  have HWi : Hid (∀ i, m + 1 ≤ i → i < 300 → Sp.upd (Sp.upd z 600 (m : Int)) (601 + kp) 0 (i * 2) = 0 ∧ Sp.upd (Sp.upd z 600 (m : Int)) (601 + kp) 0 (i * 2 + 1) = 0) := hide fun i h1 h2 => by
    rw [Sp.upd_other _ _ (by omega), Sp.upd_other _ _ (by omega), Sp.upd_other _ _ (by omega), Sp.upd_other _ _ (by omega)]
    exact (unhide H0).2.2 i h1 h2
  by_cases hpm : p < m
  · have hpmI : (p : Int) < (m : Int) := by omega
    have hS := (unhide H0).2.1.less hpm (unhide HZ).1 (unhide HZ).2.1
    rw [unhide HRM] at hS
    have H3 := hide (And.intro h3 hS)
    clear h3 hS
    go_wp2_with fail
    refine (settle_any _ _ b m p km rm W3 (unhide H3).1 (unhide H3).2).mono ?_
    rintro e w4 ⟨z4, rfl, hb4, ha4, hi4, hu4⟩
    have H4 : Hid (But b w w4 ∧ HpAt w4 b z4 ∧ Sp.HpI z4 (Sp.put M kp none) m ∧ Sp.Wiped z4 (m + 1)) := hide ⟨(unhide HB3).trans hb4, ha4, hi4, fun i h1 h2 => by
      rw [(hu4 i (by omega) h2).1, (hu4 i (by omega) h2).2]; exact unhide HWi i h1 h2⟩
    clear hb4 ha4 hi4 hu4 H3 x0 x1 c6 HWi HB3
    have c6 := (unhide H4).2.1.cell (j := 600) (by omega)
    rw [(unhide H4).2.2.1.many] at c6
    have c0 := (unhide H4).2.1.cell (j := m * 2) (by omega)
    have c1 := (unhide H4).2.1.cell (j := m * 2 + 1) (by omega)
    have hwm : IntKind.i64.wrap ((m : Int) + 1) = (m : Int) + 1 := by rw [IntKind.wrap_i64]; omega
    have hsl := run_slice_item b m (by omega)
    have hcl : ∀ ty, (Builtin.clear_ #[50] ty #[.slice (some ⟨b, m * 2, none⟩) 1 (300 - m)]).run Try.prog w4.drew = .ok (.tuple #[]) ((w4.setCell ⟨b, m * 2, none⟩ (.int .i64 0)).setCell ⟨b, m * 2 + 1, none⟩ (.int .i64 0)).drew := fun ty => run_clear_item w4 b _ m (300 - m) (unhide H4).2.1 (by omega) ty
    have HF : Hid (But b w ((w4.setCell ⟨b, m * 2, none⟩ (.int .i64 0)).setCell ⟨b, m * 2 + 1, none⟩ (.int .i64 0)).drew ∧ HpIs ((w4.setCell ⟨b, m * 2, none⟩ (.int .i64 0)).setCell ⟨b, m * 2 + 1, none⟩ (.int .i64 0)).drew b (Sp.put M kp none)) := hide ⟨(((unhide H4).1.set _ _ _).set _ _ _).drew, wiped_is (unhide H4).2.1 (unhide H4).2.2.1 (unhide H4).2.2.2 (by omega)⟩
    clear H4
    go_wp2_with fail
    go_region
    go_wp2
    go_end0
    rw [unhide HP]
    exact ⟨rfl, unhide HF⟩
  · have hpmI : ¬ (p : Int) < (m : Int) := by omega
    obtain rfl : p = m := by omega
    have H4 : Hid (But b w W3 ∧ HpAt W3 b (Sp.upd (Sp.upd z 600 (p : Int)) (601 + kp) 0) ∧ Sp.HpI (Sp.upd (Sp.upd z 600 (p : Int)) (601 + kp) 0) (Sp.put M kp none) p ∧ Sp.Wiped (Sp.upd (Sp.upd z 600 (p : Int)) (601 + kp) 0) (p + 1)) := hide ⟨unhide HB3, h3, (unhide H0).2.1.last (unhide HZ).1, unhide HWi⟩
    clear h3 x0 x1 HWi HB3
    go_wp2_with fail
    clear c6
    have c6 := (unhide H4).2.1.cell (j := 600) (by omega)
    rw [(unhide H4).2.2.1.many] at c6
    have c0 := (unhide H4).2.1.cell (j := p * 2) (by omega)
    have c1 := (unhide H4).2.1.cell (j := p * 2 + 1) (by omega)
    have hwm : IntKind.i64.wrap ((p : Int) + 1) = (p : Int) + 1 := by rw [IntKind.wrap_i64]; omega
    have hsl := run_slice_item b p (by omega)
    have hcl : ∀ ty, (Builtin.clear_ #[50] ty #[.slice (some ⟨b, p * 2, none⟩) 1 (300 - p)]).run Try.prog W3.drew = .ok (.tuple #[]) ((W3.setCell ⟨b, p * 2, none⟩ (.int .i64 0)).setCell ⟨b, p * 2 + 1, none⟩ (.int .i64 0)).drew := fun ty => run_clear_item W3 b _ p (300 - p) (unhide H4).2.1 (by omega) ty
    have HF : Hid (But b w ((W3.setCell ⟨b, p * 2, none⟩ (.int .i64 0)).setCell ⟨b, p * 2 + 1, none⟩ (.int .i64 0)).drew ∧ HpIs ((W3.setCell ⟨b, p * 2, none⟩ (.int .i64 0)).setCell ⟨b, p * 2 + 1, none⟩ (.int .i64 0)).drew b (Sp.put M kp none)) := hide ⟨(((unhide H4).1.set _ _ _).set _ _ _).drew, wiped_is (unhide H4).2.1 (unhide H4).2.2.1 (unhide H4).2.2.2 (by omega)⟩
    clear H4
    go_wp2_with fail
    go_region
    go_wp2
    go_end0
    rw [unhide HP]
    exact ⟨rfl, unhide HF⟩
end Go.Proofs.Ytfcknfodejnhnaa


/- Package heap: New, Len. -/
namespace Go.Proofs.Ytfcknfodejnhnaa
open Go Go.RowKit

set_option maxRecDepth 100000 in
set_option maxHeartbeats 4000000 in
theorem hlen_any (M : Nat → Option Int) (b : Nat) (w : World) (h : HpIs w b M) :
    Calls Try.prog 14 #[.pointer (some ⟨b, 0, none⟩)] w fun e w' => e = .returned (.int .i64 (Sp.cnt M : Int)) ∧ w' = w := by
  obtain ⟨z, h1, h2, -⟩ := h
  have c6 := h1.cell (j := 600) (by omega)
  rw [h2.many] at c6
  generalize Sp.cnt M = n at *
  clear h1 h2
  go_enter Try.func14, Try.ntmps14
  go_wp2
  go_ret
  exact ⟨rfl, rfl⟩
theorem hnew_zero (w : World) : (zeroValue 49).run Try.prog w = .ok (.agg (List.replicate 901 (.int .i64 0)).toArray) w :=
  (zero_of_info (P := Try.prog) (t := 49) (v := .agg (List.replicate 901 (.int .i64 0)).toArray) (n := 901) (by kernel_rfl)).1 w
set_option maxRecDepth 100000 in
set_option maxHeartbeats 4000000 in
theorem hnew_any (w : World) :
    Calls Try.prog 10 #[] w fun e w' => e = .returned (.pointer (some ⟨w.heap.size, 0, none⟩)) ∧ w' = w.alloc (.cells (List.replicate 901 (.int .i64 0)).toArray 49) := by
  have hz := hnew_zero
  generalize (List.replicate 901 (Value.int .i64 0)).toArray = Z at *
  go_enter Try.func10, Try.ntmps10
  go_wp2
  go_ret
  exact ⟨rfl, rfl⟩
theorem Sp.cntN_none : ∀ N, Sp.cntN (fun _ => none) N = 0
  | 0 => rfl
  | N + 1 => by simp [Sp.cntN, Sp.cntN_none N]
theorem hnew_is (w : World) : HpIs (w.alloc (.cells (List.replicate 901 (.int .i64 0)).toArray 49)) w.heap.size (fun _ => none) := by
  have hc : Sp.cnt (fun _ => none) = 0 := Sp.cntN_none 300
  refine ⟨fun _ => 0, ⟨(List.replicate 901 (.int .i64 0)).toArray, ?_, by rw [List.size_toArray, List.length_replicate], fun j hj => ?_⟩, ?_, fun i _ _ => ⟨rfl, rfl⟩⟩
  · show (w.heap.push _)[w.heap.size]? = _
    rw [Array.getElem?_push, if_pos rfl]
  · rw [List.getElem?_toArray, List.getElem?_replicate, if_pos hj]
  · rw [hc]
    exact ⟨rfl, by omega, fun i hi => by omega, fun k _ => .inl ⟨rfl, rfl⟩, fun i _ hi => by omega, fun _ _ => rfl, hc.symm⟩

/-- A key's rank. -/
def Sp.look (M : Nat → Option Int) (k : Int) : Option Int := if 0 ≤ k then M k.toNat else none
theorem Sp.HpI.look_none {z : Nat → Int} {M : Nat → Option Int} {n : Nat} (h : Sp.HpI z M n) {k : Int} (hl : Sp.look M k = none) : Sp.findB z k = false ∧ Sp.findP z k = 0 := by
  have : Sp.findB z k = false := by
    rw [Sp.findB, decide_eq_false_iff_not]
    rintro ⟨h0, h1, h2⟩
    rw [Sp.look, if_pos h0] at hl
    rcases h.pl k.toNat (by omega) with ⟨a, -⟩ | ⟨i, hi, a, b⟩
    · exact h2 a
    · obtain ⟨k', -, c, -, d⟩ := h.it i hi
      have : k' = k.toNat := by omega
      rw [this, hl] at d
      cases d
  exact ⟨this, by rw [Sp.findP, this]; rfl⟩
theorem Sp.HpI.look_some {z : Nat → Int} {M : Nat → Option Int} {n : Nat} (h : Sp.HpI z M n) {k r : Int} (hl : Sp.look M k = some r) : ∃ i j : Nat, Sp.findB z k = true ∧ Sp.findP z k = (i : Int) ∧ i < n ∧ k = (j : Int) ∧ j < 300 ∧ z (i * 2) = (j : Int) ∧ z (i * 2 + 1) = r ∧ M j = some r := by
  by_cases h0 : 0 ≤ k
  · rw [Sp.look, if_pos h0] at hl
    obtain ⟨j, rfl⟩ : ∃ j : Nat, k = (j : Int) := ⟨k.toNat, by omega⟩
    rw [Int.toNat_natCast] at hl
    have hj : j < 300 := by
      rcases Nat.lt_or_ge j 300 with h1 | h1
      · exact h1
      · rw [h.out j h1] at hl; cases hl
    rcases h.pl j hj with ⟨-, a⟩ | ⟨i, hi, a, b⟩
    · rw [hl] at a; cases a
    · obtain ⟨k', -, c, -, d⟩ := h.it i hi
      obtain rfl : k' = j := by omega
      rw [hl] at d
      have hB : Sp.findB z (k' : Int) = true := by rw [Sp.findB, decide_eq_true_eq, Int.toNat_natCast]; omega
      exact ⟨i, k', hB, by rw [Sp.findP, if_pos hB, Int.toNat_natCast]; omega, hi, rfl, hj, b, (Option.some.inj d).symm, hl⟩
  · rw [Sp.look, if_neg h0] at hl; cases hl
end Go.Proofs.Ytfcknfodejnhnaa


/- Package heap: Put, Drop, Least, Take. -/
namespace Go.Proofs.Ytfcknfodejnhnaa
open Go Go.RowKit

/-- What a heap holds behind Put, behind Drop. -/
def Sp.putK (M : Nat → Option Int) (k r : Int) : Nat → Option Int := if 0 ≤ k ∧ k < 300 then Sp.put M k.toNat (some r) else M
theorem up_wiped {z z' : Nat → Int} {n : Nat} (h : Sp.Wiped z n) (hu : Sp.Up n z z') : Sp.Wiped z' n := fun i h1 h2 => by
  rw [(hu i h1 h2).1, (hu i h1 h2).2]; exact h i h1 h2
theorem HpIs.of_settled {w : World} {b n : Nat} {z : Nat → Int} {M : Nat → Option Int} (h : HpAt w b z) (hi : Sp.HpI z M n) (hw : Sp.Wiped z n) : HpIs w b M := by
  have := hi.cnt
  subst this
  exact ⟨z, h, hi, hw⟩
set_option maxRecDepth 100000 in
set_option maxHeartbeats 4000000 in
theorem hput_any (M : Nat → Option Int) (b : Nat) (k r : Int) (w : World) (h : HpIs w b M) :
    Calls Try.prog 18 #[.pointer (some ⟨b, 0, none⟩), .int .i64 k, .int .i64 r] w fun e w' => e = .returned (.bool (decide (0 ≤ k ∧ k < 300))) ∧ But b w w' ∧ HpIs w' b (Sp.putK M k r) := by
  have hK := isKey_any k w
  by_cases hk : 0 ≤ k ∧ k < 300
  · rw [decide_eq_true hk] at hK ⊢
    have HPK : Hid (Sp.putK M k r = Sp.put M k.toNat (some r)) := hide (if_pos hk)
    obtain ⟨j, rfl⟩ : ∃ j : Nat, k = (j : Int) := ⟨k.toNat, by omega⟩
    rw [Int.toNat_natCast] at HPK
    have hj : j < 300 := by omega
    have HK := hide hK
    clear hK
    obtain ⟨z, h1, h2, h3⟩ := h
    have hF := find_any z b (j : Int) w h1 h2.places
    cases hl : Sp.look M (j : Int) with
    | none =>
      obtain ⟨e1, e2⟩ := h2.look_none hl
      rw [e1, e2] at hF
      rw [Sp.look, if_pos hk.1, Int.toNat_natCast] at hl
      have HF := hide hF
      have hI := h2.new hj hl r
      have hle := hI.le
      have c6 := h1.cell (j := 600) (by omega)
      rw [h2.many] at c6
      have f6 := h1.frozen 600 none
      have HW : Hid (Sp.Wiped (Sp.upd z 600 ((Sp.cnt M : Int) + 1)) (Sp.cnt M + 1)) := hide fun i g1 g2 => by
        rw [Sp.upd_other _ _ (by omega), Sp.upd_other _ _ (by omega)]; exact h3 i (by omega) g2
      have H1 := hide (And.intro h1 hI)
      generalize Sp.cnt M = n at *
      have hwn : IntKind.i64.wrap ((n : Int) + 1) = (n : Int) + 1 := by rw [IntKind.wrap_i64]; omega
      clear hF e1 e2 h1 h2 h3 hl hI hk
      go_enter Try.func18, Try.ntmps18
      go_wp2_with fail
      go_at_call 26
      refine (unhide HK).mono ?_
      rintro e w' ⟨rfl, hw'⟩
      have := hw'.symm
      subst this
      go_wp2_with fail
      go_at_call 27
      refine (unhide HF).mono ?_
      rintro e w' ⟨rfl, hw'⟩
      have := hw'.symm
      subst this
      go_wp2_with fail
      refine (settle_any _ _ b (n + 1) n j r _ ((unhide H1).1.set 600 ((n : Int) + 1)) (unhide H1).2).mono ?_
      rintro e w4 ⟨z4, rfl, hb4, ha4, hi4, hu4⟩
      have HQ : Hid (But b w w4 ∧ HpIs w4 b (Sp.putK M (j : Int) r)) := hide ⟨((But.refl b w).set _ _ _).trans hb4, by rw [unhide HPK]; exact HpIs.of_settled ha4 hi4 (up_wiped (unhide HW) hu4)⟩
      clear hb4 ha4 hi4 hu4 H1 HW
      go_wp2
      go_ret
      exact ⟨rfl, unhide HQ⟩
    | some r0 =>
      obtain ⟨i, j', e1, e2, hi, ej, hj', e3, e4, e5⟩ := h2.look_some hl
      obtain rfl : j = j' := by omega
      rw [e1, e2] at hF
      have HF := hide hF
      have hI := h2.anew hi hj e3 r
      have H1 := hide (And.intro h1 (And.intro hI h3))
      generalize Sp.cnt M = n at *
      clear hF e1 e2 h1 h2 h3 hl hI hk ej e3 e4 e5
      go_enter Try.func18, Try.ntmps18
      go_wp2_with fail
      go_at_call 26
      refine (unhide HK).mono ?_
      rintro e w' ⟨rfl, hw'⟩
      have := hw'.symm
      subst this
      go_wp2_with fail
      go_at_call 27
      refine (unhide HF).mono ?_
      rintro e w' ⟨rfl, hw'⟩
      have := hw'.symm
      subst this
      go_wp2_with fail
      refine (settle_any _ _ b n i j r _ (unhide H1).1 (unhide H1).2.1).mono ?_
      rintro e w4 ⟨z4, rfl, hb4, ha4, hi4, hu4⟩
      have HQ : Hid (But b w w4 ∧ HpIs w4 b (Sp.putK M (j : Int) r)) := hide ⟨hb4, by rw [unhide HPK]; exact HpIs.of_settled ha4 hi4 (up_wiped (unhide H1).2.2 hu4)⟩
      clear hb4 ha4 hi4 hu4 H1
      go_wp2
      go_ret
      exact ⟨rfl, unhide HQ⟩
  · rw [decide_eq_false hk] at hK ⊢
    have HQ : Hid (But b w w ∧ HpIs w b (Sp.putK M k r)) := hide ⟨But.refl _ _, by rw [Sp.putK, if_neg hk]; exact h⟩
    have HK := hide hK
    clear hK hk h
    go_enter Try.func18, Try.ntmps18
    go_wp2_with fail
    go_at_call 26
    refine (unhide HK).mono ?_
    rintro e w' ⟨rfl, hw'⟩
    have := hw'.symm
    subst this
    go_wp2
    go_ret
    exact ⟨rfl, unhide HQ⟩
end Go.Proofs.Ytfcknfodejnhnaa


/- Package heap: Least, Take. -/
namespace Go.Proofs.Ytfcknfodejnhnaa
open Go Go.RowKit

/-- What is ahead of all that M holds; nothing, of none. -/
def Sp.LeastIs (M : Nat → Option Int) (k r : Int) (is : Bool) : Prop :=
  (is = false ∧ k = 0 ∧ r = 0 ∧ ∀ j, M j = none) ∨ (is = true ∧ ∃ j : Nat, k = (j : Int) ∧ j < 300 ∧ M j = some r ∧ ∀ j' r', M j' = some r' → Sp.aheadB (j' : Int) r' k r = false)
theorem Sp.LeastIs.uniq {M : Nat → Option Int} {k r k' r' : Int} {is is' : Bool} (h : Sp.LeastIs M k r is) (h' : Sp.LeastIs M k' r' is') : k = k' ∧ r = r' ∧ is = is' := by
  rcases h with ⟨a, b, c, d⟩ | ⟨a, j, b, -, c, d⟩
  · rcases h' with ⟨a', b', c', d'⟩ | ⟨a', j', b', -, c', d'⟩
    · exact ⟨by omega, by omega, by rw [a, a']⟩
    · rw [d j'] at c'; cases c'
  · rcases h' with ⟨a', b', c', d'⟩ | ⟨a', j', b', -, c', d'⟩
    · rw [d' j] at c; cases c
    · have h1 := d j' r' c'
      have h2 := d' j r c
      rw [Sp.ahead_no] at h1 h2
      exact ⟨by omega, by omega, by rw [a, a']⟩
theorem Sp.HpI.least {z : Nat → Int} {M : Nat → Option Int} {n : Nat} (h : Sp.HpI z M n) (hw : Sp.Wiped z n) : Sp.LeastIs M (z (0 * 2)) (z (0 * 2 + 1)) (decide (0 < n)) := by
  by_cases h0 : 0 < n
  · obtain ⟨k, hk, a, b, c⟩ := h.it 0 h0
    refine .inr ⟨decide_eq_true h0, k, a, hk, c, fun j' r' hm => ?_⟩
    have hj : j' < 300 := by
      rcases Nat.lt_or_ge j' 300 with h1 | h1
      · exact h1
      · rw [h.out j' h1] at hm; cases hm
    rcases h.pl j' hj with ⟨-, e⟩ | ⟨i, hi, e, f⟩
    · rw [hm] at e; cases e
    · have := h.first i hi
      obtain ⟨k2, -, g, -, g2⟩ := h.it i hi
      have hk2 : k2 = j' := by omega
      rw [hk2, hm] at g2
      rw [← f, Option.some.inj g2]
      exact this
  · refine .inl ⟨decide_eq_false h0, (hw 0 (by omega) (by omega)).1, (hw 0 (by omega) (by omega)).2, fun j => ?_⟩
    rcases Nat.lt_or_ge j 300 with h1 | h1
    · rcases h.pl j h1 with ⟨-, e⟩ | ⟨i, hi, -, -⟩
      · exact e
      · omega
    · exact h.out j h1
theorem But.trans' {b : Nat} {u w w' : World} (h : But b u w) (k : Below u.heap.size w w') : But b u w' :=
  ⟨k.os.trans h.os, k.tape.trans h.tape, k.output.trans h.output, Nat.le_trans h.size k.size, fun i hi hb => (k.block i hi).trans (h.block i hi hb)⟩
set_option maxRecDepth 100000 in
set_option maxHeartbeats 4000000 in
theorem hleast0_any (z : Nat → Int) (n b : Nat) (w : World) (h : HpAt w b z) (hn : z 600 = (n : Int)) :
    Calls Try.prog 16 #[.pointer (some ⟨b, 0, none⟩)] w fun e w' => e = .returned (.tuple #[.agg #[.int .i64 (z (0 * 2)), .int .i64 (z (0 * 2 + 1))], .bool (decide (0 < n))]) ∧ Below w.heap.size w w' := by
  have hb := h.lt
  have c6 := fun o => (h.alloc o).cell (j := 600) (by omega)
  have d6 := h.cell (j := 600) (by omega)
  rw [hn] at c6 d6
  have c0 := fun o => (h.alloc o).cell (j := 0) (by omega)
  have c1 := fun o => (h.alloc o).cell (j := 1) (by omega)
  have d0 := h.cell (j := 0) (by omega)
  have d1 := h.cell (j := 1) (by omega)
  have HB : Hid (∀ o, Below w.heap.size w (w.alloc o).drew) := hide fun o => ((Below.refl _ w).alloc (Nat.le_refl _) o).drew
  show Calls Try.prog 16 #[.pointer (some ⟨b, 0, none⟩)] w fun e w' => e = .returned (.tuple #[.agg #[.int .i64 (z 0), .int .i64 (z 1)], .bool (decide (0 < n))]) ∧ Below w.heap.size w w'
  generalize z 0 = k0 at *
  generalize z 1 = r0 at *
  clear h hn
  go_enter Try.func16, Try.ntmps16
  go_wp2_with fail
  go_region
  go_wp2
  refine bodyPost_ret (v := .tuple #[.agg #[.int .i64 k0, .int .i64 r0], .bool (decide (0 < n))]) (by simp [results, Try.results16, go_sem]) rfl ?_
  exact ⟨rfl, unhide HB _⟩
theorem hleast_any (M : Nat → Option Int) (b : Nat) (w : World) (h : HpIs w b M) :
    Calls Try.prog 16 #[.pointer (some ⟨b, 0, none⟩)] w fun e w' => ∃ k r is, e = .returned (.tuple #[.agg #[.int .i64 k, .int .i64 r], .bool is]) ∧ Sp.LeastIs M k r is ∧ Below w.heap.size w w' := by
  obtain ⟨z, h1, h2, h3⟩ := h
  refine (hleast0_any z (Sp.cnt M) b w h1 h2.many).mono ?_
  rintro e w' ⟨rfl, hb⟩
  exact ⟨_, _, _, rfl, h2.least h3, hb⟩
theorem But.set_new {b B : Nat} {u w : World} (h : But b u w) (hB : u.heap.size ≤ B) (j : Nat) (v : Value) : But b u (w.setCell ⟨B, j, none⟩ v) :=
  h.trans' ⟨rfl, rfl, rfl, by simp [World.setCell], fun k hk => Below.heap_setCell _ _ _ _ (by show k ≠ B; omega)⟩
theorem cell_set_eq {w : World} {a : Addr} {v u : Value} (h : w.cell? a = some u) : (w.setCell a v).cell? a = some v := by
  apply World.cell?_setCell_same; exact h
/-- An item's block. -/
theorem item_at {w : World} {B : Nat} {k r : Value} (h : w.heap[B]? = some (.cells #[k, r] 32)) : w.cell? ⟨B, 0, none⟩ = some k ∧ w.cell? ⟨B, 1, none⟩ = some r ∧ ∀ j, w.frozen? ⟨B, j, none⟩ = false := by
  refine ⟨?_, ?_, fun j => ?_⟩
  · simp only [World.cell?, h]; rfl
  · simp only [World.cell?, h]; rfl
  · simp [World.frozen?, h]
set_option maxRecDepth 100000 in
set_option maxHeartbeats 4000000 in
theorem htake_any (M : Nat → Option Int) (b : Nat) (w : World) (h : HpIs w b M) :
    Calls Try.prog 19 #[.pointer (some ⟨b, 0, none⟩)] w fun e w' => ∃ k r is, e = .returned (.tuple #[.agg #[.int .i64 k, .int .i64 r], .bool is]) ∧ Sp.LeastIs M k r is ∧ But b w w' ∧ HpIs w' b (Sp.put M k.toNat none) := by
  have hb := h.lt
  have h0 := h
  obtain ⟨z, h1, h2, h3⟩ := h
  have hL := h2.least h3
  have hLs := fun w' (hw : HpAt w' b z) => hleast0_any z (Sp.cnt M) b w' hw h2.many
  have HW : Hid (∀ w', Below (w.heap.size + 1) (w.alloc (.cells #[.int .i64 0, .int .i64 0] 32)) w' → Below w.heap.size w w' ∧ w'.heap[w.heap.size]? = some (.cells #[.int .i64 0, .int .i64 0] 32) ∧ HpAt w' b z ∧ w.heap.size + 1 ≤ w'.heap.size) := hide fun w' hb' => by
    have hb1 : Below w.heap.size w (w.alloc (.cells #[.int .i64 0, .int .i64 0] 32)) := (Below.refl _ w).alloc (Nat.le_refl _) _
    have hb2 := hb1.trans (hb'.mono (Nat.le_succ _))
    refine ⟨hb2, ?_, h1.below hb2, by have := hb'.size; simp at this; omega⟩
    rw [hb'.block _ (Nat.lt_succ_self _)]
    show (w.heap.push _)[w.heap.size]? = _
    rw [Array.getElem?_push, if_pos rfl]
  have hs : (w.alloc (.cells #[.int .i64 0, .int .i64 0] 32)).heap.size = w.heap.size + 1 := by simp
  have hL0 := hLs _ (unhide HW _ (Below.refl _ _)).2.2.1
  rw [hs] at hL0
  have HL0 := hide hL0
  have H0 := hide (And.intro h1 (And.intro h2 (And.intro h3 h0)))
  have HLe := hide hL
  clear hL hLs hL0 h1 h2 h3 h0 hs
  generalize hk0 : z (0 * 2) = k0 at *
  generalize z (0 * 2 + 1) = r0 at *
  have HK0 := hide hk0
  clear hk0
  obtain ⟨P, hP⟩ : ∃ P : Ending → World → Prop, P = fun e w' => ∃ k r is, e = .returned (.tuple #[.agg #[.int .i64 k, .int .i64 r], .bool is]) ∧ Sp.LeastIs M k r is ∧ But b w w' ∧ HpIs w' b (Sp.put M k.toNat none) := ⟨_, rfl⟩
  rw [← hP]
  have HP := hide hP
  clear hP
  by_cases hn : 0 < Sp.cnt M
  · rw [decide_eq_true hn] at HL0 HLe
    go_enter Try.func19, Try.ntmps19
    go_wp2_with fail
    go_at_call 16
    generalize w.alloc (.cells #[.int .i64 0, .int .i64 0] 32) = W0 at *
    refine (unhide HL0).mono ?_
    rintro e w2 ⟨rfl, hb2⟩
    obtain ⟨hb3, hB3, hp3, hs3⟩ := unhide HW _ hb2
    have H2 := hide (And.intro hb3 (And.intro hB3 hp3))
    have hs2 := hs3
    clear hb3 hB3 hp3 hb2
    obtain ⟨j, hkj, hj⟩ : ∃ j : Nat, k0 = (j : Int) ∧ j < 300 := by
      rcases unhide HLe with ⟨a, -⟩ | ⟨-, j, a, b, -⟩
      · cases a
      · exact ⟨j, a, b⟩
    subst hkj
    obtain ⟨m, hm⟩ : ∃ m, Sp.cnt M = m + 1 := ⟨Sp.cnt M - 1, by omega⟩
    rw [hm] at H0
    have hR := remove_any z M b m 0 j (w2.alloc (.cells #[.int .i64 (j : Int), .int .i64 r0] 32)) ((unhide H2).2.2.alloc _) (unhide H0).2.1 (unhide H0).2.2.1 (by omega) (unhide HK0)
    rw [show (((0 : Nat)) : Int) = 0 from rfl] at hR
    have HR := hide hR
    have HI : Hid ((w2.alloc (.cells #[.int .i64 (j : Int), .int .i64 r0] 32)).heap[w2.heap.size]? = some (.cells #[.int .i64 (j : Int), .int .i64 r0] 32) ∧ (w2.alloc (.cells #[.int .i64 (j : Int), .int .i64 r0] 32)).heap[w.heap.size]? = some (.cells #[.int .i64 0, .int .i64 0] 32) ∧ (w2.alloc (.cells #[.int .i64 (j : Int), .int .i64 r0] 32)).heap.size = w2.heap.size + 1 ∧ But b w (w2.alloc (.cells #[.int .i64 (j : Int), .int .i64 r0] 32))) := hide ⟨by
      show (w2.heap.push _)[w2.heap.size]? = _
      rw [Array.getElem?_push, if_pos rfl], by
      rw [Below.heap_alloc _ _ _ (by omega)]; exact (unhide H2).2.1, by simp, (But.of (unhide H2).1).alloc _⟩
    clear hR hm hn hj hs3
    go_wp2_with fail
    generalize w2.alloc (.cells #[.int .i64 (j : Int), .int .i64 r0] 32) = W3 at *
    refine (unhide HR).mono ?_
    rintro e w4 ⟨rfl, hb4, hi4⟩
    have hs4 := (unhide HI).2.2.1
    have hg4 := hb4.size
    obtain ⟨x0, x1, -⟩ := item_at (w := w4) (B := w2.heap.size) ((hb4.block _ (by omega) (by omega)).trans (unhide HI).1)
    obtain ⟨y0, y1, yf⟩ := item_at (w := w4) (B := w.heap.size) ((hb4.block _ (by omega) (by omega)).trans (unhide HI).2.1)
    have y1' := fun v : Value => show (w4.setCell ⟨w.heap.size, 0, none⟩ v).cell? ⟨w.heap.size, 1, none⟩ = some (.int .i64 0) by rw [cell_set_ne (by omega)]; exact y1
    have HQ : Hid (∀ v v', But b w ((w4.setCell ⟨w.heap.size, 0, none⟩ v).setCell ⟨w.heap.size, 1, none⟩ v') ∧ HpIs ((w4.setCell ⟨w.heap.size, 0, none⟩ v).setCell ⟨w.heap.size, 1, none⟩ v') b (Sp.put M j none) ∧ ((w4.setCell ⟨w.heap.size, 0, none⟩ v).setCell ⟨w.heap.size, 1, none⟩ v').cell? ⟨w.heap.size, 0, none⟩ = some v ∧ ((w4.setCell ⟨w.heap.size, 0, none⟩ v).setCell ⟨w.heap.size, 1, none⟩ v').cell? ⟨w.heap.size, 1, none⟩ = some v') := hide fun v v' => ⟨(((unhide HI).2.2.2.trans hb4).set_new (Nat.le_refl _) _ _).set_new (Nat.le_refl _) _ _, hi4.of_block (by rw [Below.heap_setCell _ _ _ _ (by show b ≠ w.heap.size; omega), Below.heap_setCell _ _ _ _ (by show b ≠ w.heap.size; omega)]), by
      rw [cell_set_ne (by omega)]; exact cell_set_eq y0, cell_set_eq (y1' v)⟩
    have r0' := (unhide HQ (.int .i64 (j : Int)) (.int .i64 r0)).2.2.1
    have r1' := (unhide HQ (.int .i64 (j : Int)) (.int .i64 r0)).2.2.2
    clear hb4 hi4 hs4 hg4 HR
    go_wp2
    refine bodyPost_ret (v := .tuple #[.agg #[.int .i64 (j : Int), .int .i64 r0], .bool true]) (by simp [results, Try.results19, go_sem, r0', r1']) rfl ?_
    rw [unhide HP]
    exact ⟨_, _, _, rfl, unhide HLe, (unhide HQ _ _).1, by rw [Int.toNat_natCast]; exact (unhide HQ _ _).2.1⟩
  · rw [decide_eq_false hn] at HL0 HLe
    go_enter Try.func19, Try.ntmps19
    go_wp2_with fail
    go_at_call 16
    generalize w.alloc (.cells #[.int .i64 0, .int .i64 0] 32) = W0 at *
    refine (unhide HL0).mono ?_
    rintro e w2 ⟨rfl, hb2⟩
    obtain ⟨hb3, hB3, hp3, hs3⟩ := unhide HW _ hb2
    have hI1 : (w2.alloc (.cells #[.int .i64 k0, .int .i64 r0] 32)).heap[w2.heap.size]? = some (.cells #[.int .i64 k0, .int .i64 r0] 32) := by
      show (w2.heap.push _)[w2.heap.size]? = _
      rw [Array.getElem?_push, if_pos rfl]
    have hI2 : (w2.alloc (.cells #[.int .i64 k0, .int .i64 r0] 32)).heap[w.heap.size]? = some (.cells #[.int .i64 0, .int .i64 0] 32) := by
      rw [Below.heap_alloc _ _ _ (by omega)]; exact hB3
    obtain ⟨x0, x1, -⟩ := item_at hI1
    obtain ⟨y0, y1, yf⟩ := item_at hI2
    have y1' := fun v : Value => show ((w2.alloc (.cells #[.int .i64 k0, .int .i64 r0] 32)).setCell ⟨w.heap.size, 0, none⟩ v).cell? ⟨w.heap.size, 1, none⟩ = some (.int .i64 0) by rw [cell_set_ne (by omega)]; exact y1
    have HQ : Hid (∀ v v', But b w (((w2.alloc (.cells #[.int .i64 k0, .int .i64 r0] 32)).setCell ⟨w.heap.size, 0, none⟩ v).setCell ⟨w.heap.size, 1, none⟩ v') ∧ HpIs (((w2.alloc (.cells #[.int .i64 k0, .int .i64 r0] 32)).setCell ⟨w.heap.size, 0, none⟩ v).setCell ⟨w.heap.size, 1, none⟩ v') b M) := hide fun v v' => ⟨((((But.of hb3).alloc _).set_new (Nat.le_refl _) _ _).set_new (Nat.le_refl _) _ _), ((unhide H0).2.2.2.below (hb3.trans ((Below.refl _ w2).alloc (by omega) _))).of_block (by rw [Below.heap_setCell _ _ _ _ (by show b ≠ w.heap.size; omega), Below.heap_setCell _ _ _ _ (by show b ≠ w.heap.size; omega)])⟩
    have r0' := fun v' : Value => show (((w2.alloc (.cells #[.int .i64 k0, .int .i64 r0] 32)).setCell ⟨w.heap.size, 0, none⟩ (.int .i64 k0)).setCell ⟨w.heap.size, 1, none⟩ v').cell? ⟨w.heap.size, 0, none⟩ = some (.int .i64 k0) by rw [cell_set_ne (by omega)]; exact cell_set_eq y0
    have r1' := show (((w2.alloc (.cells #[.int .i64 k0, .int .i64 r0] 32)).setCell ⟨w.heap.size, 0, none⟩ (.int .i64 k0)).setCell ⟨w.heap.size, 1, none⟩ (.int .i64 r0)).cell? ⟨w.heap.size, 1, none⟩ = some (.int .i64 r0) from cell_set_eq (y1' _)
    clear hb3 hB3 hp3 hb2 hI1 hI2
    go_wp2
    refine bodyPost_ret (v := .tuple #[.agg #[.int .i64 k0, .int .i64 r0], .bool false]) (by simp [results, Try.results19, go_sem, r0', r1']) rfl ?_
    rw [unhide HP]
    refine ⟨_, _, _, rfl, unhide HLe, (unhide HQ _ _).1, ?_⟩
    rcases unhide HLe with ⟨-, a, -, c⟩ | ⟨a, -⟩
    · rw [Sp.put_none _ _ (c _)]; exact (unhide HQ _ _).2
    · cases a
end Go.Proofs.Ytfcknfodejnhnaa


/- The laws of heaps: within, known. -/
namespace Go.Proofs.Ytfcknfodejnhnaa
open Go Go.RowKit

theorem But.on {B b : Nat} {w u v : World} (k : But b u v) (h : Below B w u) (hB : B ≤ b) (hw : B ≤ u.heap.size) : Below B w v := h.trans (k.below hB hw)
theorem Ints.allH {w : World} {v : Value} {l : List Int} (h : Ints w v l) : ∃ (a : Option Addr) (c : Nat), v = .slice a l.length c ∧ l.length ≤ c ∧ c ≤ maxLen ∧ Hid (∀ k, k < l.length → ∃ b o, a = some ⟨b, o, none⟩ ∧ b < w.heap.size ∧ ∀ w', Below w.heap.size w w' → w'.cell? ⟨b, o + k, none⟩ = some (.int .i64 (l.getD k 0))) := by
  obtain ⟨a, c, e, h1, h2⟩ := h.form
  refine ⟨a, c, e, h1, h2, hide fun k hk => ?_⟩
  obtain ⟨b, o, c', e1, e2, e3⟩ := h.cellAt (Below.refl _ _) k hk
  rw [e] at e1
  injection e1 with e1 _ _
  refine ⟨b, o, e1, ?_, fun w' hb => ?_⟩
  · exact cell_lt e2
  · rw [hb.cell (by show b < _; exact cell_lt e2), e2]
    simp [List.getD_eq_getElem?_getD, hk]
theorem tmod_casesH (a n : Int) (hn : 0 < n) : (a.tmod n < 0 ∧ a.tmod n + n = a % n) ∨ (0 ≤ a.tmod n ∧ a.tmod n = a % n) := by
  have h0 : 0 ≤ a % n := Int.emod_nonneg a (by omega)
  have h1 : a % n < n := Int.emod_lt_of_pos a hn
  have e := Int.tmod_eq_emod (a := a) (b := n)
  split at e
  · right; omega
  · left
    have : ((n.natAbs : Nat) : Int) = n := by omega
    omega
theorem ret_intH {k : IntKind} {a b : Int} (h : a = b) : Ending.returned (.int k a) = .returned (.int k b) := by rw [h]
set_option maxHeartbeats 400000 in
theorem within5_any (a n : Int) (w : World) (hn : 0 < n) (hn1 : n ≤ 4611686018427387904) :
    Calls Try.prog 13 #[.int .i64 a, .int .i64 n] w fun e w' => e = .returned (.int .i64 (a % n)) ∧ w' = w := by
  have h0 : 0 ≤ a % n := Int.emod_nonneg a (by omega)
  have h1 : a % n < n := Int.emod_lt_of_pos a hn
  rcases tmod_casesH a n hn with ⟨ha, hb⟩ | ⟨ha, hb⟩
  · have hc : -n ≤ a.tmod n := by omega
    have Hb := hide hb; clear hb h0 h1
    go_enter Try.func13, Try.ntmps13
    go_wp2
    go_ret
    exact ⟨ret_intH (unhide Hb), rfl⟩
  · have Hb := hide hb; clear hb h0 h1
    go_enter Try.func13, Try.ntmps13
    go_wp2
    go_ret
    exact ⟨ret_intH (unhide Hb), rfl⟩
theorem hnew2_any (w : World) :
    Calls Try.prog 10 #[] w fun e w' => e = .returned (.pointer (some ⟨w.heap.size, 0, none⟩)) ∧ Below w.heap.size w w' ∧ HpIs w' w.heap.size (fun _ => none) ∧ w'.heap.size = w.heap.size + 1 := by
  refine (hnew_any w).mono ?_
  rintro e w' ⟨rfl, rfl⟩
  exact ⟨rfl, (Below.refl _ w).alloc (Nat.le_refl _) _, hnew_is w, by show (w.heap.push _).size = _; exact Array.size_push _⟩
/-- One key alone. -/
theorem Sp.least_one {M : Nat → Option Int} {k r : Int} {is : Bool} {j : Nat} {s : Int} (h : Sp.LeastIs M k r is) (hj : M j = some s) (ho : ∀ i, i ≠ j → M i = none) : k = (j : Int) ∧ r = s ∧ is = true := by
  rcases h with ⟨-, -, -, d⟩ | ⟨a, i, b, -, c, -⟩
  · rw [d j] at hj; cases hj
  · by_cases hij : i = j
    · subst hij
      rw [hj] at c
      exact ⟨b, (Option.some.inj c).symm, a⟩
    · rw [ho i hij] at c; cases c
theorem Sp.cnt_zero {M : Nat → Option Int} (h : ∀ i, M i = none) : Sp.cnt M = 0 := by
  have : M = fun _ => none := funext h
  rw [this]; exact Sp.cntN_none 300
set_option maxRecDepth 100000 in
set_option maxHeartbeats 4000000 in
theorem known5_any (w : World) : Calls Try.prog 9 #[] w fun e w' => e = .returned (.bool true) ∧ Below w.heap.size w w' := by
  obtain ⟨P, hP⟩ : ∃ P : Ending → World → Prop, P = fun e w' => e = .returned (.bool true) ∧ Below w.heap.size w w' := ⟨_, rfl⟩
  rw [← hP]
  have HP := hide hP
  clear hP
  go_enter Try.func9, Try.ntmps9
  go_wp2_with fail
  go_at_call 10
  refine (hnew2_any w).mono ?_
  rintro e w1 ⟨rfl, hb1, hi1, hs1⟩
  obtain ⟨b, hb⟩ : ∃ b, w.heap.size = b := ⟨_, rfl⟩
  rw [hb] at hb1 hi1 hs1 ⊢
  rw [hb] at HP
  have H1 := hide (And.intro hb1 hi1)
  have hs1' : b + 1 ≤ w1.heap.size := by omega
  clear hb1 hi1 hs1 hb
  go_wp2_with fail
  go_at_call 16
  refine (hleast_any _ b w1 (unhide H1).2).mono ?_
  rintro e w2 ⟨k, r, is, rfl, hl, hb2⟩
  obtain ⟨rfl, rfl, rfl⟩ := hl.uniq (.inl ⟨rfl, rfl, rfl, fun _ => rfl⟩)
  have H2 : Hid (∀ o, HpIs (w2.alloc o) b (fun _ => none) ∧ Below b w (w2.alloc o)) := hide fun o => by
    have hb3 := (unhide H1).1.trans (hb2.mono (by omega))
    have hs2 := hb2.size
    exact ⟨((unhide H1).2.below hb2).below ((Below.refl _ w2).alloc (Nat.le_refl _) o), hb3.alloc (by omega) o⟩
  have hs2 := hb2.size
  clear hl hb2 H1
  go_wp2_with fail
  have H3 := hide (unhide H2 (.cells #[.int .i64 0, .int .i64 0] 32))
  have hs3 : w2.heap.size ≤ (w2.alloc (.cells #[.int .i64 0, .int .i64 0] 32)).heap.size := ((Below.refl w2.heap.size w2).alloc (Nat.le_refl _) _).size
  generalize w2.alloc (.cells #[.int .i64 0, .int .i64 0] 32) = W2 at *
  clear H2
  go_at_call 18
  refine (hput_any _ b 5 7 W2 (unhide H3).1).mono ?_
  rintro e w3 ⟨rfl, hb3, hi3⟩
  have H4 : Hid (Below b w w3 ∧ HpIs w3 b (Sp.put (fun _ => none) 5 (some 7))) := hide ⟨hb3.on (unhide H3).2 (Nat.le_refl _) (by omega), hi3⟩
  have hs4 := hb3.size
  clear hb3 hi3 H3
  rw [show decide ((0 : Int) ≤ 5 ∧ (5 : Int) < 300) = true from rfl]
  go_wp2_with fail
  go_at_call 18
  refine (hput_any _ b 300 1 w3 (unhide H4).2).mono ?_
  rintro e w4 ⟨rfl, hb5, hi5⟩
  have H5 : Hid (Below b w w4 ∧ HpIs w4 b (Sp.put (fun _ => none) 5 (some 7))) := hide ⟨hb5.on (unhide H4).1 (Nat.le_refl _) (by omega), hi5⟩
  have hs5 := hb5.size
  clear hb5 hi5 H4
  rw [show decide ((0 : Int) ≤ 300 ∧ (300 : Int) < 300) = false from rfl]
  go_wp2_with fail
  go_at_call 19
  refine (htake_any _ b w4 (unhide H5).2).mono ?_
  rintro e w6 ⟨k, r, is, rfl, hl, hb6, hi6⟩
  obtain ⟨rfl, rfl, rfl⟩ := Sp.least_one (j := 5) (s := 7) hl (Sp.put_same _ _ _) (fun i hi => Sp.put_other _ _ hi)
  have H6 : Hid (∀ o, Below b w (w6.alloc o) ∧ HpIs (w6.alloc o) b (Sp.put (Sp.put (fun _ => none) 5 (some 7)) 5 none)) := hide fun o => by
    have h1 := hb6.on (unhide H5).1 (Nat.le_refl _) (by omega)
    have h2 := hb6.size
    exact ⟨h1.alloc (by omega) o, hi6.below ((Below.refl _ w6).alloc (Nat.le_refl _) o)⟩
  have HC : Hid (Sp.cnt (Sp.put (Sp.put (fun _ => none) 5 (some 7)) 5 none) = 0) := hide (Sp.cnt_zero fun i => by
    unfold Sp.put; split <;> rfl)
  have HL := hide (fun o => hlen_any _ b (w6.alloc o) (unhide H6 o).2)
  rw [unhide HC] at HL
  clear hl hb6 hi6 H5
  rw [show (((5 : Nat)) : Int) = 5 from rfl]
  go_wp2_with fail
  go_at_call 14
  refine (unhide HL _).mono ?_
  rintro e w' ⟨rfl, hw'⟩
  have := hw'.symm
  subst this
  go_wp2
  rw [unhide HP]
  exact ⟨rfl, (unhide H6 _).1⟩
end Go.Proofs.Ytfcknfodejnhnaa


/- The law HeapKeys, walked. -/
namespace Go.Proofs.Ytfcknfodejnhnaa
open Go Go.RowKit

theorem HpIs.out {w : World} {b : Nat} {M : Nat → Option Int} (h : HpIs w b M) {k : Int} (hk : ¬ (0 ≤ k ∧ k < 300)) : Sp.look M k = none := by
  obtain ⟨z, -, h2, -⟩ := h
  unfold Sp.look
  split
  · exact h2.out _ (by omega)
  · rfl
end Go.Proofs.Ytfcknfodejnhnaa


/- The laws HeapTies, HeapLeast, walked. -/
namespace Go.Proofs.Ytfcknfodejnhnaa
open Go Go.RowKit

theorem Sp.LeastIs.pos {M : Nat → Option Int} {k r : Int} {is : Bool} (h : Sp.LeastIs M k r is) : (is = true ∧ ∃ j : Nat, k = (j : Int) ∧ M j = some r ∧ Sp.cnt (Sp.put M k.toNat none) + 1 = Sp.cnt M) ∨ (is = false ∧ k = 0 ∧ r = 0 ∧ Sp.cnt M = 0 ∧ Sp.put M k.toNat none = M) := by
  rcases h with ⟨a, b, c, d⟩ | ⟨a, j, b, hj, c, d⟩
  · exact .inr ⟨a, b, c, Sp.cnt_zero d, Sp.put_none _ _ (d _)⟩
  · exact .inl ⟨a, j, b, c, by rw [b, Int.toNat_natCast]; exact Sp.cnt_drop M j r hj c⟩
theorem Sp.put_less {M : Nat → Option Int} {j : Nat} {i : Nat} {s : Int} (h : Sp.put M j none i = some s) : i ≠ j ∧ M i = some s := by
  unfold Sp.put at h
  split at h
  · cases h
  · exact ⟨by assumption, h⟩
end Go.Proofs.Ytfcknfodejnhnaa


/- The reference's heap: a row of items in a block of its own. -/
namespace Go.Proofs.Ytfcknfodejnhnaa
open Go Go.RowKit

/-- The cells of items. -/
def Sp.cells2 : List (Int × Int) → List Value
  | [] => []
  | p :: l => .int .i64 p.1 :: .int .i64 p.2 :: Sp.cells2 l
theorem Sp.cells2_get : ∀ (l : List (Int × Int)) (j : Nat), j < l.length → (Sp.cells2 l)[j * 2]? = some (.int .i64 (l.getD j (0, 0)).1) ∧ (Sp.cells2 l)[j * 2 + 1]? = some (.int .i64 (l.getD j (0, 0)).2)
  | [], j, h => by simp at h
  | p :: l, 0, _ => by simp [Sp.cells2]
  | p :: l, j + 1, h => by
    have := Sp.cells2_get l j (by simpa using h)
    have e1 : (j + 1) * 2 = j * 2 + 1 + 1 := by omega
    have e2 : (j + 1) * 2 + 1 = j * 2 + 1 + 1 + 1 := by omega
    rw [e1]
    simp only [Sp.cells2, List.getElem?_cons_succ, List.getD_cons_succ]
    exact this
/-- Block x points to a row of items; R: the row's block. -/
structure Rf (w : World) (x : Nat) (R : Option Nat) (v : Value) (l : List (Int × Int)) : Prop where
  blk : w.heap[x]? = some (.cells #[v] 52)
  own : v.ownBlock = R
  row : w.ownsRow (x + 1) 32 2 v l.length (Sp.cells2 l)
theorem Rf.lt {w : World} {x : Nat} {R : Option Nat} {v : Value} {l : List (Int × Int)} (h : Rf w x R v l) : x < w.heap.size := (Array.getElem?_eq_some_iff.1 h.blk).1
theorem Rf.rlt {w : World} {x : Nat} {R : Option Nat} {v : Value} {l : List (Int × Int)} (h : Rf w x R v l) : ∀ k, R = some k → x < k ∧ k < w.heap.size := fun k hk => by
  have := h.row.lt k (by rw [h.own]; exact hk); omega
theorem Rf.keep {w w' : World} {x : Nat} {R : Option Nat} {v : Value} {l : List (Int × Int)} (h : Rf w x R v l) (h1 : w'.heap[x]? = w.heap[x]?) (h2 : ∀ g, R = some g → w'.heap[g]? = w.heap[g]?) : Rf w' x R v l := by
  obtain ⟨a, b, c1, c2⟩ := h
  refine ⟨h1.trans a, b, c1, ?_⟩
  rcases c2 with c2 | ⟨g, cap, cur, e, hg, hc, r⟩
  · exact .inl c2
  · exact .inr ⟨g, cap, cur, e, hg, (h2 g (by rw [← b, e]; rfl)).trans hc, r⟩
theorem Rf.below {w w' : World} {x : Nat} {R : Option Nat} {v : Value} {l : List (Int × Int)} (h : Rf w x R v l) (hb : Below w.heap.size w w') : Rf w' x R v l :=
  h.keep (hb.block _ h.lt) fun g hg => hb.block _ (h.rlt g hg).2
theorem Rf.cell {w : World} {x : Nat} {R : Option Nat} {v : Value} {l : List (Int × Int)} (h : Rf w x R v l) : w.cell? ⟨x, 0, none⟩ = some v ∧ ∀ j, w.frozen? ⟨x, j, none⟩ = false := by
  constructor
  · simp only [World.cell?, h.blk]; rfl
  · intro j; simp [World.frozen?, h.blk]
theorem Rf.form {w : World} {x : Nat} {R : Option Nat} {v : Value} {l : List (Int × Int)} (h : Rf w x R v l) : ∃ (a : Option Addr) (c : Nat), v = .slice a l.length c ∧ l.length ≤ c ∧ c ≤ maxLen ∧
    Hid (∀ j, j < l.length → ∃ g, a = some ⟨g, 0, none⟩ ∧ R = some g ∧ w.cell? ⟨g, j * 2, none⟩ = some (.int .i64 (l.getD j (0, 0)).1) ∧ w.cell? ⟨g, j * 2 + 1, none⟩ = some (.int .i64 (l.getD j (0, 0)).2) ∧ ∀ i, w.frozen? ⟨g, i, none⟩ = false) := by
  obtain ⟨a, b, c⟩ := h
  have c' := c
  obtain ⟨c1, c2⟩ := c
  rcases c2 with ⟨rfl, c2⟩ | ⟨g, cap, cur, rfl, hg, hc, r1, r2, r3, r4⟩
  · exact ⟨none, 0, by rw [c2], by omega, by simp [maxLen], hide fun j hj => by omega⟩
  · refine ⟨some ⟨g, 0, none⟩, cap, rfl, r1, r2, hide fun j hj => ⟨g, rfl, b.symm, ?_, ?_, fun i => c'.frozenAt i⟩⟩
    · rw [c'.cellAt _ (by omega)]; exact (Sp.cells2_get l j hj).1
    · rw [c'.cellAt _ (by omega)]; exact (Sp.cells2_get l j hj).2
/-- All but block x and the row is as it was. -/
structure ButR (x : Nat) (R : Option Nat) (w w' : World) : Prop where
  os : w'.os = w.os
  tape : w'.tape = w.tape
  output : w'.output = w.output
  size : w.heap.size ≤ w'.heap.size
  block : ∀ k, k < w.heap.size → k ≠ x → R ≠ some k → w'.heap[k]? = w.heap[k]?
theorem ButR.refl (x : Nat) (R : Option Nat) (w : World) : ButR x R w w := ⟨rfl, rfl, rfl, Nat.le_refl _, fun _ _ _ _ => rfl⟩
theorem ButR.trans {x : Nat} {R R' : Option Nat} {u v w : World} (h : ButR x R u v) (k : ButR x R' v w) (hR : R' = R ∨ ∀ g, R' = some g → u.heap.size ≤ g) : ButR x R u w :=
  ⟨k.os.trans h.os, k.tape.trans h.tape, k.output.trans h.output, Nat.le_trans h.size k.size, fun i hi hx hr => (k.block i (Nat.lt_of_lt_of_le hi h.size) hx (fun e => by
    rcases hR with hR | hR
    · exact hr (by rw [← hR]; exact e)
    · have := hR i e; omega)).trans (h.block i hi hx hr)⟩
theorem ButR.of {x : Nat} {R : Option Nat} {w w' : World} (h : Below w.heap.size w w') : ButR x R w w' := ⟨h.os, h.tape, h.output, h.size, fun k hk _ _ => h.block k hk⟩
theorem ButR.below {x B : Nat} {R : Option Nat} {w w' : World} (h : ButR x R w w') (hB : B ≤ x) (hw : B ≤ w.heap.size) (hR : ∀ g, R = some g → B ≤ g) : Below B w w' :=
  ⟨h.os, h.tape, h.output, h.size, fun k hk => h.block k (by omega) (by omega) (fun e => by have := hR k e; omega)⟩
/-- A row that holds M. -/
structure Sp.RL (l : List (Int × Int)) (M : Nat → Option Int) : Prop where
  nd : (l.map Prod.fst).Nodup
  mem : ∀ p ∈ l, Sp.look M p.1 = some p.2
  all : ∀ j r, M j = some r → ((j : Int), r) ∈ l
  out : ∀ j, 300 ≤ j → M j = none
  len : l.length = Sp.cnt M
def RfIs (w : World) (x : Nat) (R : Option Nat) (M : Nat → Option Int) : Prop := ∃ v l, Rf w x R v l ∧ Sp.RL l M
theorem RfIs.lt {w : World} {x : Nat} {R : Option Nat} {M : Nat → Option Int} (h : RfIs w x R M) : x < w.heap.size := by obtain ⟨v, l, h, -⟩ := h; exact h.lt
theorem RfIs.rlt {w : World} {x : Nat} {R : Option Nat} {M : Nat → Option Int} (h : RfIs w x R M) : ∀ k, R = some k → x < k ∧ k < w.heap.size := by obtain ⟨v, l, h, -⟩ := h; exact h.rlt
theorem RfIs.keep {w w' : World} {x : Nat} {R : Option Nat} {M : Nat → Option Int} (h : RfIs w x R M) (h1 : w'.heap[x]? = w.heap[x]?) (h2 : ∀ g, R = some g → w'.heap[g]? = w.heap[g]?) : RfIs w' x R M := by
  obtain ⟨v, l, h, r⟩ := h; exact ⟨v, l, h.keep h1 h2, r⟩
theorem RfIs.below {w w' : World} {x : Nat} {R : Option Nat} {M : Nat → Option Int} (h : RfIs w x R M) (hb : Below w.heap.size w w') : RfIs w' x R M := by
  obtain ⟨v, l, h, r⟩ := h; exact ⟨v, l, h.below hb, r⟩

theorem Sp.look_nat (M : Nat → Option Int) (j : Nat) : Sp.look M (j : Int) = M j := by rw [Sp.look, if_pos (by omega), Int.toNat_natCast]
theorem Sp.getD_mem2 {l : List (Int × Int)} {i : Nat} (h : i < l.length) : l.getD i (0, 0) ∈ l := by
  rw [List.getD_eq_getElem?_getD, List.getElem?_eq_getElem h]; exact List.getElem_mem h
theorem Sp.RL.rng {l : List (Int × Int)} {M : Nat → Option Int} (h : Sp.RL l M) {p : Int × Int} (hp : p ∈ l) : 0 ≤ p.1 ∧ p.1 < 300 := by
  have h1 := h.mem p hp
  unfold Sp.look at h1
  split at h1
  · rename_i h0
    refine ⟨h0, ?_⟩
    rcases (show p.1 < 300 ∨ 300 ≤ p.1 by omega) with h2 | h2
    · exact h2
    · rw [h.out _ (by omega)] at h1; cases h1
  · cases h1
theorem Sp.RL.new {l : List (Int × Int)} {M : Nat → Option Int} (h : Sp.RL l M) {k r : Int} (hk : 0 ≤ k ∧ k < 300) (hl : Sp.look M k = none) : Sp.RL (l ++ [(k, r)]) (Sp.putK M k r) := by
  obtain ⟨j, rfl⟩ : ∃ j : Nat, k = (j : Int) := ⟨k.toNat, by omega⟩
  have hne : ∀ p ∈ l, p.1 ≠ (j : Int) := fun p hp e => by have := h.mem p hp; rw [e, hl] at this; cases this
  have hP : Sp.putK M (j : Int) r = Sp.put M j (some r) := by rw [Sp.putK, if_pos hk, Int.toNat_natCast]
  rw [hP]
  refine ⟨?_, fun p hp => ?_, fun i s hs => ?_, fun i hi => ?_, ?_⟩
  · rw [List.map_append, List.nodup_append]
    refine ⟨h.nd, by simp, fun a ha b hb => ?_⟩
    obtain ⟨p, hp, rfl⟩ := List.mem_map.1 ha
    simp at hb
    subst hb
    exact hne p hp
  · rcases List.mem_append.1 hp with hp | hp
    · have h1 := h.mem p hp
      have h2 := h.rng hp
      have h3 := hne p hp
      obtain ⟨i, hi⟩ : ∃ i : Nat, p.1 = (i : Int) := ⟨p.1.toNat, by omega⟩
      rw [hi, Sp.look_nat] at h1 ⊢
      rw [Sp.put_other _ _ (by omega)]; exact h1
    · simp at hp
      subst hp
      rw [Sp.look_nat, Sp.put_same]
  · by_cases hij : i = j
    · subst hij
      rw [Sp.put_same] at hs
      cases hs
      exact List.mem_append.2 (.inr (by simp))
    · rw [Sp.put_other _ _ hij] at hs
      exact List.mem_append.2 (.inl (h.all i s hs))
  · rw [Sp.put_other _ _ (by omega)]; exact h.out i hi
  · rw [Sp.look_nat] at hl
    rw [Sp.cnt_add M j r (by omega) hl, List.length_append, h.len]; rfl
theorem Sp.nodup_get {l : List (Int × Int)} (h : (l.map Prod.fst).Nodup) {i j : Nat} (hi : i < l.length) (hj : j < l.length) (e : (l[i]).1 = (l[j]).1) : i = j := by
  have hp := List.pairwise_iff_getElem.1 h
  rcases Nat.lt_trichotomy i j with h1 | h1 | h1
  · exact absurd (by rw [List.getElem_map, List.getElem_map]; exact e) (hp i j (by simpa using hi) (by simpa using hj) h1)
  · exact h1
  · exact absurd (by rw [List.getElem_map, List.getElem_map]; exact e.symm) (hp j i (by simpa using hj) (by simpa using hi) h1)
theorem Sp.RL.anew {l : List (Int × Int)} {M : Nat → Option Int} (h : Sp.RL l M) {k r : Int} {i : Nat} (hi : i < l.length) (hk : (l.getD i (0, 0)).1 = k) : Sp.RL (l.set i (k, r)) (Sp.putK M k r) := by
  have hkr := h.rng (Sp.getD_mem2 hi)
  rw [hk] at hkr
  have hg : l.getD i (0, 0) = l[i] := by rw [List.getD_eq_getElem?_getD, List.getElem?_eq_getElem hi]; rfl
  rw [hg] at hk
  obtain ⟨j, rfl⟩ : ∃ j : Nat, k = (j : Int) := ⟨k.toNat, by omega⟩
  have hP : Sp.putK M (j : Int) r = Sp.put M j (some r) := by rw [Sp.putK, if_pos hkr, Int.toNat_natCast]
  have h0 := h.mem _ (List.getElem_mem hi)
  rw [hk, Sp.look_nat] at h0
  rw [hP]
  have hmap : (l.set i ((j : Int), r)).map Prod.fst = l.map Prod.fst := by
    apply List.ext_getElem
    · simp
    · intro n h1 h2
      simp only [List.getElem_map, List.getElem_set]
      split
      · rename_i e
        subst e
        exact hk.symm
      · rfl
  refine ⟨by rw [hmap]; exact h.nd, fun p hp => ?_, fun n s hs => ?_, fun n hn => ?_, ?_⟩
  · obtain ⟨n, hn, rfl⟩ := List.mem_iff_getElem.1 hp
    rw [List.getElem_set]
    split
    · rw [Sp.look_nat, Sp.put_same]
    · rename_i hin
      have hn' : n < l.length := by simpa using hn
      have h1 := h.mem _ (List.getElem_mem hn')
      have h2 := h.rng (List.getElem_mem hn')
      obtain ⟨m, hm⟩ : ∃ m : Nat, (l[n]).1 = (m : Int) := ⟨(l[n]).1.toNat, by omega⟩
      have hmj : m ≠ j := fun e => hin (Sp.nodup_get h.nd hi hn' (by rw [hk, hm, e]))
      rw [hm, Sp.look_nat] at h1 ⊢
      rw [Sp.put_other _ _ hmj]; exact h1
  · by_cases hnj : n = j
    · subst hnj
      rw [Sp.put_same] at hs
      cases hs
      exact List.mem_iff_getElem.2 ⟨i, by simpa using hi, by rw [List.getElem_set, if_pos rfl]⟩
    · rw [Sp.put_other _ _ hnj] at hs
      obtain ⟨m, hm, e⟩ := List.mem_iff_getElem.1 (h.all n s hs)
      refine List.mem_iff_getElem.2 ⟨m, by simpa using hm, ?_⟩
      rw [List.getElem_set, if_neg]
      · exact e
      · intro him
        subst him
        rw [e] at hk
        simp at hk
        omega
  · rw [Sp.put_other _ _ (by omega)]; exact h.out n hn
  · rw [Sp.cnt_anew M j r _ (by omega) h0, List.length_set]; exact h.len
end Go.Proofs.Ytfcknfodejnhnaa


/- The reference's heap: New, Len, find, Rank. -/
namespace Go.Proofs.Ytfcknfodejnhnaa
open Go Go.RowKit

theorem Sp.RL.look_none {l : List (Int × Int)} {M : Nat → Option Int} (h : Sp.RL l M) {k : Int} (hk : ∀ p ∈ l, p.1 ≠ k) : Sp.look M k = none := by
  unfold Sp.look
  split
  · cases hm : M k.toNat with
    | none => rfl
    | some r => exact absurd (show ((k.toNat : Nat) : Int) = k by omega) (hk _ (h.all _ _ hm))
  · rfl
theorem Sp.RL.look_some {l : List (Int × Int)} {M : Nat → Option Int} (h : Sp.RL l M) {j : Nat} (hj : j < l.length) : Sp.look M (l.getD j (0, 0)).1 = some (l.getD j (0, 0)).2 := h.mem _ (Sp.getD_mem2 hj)
end Go.Proofs.Ytfcknfodejnhnaa


