/- What the proof needs, part 4. -/
import Derived.Test.YtohfmohkaaidpaaL3
/- The law LinkAdds, walked. -/
namespace Go.Proofs.Ytohfmohkaaidpaa
open Go Go.RowKit

/-- Block b is a row of the n numbers z. -/
def ArI (w : World) (b n : Nat) (z : Nat → Int) : Prop := ∃ c, w.heap[b]? = some (.cells c 37) ∧ c.size = n ∧ ∀ j, j < n → c[j]? = some (.int .i64 (z j))
theorem ArI.lt {w : World} {b n : Nat} {z : Nat → Int} (h : ArI w b n z) : b < w.heap.size := by
  obtain ⟨c, hc, -⟩ := h
  exact (Array.getElem?_eq_some_iff.1 hc).1
theorem ArI.cell {w : World} {b n : Nat} {z : Nat → Int} (h : ArI w b n z) {j : Nat} (hj : j < n) : w.cell? ⟨b, j, none⟩ = some (.int .i64 (z j)) := by
  obtain ⟨c, hc, -, hz⟩ := h
  simp only [World.cell?, hc]
  exact hz j hj
theorem ArI.frozen {w : World} {b n : Nat} {z : Nat → Int} (h : ArI w b n z) (j : Nat) (s : Option Nat) : w.frozen? ⟨b, j, s⟩ = false := by
  obtain ⟨c, hc, -⟩ := h
  simp only [World.frozen?, hc]
  simp
theorem ArI.of_block {w w' : World} {b n : Nat} {z : Nat → Int} (h : ArI w b n z) (e : w'.heap[b]? = w.heap[b]?) : ArI w' b n z := by
  obtain ⟨c, hc, h1⟩ := h
  exact ⟨c, by rw [e]; exact hc, h1⟩
theorem ArI.set {w : World} {b n : Nat} {z : Nat → Int} (h : ArI w b n z) (j : Nat) (v : Int) : ArI (w.setCell ⟨b, j, none⟩ (.int .i64 v)) b n (Sp.upd z j v) := by
  obtain ⟨c, hc, hs, hz⟩ := h
  refine ⟨c.setIfInBounds j (.int .i64 v), ?_, by simpa using hs, fun k hk => ?_⟩
  · simp only [World.setCell, Array.getElem?_modify, if_pos, hc]
    rfl
  · rw [Array.getElem?_setIfInBounds]
    by_cases hjk : j = k
    · rw [if_pos hjk, if_pos (by omega), ← hjk, Sp.upd_same]
    · rw [if_neg hjk, hz k hk, Sp.upd_other _ _ (by omega)]
theorem ArI.set_ne {w : World} {b n : Nat} {z : Nat → Int} (h : ArI w b n z) {b' : Nat} (hb : b ≠ b') (j : Nat) (s : Option Nat) (v : Value) : ArI (w.setCell ⟨b', j, s⟩ v) b n z :=
  h.of_block (Below.heap_setCell _ _ _ _ hb)
theorem ArI.below {w w' : World} {b n : Nat} {z : Nat → Int} (h : ArI w b n z) (hb : Below w.heap.size w w') : ArI w' b n z := h.of_block (hb.block b h.lt)
theorem ArI.bt {p : Nat → Prop} {w w' : World} {b n : Nat} {z : Nat → Int} (h : ArI w b n z) (hb : Bt p w w') (hp : ¬ p b) : ArI w' b n z := h.of_block (hb.block b h.lt hp)
theorem ArI.alloc {w : World} {b n : Nat} {z : Nat → Int} (h : ArI w b n z) (o : Obj) : ArI (w.alloc o) b n z := h.below ((Below.refl _ w).alloc (Nat.le_refl _) o)
theorem ArI.drew {w : World} {b n : Nat} {z : Nat → Int} (h : ArI w b n z) : ArI w.drew b n z := h.of_block rfl
theorem ArI.congr {w : World} {b n : Nat} {z z' : Nat → Int} (h : ArI w b n z) (e : ∀ j, j < n → z j = z' j) : ArI w b n z' := by
  obtain ⟨c, hc, hs, hz⟩ := h
  exact ⟨c, hc, hs, fun j hj => by rw [← e j hj]; exact hz j hj⟩
def Sp.updK (z : Nat → Bool) (j : Nat) (v : Bool) : Nat → Bool := fun k => if k = j then v else z k
theorem Sp.updK_same (z : Nat → Bool) (j : Nat) (v : Bool) : Sp.updK z j v j = v := if_pos rfl
theorem Sp.updK_other (z : Nat → Bool) {j k : Nat} (v : Bool) (h : k ≠ j) : Sp.updK z j v k = z k := if_neg h
/-- Block b is a row of the n numbers z. -/
def ArB (w : World) (b n : Nat) (z : Nat → Bool) : Prop := ∃ c, w.heap[b]? = some (.cells c 38) ∧ c.size = n ∧ ∀ j, j < n → c[j]? = some (.bool (z j))
theorem ArB.lt {w : World} {b n : Nat} {z : Nat → Bool} (h : ArB w b n z) : b < w.heap.size := by
  obtain ⟨c, hc, -⟩ := h
  exact (Array.getElem?_eq_some_iff.1 hc).1
theorem ArB.cell {w : World} {b n : Nat} {z : Nat → Bool} (h : ArB w b n z) {j : Nat} (hj : j < n) : w.cell? ⟨b, j, none⟩ = some (.bool (z j)) := by
  obtain ⟨c, hc, -, hz⟩ := h
  simp only [World.cell?, hc]
  exact hz j hj
theorem ArB.frozen {w : World} {b n : Nat} {z : Nat → Bool} (h : ArB w b n z) (j : Nat) (s : Option Nat) : w.frozen? ⟨b, j, s⟩ = false := by
  obtain ⟨c, hc, -⟩ := h
  simp only [World.frozen?, hc]
  simp
theorem ArB.of_block {w w' : World} {b n : Nat} {z : Nat → Bool} (h : ArB w b n z) (e : w'.heap[b]? = w.heap[b]?) : ArB w' b n z := by
  obtain ⟨c, hc, h1⟩ := h
  exact ⟨c, by rw [e]; exact hc, h1⟩
theorem ArB.set {w : World} {b n : Nat} {z : Nat → Bool} (h : ArB w b n z) (j : Nat) (v : Bool) : ArB (w.setCell ⟨b, j, none⟩ (.bool v)) b n (Sp.updK z j v) := by
  obtain ⟨c, hc, hs, hz⟩ := h
  refine ⟨c.setIfInBounds j (.bool v), ?_, by simpa using hs, fun k hk => ?_⟩
  · simp only [World.setCell, Array.getElem?_modify, if_pos, hc]
    rfl
  · rw [Array.getElem?_setIfInBounds]
    by_cases hjk : j = k
    · rw [if_pos hjk, if_pos (by omega), ← hjk, Sp.updK_same]
    · rw [if_neg hjk, hz k hk, Sp.updK_other _ _ (by omega)]
theorem ArB.set_ne {w : World} {b n : Nat} {z : Nat → Bool} (h : ArB w b n z) {b' : Nat} (hb : b ≠ b') (j : Nat) (s : Option Nat) (v : Value) : ArB (w.setCell ⟨b', j, s⟩ v) b n z :=
  h.of_block (Below.heap_setCell _ _ _ _ hb)
theorem ArB.below {w w' : World} {b n : Nat} {z : Nat → Bool} (h : ArB w b n z) (hb : Below w.heap.size w w') : ArB w' b n z := h.of_block (hb.block b h.lt)
theorem ArB.bt {p : Nat → Prop} {w w' : World} {b n : Nat} {z : Nat → Bool} (h : ArB w b n z) (hb : Bt p w w') (hp : ¬ p b) : ArB w' b n z := h.of_block (hb.block b h.lt hp)
theorem ArB.alloc {w : World} {b n : Nat} {z : Nat → Bool} (h : ArB w b n z) (o : Obj) : ArB (w.alloc o) b n z := h.below ((Below.refl _ w).alloc (Nat.le_refl _) o)
theorem ArB.drew {w : World} {b n : Nat} {z : Nat → Bool} (h : ArB w b n z) : ArB w.drew b n z := h.of_block rfl
theorem ArB.congr {w : World} {b n : Nat} {z z' : Nat → Bool} (h : ArB w b n z) (e : ∀ j, j < n → z j = z' j) : ArB w b n z' := by
  obtain ⟨c, hc, hs, hz⟩ := h
  exact ⟨c, hc, hs, fun j hj => by rw [← e j hj]; exact hz j hj⟩
theorem arI_new (w : World) : ArI (w.alloc (.cells #[.int .i64 0, .int .i64 0, .int .i64 0, .int .i64 0, .int .i64 0, .int .i64 0, .int .i64 0, .int .i64 0, .int .i64 0, .int .i64 0, .int .i64 0, .int .i64 0, .int .i64 0, .int .i64 0, .int .i64 0, .int .i64 0] 37)) w.heap.size 16 (fun _ => 0) := by
  have e : #[.int .i64 0, .int .i64 0, .int .i64 0, .int .i64 0, .int .i64 0, .int .i64 0, .int .i64 0, .int .i64 0, .int .i64 0, .int .i64 0, .int .i64 0, .int .i64 0, .int .i64 0, .int .i64 0, .int .i64 0, .int .i64 0] = Array.replicate 16 (Value.int .i64 0) := rfl
  rw [e]
  exact ⟨_, heap_alloc_new w _, by simp, fun j hj => by simp [hj]⟩
theorem arB_new (w : World) : ArB (w.alloc (.cells #[.bool false, .bool false, .bool false, .bool false, .bool false, .bool false, .bool false, .bool false, .bool false, .bool false, .bool false, .bool false, .bool false, .bool false, .bool false, .bool false] 38)) w.heap.size 16 (fun _ => false) := by
  have e : #[.bool false, .bool false, .bool false, .bool false, .bool false, .bool false, .bool false, .bool false, .bool false, .bool false, .bool false, .bool false, .bool false, .bool false, .bool false, .bool false] = Array.replicate 16 (Value.bool false) := rfl
  rw [e]
  exact ⟨_, heap_alloc_new w _, by simp, fun j hj => by simp [hj]⟩
set_option maxRecDepth 100000 in
set_option maxHeartbeats 16000000 in
theorem linkAdds_any (size v by_ : Int) (ns : List Int) (nv : Value) (w : World) (hv : Ints w nv ns) :
    Calls Try.prog 5 #[.int .i64 size, nv, .int .i64 v, .int .i64 by_] w fun e w' => e = .returned (.bool true) ∧ Below w.heap.size w w' := by
  obtain ⟨P, hP⟩ : ∃ P : Ending → World → Prop, P = fun e w' => e = .returned (.bool true) ∧ Below w.heap.size w w' := ⟨_, rfl⟩
  rw [← hP]
  have HP := hide hP
  clear hP
  have HNs : Hid (∀ w', Below w.heap.size w w' → Ints w' nv ns) := hide fun w' hb => hv.below hb
  obtain ⟨na, nc, rfl, -, -, HNa⟩ := hv.allA
  have HN0 := hide (fun w' => within7_any size 15 w' (by omega) (by omega))
  have hm0 : 0 ≤ size % 15 := Int.emod_nonneg _ (by omega)
  have hm1 : size % 15 < 15 := Int.emod_lt_of_pos _ (by omega)
  obtain ⟨n, hN⟩ : ∃ n : Nat, 1 + size % 15 = (n : Int) := ⟨(1 + size % 15).toNat, by omega⟩
  have hn1 : 1 ≤ n := by omega
  have hn2 : n ≤ 15 := by omega
  generalize size % 15 = sz at *
  go_enter Try.func5, Try.ntmps5
  go_wp2_with fail
  go_at_call 9
  refine (known7_any w).mono ?_
  rintro e w1 ⟨rfl, hb1⟩
  have HB1 := hide hb1
  clear hb1
  go_wp2_with fail
  go_at_call 10
  refine (unhide HN0 _).mono ?_
  rintro e wz ⟨rfl, hwz⟩
  have hwz' := hwz.symm
  subst hwz'
  clear hwz
  clear HN0
  have HC1 := hide (lknew_any n w1 hn1 (by omega))
  go_wp2_with fail
  go_at_call 11
  refine (unhide HC1).mono ?_
  rintro e w2 ⟨f, g, rfl, hp2, hb2, hf2, hg2⟩
  have HB2 := hide ((unhide HB1).trans (hb2.mono (unhide HB1).size))
  have hgl2 := hp2.lt
  have HP2 := hide hp2
  have hfw : w.heap.size ≤ f := Nat.le_trans (unhide HB1).size hf2
  have hgw : w.heap.size ≤ g := Nat.le_trans (unhide HB1).size hg2
  clear hp2 hb2 HC1 HB1
  have HQ : Hid (Below w.heap.size w w2 ∧ LkP w2 f g n (fun _ => -1) (fun _ => 0) ∧ Sp.Fo n (fun _ => -1)) := hide ⟨unhide HB2, unhide HP2, Sp.fo_new n⟩
  clear HB2 HP2
  have ha0a : 0 ≤ v % (n : Int) := Int.emod_nonneg _ (by omega)
  have ha1a : v % (n : Int) < (n : Int) := Int.emod_lt_of_pos _ (by omega)
  obtain ⟨a, haa⟩ : ∃ a : Nat, v % (n : Int) = (a : Int) := ⟨(v % (n : Int)).toNat, by omega⟩
  have han : a < n := by omega
  have HWa : Hid (∀ w', Calls Try.prog 10 #[.int .i64 v, .int .i64 (n : Int)] w' fun e w'' => e = .returned (.int .i64 (a : Int)) ∧ w'' = w') := hide (fun w' => by rw [← haa]; exact within7_any v (n : Int) w' (by omega) (by omega))
  clear ha0a ha1a haa
  have hbb0 : 0 ≤ by_ % 1000 := Int.emod_nonneg _ (by omega)
  have hbb1 : by_ % 1000 < 1000 := Int.emod_lt_of_pos _ (by omega)
  have HWy := hide (fun w' => within7_any by_ 1000 w' (by omega) (by omega))
  generalize by_ % 1000 = bm at *
  obtain ⟨bz, hbz⟩ : ∃ bz, bm - 500 = bz := ⟨_, rfl⟩
  have HWn := hide (fun (z : Int) (w' : World) => within7_any z 1099511627776 w' (by omega) (by omega))
  go_wp2
  go_loopg [11] ns.length (fun g' s10 wr => ∃ (i : Nat) (U W : Nat → Int), i + g' = ns.length ∧ s10 = .int .i64 (i : Int) ∧ Hid (Below w.heap.size w wr ∧ LkP wr f g n U W ∧ Sp.Fo n U))
  case atStart => exact ⟨0, _, _, by omega, rfl, HQ⟩
  case round =>
    clear HQ
    obtain ⟨i, U, W, hig, rfl, HQ⟩ := hrel
    by_cases hi : i < ns.length ∧ i < 60
    · obtain ⟨g', rfl⟩ : ∃ g', gk = g' + 1 := ⟨gk - 1, by omega⟩
      have hiI : (i : Int) < (ns.length : Int) := by omega
      have hi2 : (i : Int) < 60 := by omega
      obtain ⟨b, o', rfl, -, hcx⟩ := unhide HNa i hi.1
      have c1 := hcx wr (unhide HQ).1
      obtain ⟨z, hz⟩ : ∃ z, ns.getD i 0 = z := ⟨_, rfl⟩
      rw [hz] at c1
      have hz0 : 0 ≤ z % 1099511627776 := Int.emod_nonneg _ (by omega)
      have hz1 : z % 1099511627776 < 1099511627776 := Int.emod_lt_of_pos _ (by omega)
      obtain ⟨m, hm⟩ : ∃ m : Nat, z % 1099511627776 = (m : Int) := ⟨(z % 1099511627776).toNat, by omega⟩
      have hml : m < 1099511627776 := by omega
      have HC := hide (unhide HWn z wr)
      rw [hm] at HC
      obtain ⟨v0, hv0⟩ : ∃ v0, m % n = v0 := ⟨_, rfl⟩
      obtain ⟨K2, hK2⟩ : ∃ K2, m / n = K2 := ⟨_, rfl⟩
      obtain ⟨u1, hu1⟩ : ∃ u1, K2 % n = u1 := ⟨_, rfl⟩
      obtain ⟨K4, hK4⟩ : ∃ K4, m / 900 = K4 := ⟨_, rfl⟩
      obtain ⟨j4, hj4⟩ : ∃ j4, K4 % 50 = j4 := ⟨_, rfl⟩
      have e2 : Int.tmod (m : Int) (n : Int) = (v0 : Int) := by rw [← hv0]; exact Sp.rem_nat m n
      have e3 : Int.tdiv (m : Int) (n : Int) = (K2 : Int) := by rw [← hK2]; exact Sp.quo_nat m n
      have e4 : Int.tmod (K2 : Int) (n : Int) = (u1 : Int) := by rw [← hu1]; exact Sp.rem_nat K2 n
      have e8 : Int.tdiv (m : Int) 900 = (K4 : Int) := by rw [← hK4]; exact Sp.quo_nat m 900
      have e9 : Int.tmod (K4 : Int) 50 = (j4 : Int) := by rw [← hj4]; exact Sp.rem_nat K4 50
      have hK2l : K2 < 1099511627776 := by rw [← hK2]; exact Nat.lt_of_le_of_lt (Nat.div_le_self _ _) hml
      have hK4l : K4 < 1099511627776 := by omega
      have hwk2 : IntKind.i64.wrap (K2 : Int) = (K2 : Int) := by rw [IntKind.wrap_i64]; omega
      have hwk4 : IntKind.i64.wrap (K4 : Int) = (K4 : Int) := by rw [IntKind.wrap_i64]; omega
      have hnz : ¬ n = 0 := by omega
      have hw0 : v0 < n := by rw [← hv0]; exact Nat.mod_lt _ (by omega)
      have hw1 : u1 < n := by rw [← hu1]; exact Nat.mod_lt _ (by omega)
      clear hz hz0 hz1 hcx hm hv0 hK2 hu1 hK4 hj4
      go_wp2_with fail
      go_at_call 10
      refine (unhide HC).mono ?_
      rintro e wz ⟨rfl, hwz⟩
      have hwz' := hwz.symm
      subst hwz'
      clear hwz
      clear HC
      go_upto_region 11 with fail
      have hdq := Below.refl wr.heap.size wr |>.drew
      refine wp_region_G (fun w' => True) (fun _ => false) (by kernel_rfl) trivial (fun hHeld => ?_)
      generalize wr.drew = wq at *
      refine wpAnyG_take (v := ?_) 0 (by rfl) (by kernel_rfl) (by kernel_rfl) (by kernel_rfl) (by kernel_rfl) (fun _ _ _ h => h) (Or.inl ⟨by rfl, ?_⟩) (by assumption) ?_
      rotate_left
      · (intro w' hSw; (try dsimp only at hSw); (try simp only [List.getElem_toArray, List.getElem_cons_zero]); go_simp; try (with_reducible rfl))
      simp only [Act.put, List.getElem_toArray, List.getElem_cons_zero, List.setIfInBounds_toArray, List.set_cons_zero, List.set_cons_succ]
      refine wpAnyG_take (v := ?_) 1 (by rfl) (by kernel_rfl) (by kernel_rfl) (by kernel_rfl) (by kernel_rfl) (fun _ _ _ h => h) (Or.inl ⟨by rfl, ?_⟩) (by assumption) ?_
      rotate_left
      · (intro w' hSw; (try dsimp only at hSw); (try simp only [List.getElem_toArray, List.getElem_cons_succ, List.getElem_cons_zero]); go_simp; try (with_reducible rfl))
      simp only [Act.put, List.getElem_toArray, List.getElem_cons_succ, List.getElem_cons_zero, List.setIfInBounds_toArray, List.set_cons_zero, List.set_cons_succ]
      refine wpAnyG_take (v := ?_) 2 (by rfl) (by kernel_rfl) (by kernel_rfl) (by kernel_rfl) (by kernel_rfl) (fun _ _ _ h => h) (Or.inl ⟨by rfl, ?_⟩) (by assumption) ?_
      rotate_left
      · (intro w' hSw; (try dsimp only at hSw); (try simp only [List.getElem_toArray, List.getElem_cons_succ, List.getElem_cons_zero]); go_simp; try (with_reducible rfl))
      simp only [Act.put, List.getElem_toArray, List.getElem_cons_succ, List.getElem_cons_zero, List.setIfInBounds_toArray, List.set_cons_zero, List.set_cons_succ]
      refine wpAnyG_take (v := ?_) 3 (by rfl) (by kernel_rfl) (by kernel_rfl) (by kernel_rfl) (by kernel_rfl) (fun _ _ _ h => h) (Or.inl ⟨by rfl, ?_⟩) (by assumption) ?_
      rotate_left
      · (intro w' hSw; (try dsimp only at hSw); (try simp only [List.getElem_toArray, List.getElem_cons_succ, List.getElem_cons_zero]); go_simp; try (with_reducible rfl))
      simp only [Act.put, List.getElem_toArray, List.getElem_cons_succ, List.getElem_cons_zero, List.setIfInBounds_toArray, List.set_cons_zero, List.set_cons_succ]
      refine wpAnyG_take (v := ?_) 4 (by rfl) (by kernel_rfl) (by kernel_rfl) (by kernel_rfl) (by kernel_rfl) (fun _ _ _ h => h) (Or.inl ⟨by rfl, ?_⟩) (by assumption) ?_
      rotate_left
      · (intro w' hSw; (try dsimp only at hSw); (try simp only [List.getElem_toArray, List.getElem_cons_succ, List.getElem_cons_zero]); go_simp; try (with_reducible rfl))
      simp only [Act.put, List.getElem_toArray, List.getElem_cons_succ, List.getElem_cons_zero, List.setIfInBounds_toArray, List.set_cons_zero, List.set_cons_succ]
      refine wpAnyG_take (v := ?_) 5 (by rfl) (by kernel_rfl) (by kernel_rfl) (by kernel_rfl) (by kernel_rfl) (fun _ _ _ h => h) (Or.inl ⟨by rfl, ?_⟩) (by assumption) ?_
      rotate_left
      · (intro w' hSw; (try dsimp only at hSw); (try simp only [List.getElem_toArray, List.getElem_cons_succ, List.getElem_cons_zero]); go_simp; try (with_reducible rfl))
      simp only [Act.put, List.getElem_toArray, List.getElem_cons_succ, List.getElem_cons_zero, List.setIfInBounds_toArray, List.set_cons_zero, List.set_cons_succ]
      refine wpAnyG_take (v := ?_) 6 (by rfl) (by kernel_rfl) (by kernel_rfl) (by kernel_rfl) (by kernel_rfl) (fun _ _ _ h => h) (Or.inl ⟨by rfl, ?_⟩) (by assumption) ?_
      rotate_left
      · (intro w' hSw; (try dsimp only at hSw); (try simp only [List.getElem_toArray, List.getElem_cons_succ, List.getElem_cons_zero]); go_simp; try (with_reducible rfl))
      simp only [Act.put, List.getElem_toArray, List.getElem_cons_succ, List.getElem_cons_zero, List.setIfInBounds_toArray, List.set_cons_zero, List.set_cons_succ]
      refine wpAnyG_take (v := ?_) 7 (by rfl) (by kernel_rfl) (by kernel_rfl) (by kernel_rfl) (by kernel_rfl) (fun _ _ _ h => h) (Or.inl ⟨by rfl, ?_⟩) (by assumption) ?_
      rotate_left
      · (intro w' hSw; (try dsimp only at hSw); (try simp only [List.getElem_toArray, List.getElem_cons_succ, List.getElem_cons_zero]); go_simp; try (with_reducible rfl))
      simp only [Act.put, List.getElem_toArray, List.getElem_cons_succ, List.getElem_cons_zero, List.setIfInBounds_toArray, List.set_cons_zero, List.set_cons_succ]
      refine wpAnyG_take (v := ?_) 8 (by rfl) (by kernel_rfl) (by kernel_rfl) (by kernel_rfl) (by kernel_rfl) (fun _ _ _ h => h) (Or.inl ⟨by rfl, ?_⟩) (by assumption) ?_
      rotate_left
      · (intro w' hSw; (try dsimp only at hSw); (try simp only [List.getElem_toArray, List.getElem_cons_succ, List.getElem_cons_zero]); go_simp; try (with_reducible rfl))
      simp only [Act.put, List.getElem_toArray, List.getElem_cons_succ, List.getElem_cons_zero, List.setIfInBounds_toArray, List.set_cons_zero, List.set_cons_succ]
      refine wpAnyG_take (v := ?_) 9 (by rfl) (by kernel_rfl) (by kernel_rfl) (by kernel_rfl) (by kernel_rfl) (fun _ _ _ h => h) (Or.inl ⟨by rfl, ?_⟩) (by assumption) ?_
      rotate_left
      · (intro w' hSw; (try dsimp only at hSw); (try simp only [List.getElem_toArray, List.getElem_cons_succ, List.getElem_cons_zero]); go_simp; try (with_reducible rfl))
      simp only [Act.put, List.getElem_toArray, List.getElem_cons_succ, List.getElem_cons_zero, List.setIfInBounds_toArray, List.set_cons_zero, List.set_cons_succ]
      refine wpAnyG_take (v := ?_) 10 (by rfl) (by kernel_rfl) (by kernel_rfl) (by kernel_rfl) (by kernel_rfl) (fun _ _ _ h => h) (Or.inl ⟨by rfl, ?_⟩) (by assumption) ?_
      rotate_left
      · (intro w' hSw; (try dsimp only at hSw); (try simp only [List.getElem_toArray, List.getElem_cons_succ, List.getElem_cons_zero]); go_simp; try (with_reducible rfl))
      simp only [Act.put, List.getElem_toArray, List.getElem_cons_succ, List.getElem_cons_zero, List.setIfInBounds_toArray, List.set_cons_zero, List.set_cons_succ]
      refine wpAnyG_take (v := ?_) 11 (by rfl) (by kernel_rfl) (by kernel_rfl) (by kernel_rfl) (by kernel_rfl) (fun _ _ _ h => h) (Or.inl ⟨by rfl, ?_⟩) (by assumption) ?_
      rotate_left
      · (intro w' hSw; (try dsimp only at hSw); (try simp only [List.getElem_toArray, List.getElem_cons_succ, List.getElem_cons_zero]); go_simp; try (with_reducible rfl))
      simp only [Act.put, List.getElem_toArray, List.getElem_cons_succ, List.getElem_cons_zero, List.setIfInBounds_toArray, List.set_cons_zero, List.set_cons_succ]
      refine wpAnyG_ready [12] (by kernel_rfl) (by simp) ?_
      refine AllReadyG.cons 12 (by rfl) (fun K hK => ?_) ?_
      · simp only [List.getElem_toArray, List.getElem_cons_succ, List.getElem_cons_zero]
        go_simp
        go_at_call 15
        refine (lklink_any (unhide HQ).2.2 (v0 : Int) (u1 : Int) (j4 : Int) wq ((unhide HQ).2.1.below hdq)).mono ?_
        rintro e wc ⟨rfl, hp1, hb1⟩
        refine hK.out _ _ trivial (fun _ => ?_)
        clear hK K
        try simp only [Act.put, List.setIfInBounds_toArray, List.set_cons_zero, List.set_cons_succ]
        refine wpAnyG_done (by kernel_rfl) ?_ _
        refine NoPanic.normal ?_
        have HQ2 : Hid (Below w.heap.size w wc ∧ LkP wc f g n (Sp.lkU n U (v0 : Int) (u1 : Int)) (Sp.lkW n U W (v0 : Int) (u1 : Int) (j4 : Int)) ∧ Sp.Fo n (Sp.lkU n U (v0 : Int) (u1 : Int))) := hide ⟨(unhide HQ).1.trans (((Bt.of hdq).trans hb1).below (fun k e => by rw [e]; exact hgw) (unhide HQ).1.size), hp1, (unhide HQ).2.2.lk _ _⟩
        clear hp1 hb1 hdq hHeld
        go_wp2
        go_roundg g'
        case rel => exact ⟨i + 1, _, _, by omega, by go_num, HQ2⟩
        case measure => omega
      exact AllReadyG.nil
    · have hdone : (¬ (i : Int) < (ns.length : Int)) ∨ ((i : Int) < (ns.length : Int) ∧ ¬ (i : Int) < 60) := by omega
      clear HWn hi hig
      clear HNa HNs hv
      obtain ⟨km, b, hkr, hr0, hrn⟩ := (unhide HQ).2.2.ex han
      have hkn : km < n := (unhide HQ).2.2.depth han hkr
      have Hup := hide (And.intro hkr hr0)
      have HF := hide (unhide HQ).2.2
      have HQ1 := hide (And.intro (unhide HQ).1 (unhide HQ).2.1)
      clear HQ hkr hr0
      rcases hdone with hdone | ⟨hdone, hdone2⟩
      · obtain ⟨wA, hwA⟩ : ∃ wA, wA = (wr.alloc (.cells #[.int .i64 0, .int .i64 0, .int .i64 0, .int .i64 0, .int .i64 0, .int .i64 0, .int .i64 0, .int .i64 0, .int .i64 0, .int .i64 0, .int .i64 0, .int .i64 0, .int .i64 0, .int .i64 0, .int .i64 0, .int .i64 0] 37)).alloc (.cells #[.bool false, .bool false, .bool false, .bool false, .bool false, .bool false, .bool false, .bool false, .bool false, .bool false, .bool false, .bool false, .bool false, .bool false, .bool false, .bool false] 38) := ⟨_, rfl⟩
        obtain ⟨gI, hgI⟩ : ∃ gI, wr.heap.size = gI := ⟨_, rfl⟩
        obtain ⟨gB, hgB⟩ : ∃ gB, gI + 1 = gB := ⟨_, rfl⟩
        have hs1 : (wr.alloc (.cells #[.int .i64 0, .int .i64 0, .int .i64 0, .int .i64 0, .int .i64 0, .int .i64 0, .int .i64 0, .int .i64 0, .int .i64 0, .int .i64 0, .int .i64 0, .int .i64 0, .int .i64 0, .int .i64 0, .int .i64 0, .int .i64 0] 37)).heap.size = gB := by rw [← hgB, ← hgI]; simp
        have hbA : Below wr.heap.size wr wA := by rw [hwA]; exact ((Below.refl _ wr).alloc (Nat.le_refl _) _).alloc (by rw [hs1]; omega) _
        have HA0 : Hid (Below w.heap.size w wA ∧ LkP wA f g n U W ∧ ArI wA gI 16 (fun _ => 0) ∧ ArB wA gB 16 (fun _ => false)) := hide (by
          refine ⟨(unhide HQ1).1.trans (hbA.mono (unhide HQ1).1.size), (unhide HQ1).2.below hbA, ?_, ?_⟩
          · rw [hwA, ← hgI]; exact (arI_new wr).alloc _
          · rw [hwA, ← hs1]; exact arB_new _)
        have HNe : Hid (f ≠ gI ∧ g ≠ gI ∧ f ≠ gB ∧ g ≠ gB ∧ gI ≠ gB ∧ w.heap.size ≤ gI ∧ w.heap.size ≤ gB) := hide (by
          have h1 := (unhide HQ1).2.lt
          have h2 := (unhide HQ1).1.size
          omega)
        have hgs : wr.heap.size + 1 = gB := by omega
        have HSetI : Hid (∀ w' Wn zI zB (j : Nat) (y : Int), Below w.heap.size w w' ∧ LkP w' f g n U Wn ∧ ArI w' gI 16 zI ∧ ArB w' gB 16 zB → Below w.heap.size w (w'.setCell ⟨gI, j, none⟩ (.int .i64 y)) ∧ LkP (w'.setCell ⟨gI, j, none⟩ (.int .i64 y)) f g n U Wn ∧ ArI (w'.setCell ⟨gI, j, none⟩ (.int .i64 y)) gI 16 (Sp.upd zI j y) ∧ ArB (w'.setCell ⟨gI, j, none⟩ (.int .i64 y)) gB 16 zB) := hide fun w' Wn zI zB j y h => by
          obtain ⟨n1, n2, n3, n4, n5, n6, n7⟩ := unhide HNe
          exact ⟨h.1.setCell (p := ⟨gI, j, none⟩) n6 _, h.2.1.bt (p := fun b => b = gI) ((Bt.refl (fun b => b = gI) _).set (.inl rfl) _ _ _) n1 n2, h.2.2.1.set _ _, h.2.2.2.set_ne (fun e => n5 e.symm) _ _ _⟩
        have HSetB : Hid (∀ w' Wn zI zB (j : Nat) (y : Bool), Below w.heap.size w w' ∧ LkP w' f g n U Wn ∧ ArI w' gI 16 zI ∧ ArB w' gB 16 zB → Below w.heap.size w (w'.setCell ⟨gB, j, none⟩ (.bool y)) ∧ LkP (w'.setCell ⟨gB, j, none⟩ (.bool y)) f g n U Wn ∧ ArI (w'.setCell ⟨gB, j, none⟩ (.bool y)) gI 16 zI ∧ ArB (w'.setCell ⟨gB, j, none⟩ (.bool y)) gB 16 (Sp.updK zB j y)) := hide fun w' Wn zI zB j y h => by
          obtain ⟨n1, n2, n3, n4, n5, n6, n7⟩ := unhide HNe
          exact ⟨h.1.setCell (p := ⟨gB, j, none⟩) n7 _, h.2.1.bt (p := fun b => b = gB) ((Bt.refl (fun b => b = gB) _).set (.inl rfl) _ _ _) n3 n4, h.2.2.1.set_ne n5 _ _ _, h.2.2.2.set _ _⟩
        clear hs1 hbA
        go_wp2
        rw [← hwA]
        clear hwA hgs hgI hgB HQ1
        go_loopg [15] n (fun g' s15 wr => ∃ (d : Nat) (zI : Nat → Int), d + g' = n ∧ s15 = .int .i64 (d : Int) ∧ Hid ((Below w.heap.size w wr ∧ LkP wr f g n U W ∧ ArI wr gI 16 zI ∧ ArB wr gB 16 (fun _ => false)) ∧ ∀ v, v < d → zI v = (fun v : Nat => if Sp.hg n U (v : Int) = true then W v else 0) v))
        case atStart => exact ⟨0, _, by omega, rfl, hide ⟨unhide HA0, fun v hv => by omega⟩⟩
        case round =>
          clear HA0
          obtain ⟨d, zI, hdg, rfl, HI⟩ := hrel
          cases gk with
          | succ g' =>
            have hd : d < n := by omega
            have hdI : (d : Int) < (n : Int) := by omega
            have hd16 : (d : Int) < 16 := by omega
            have HC := hide (lkweight_any (d : Int) wr (unhide HI).1.2.1)
            rw [Int.toNat_natCast] at HC
            obtain ⟨y, hy⟩ : ∃ y, (if Sp.hg n U (d : Int) = true then W d else 0) = y := ⟨_, rfl⟩
            rw [hy] at HC
            have c0 := (unhide HI).1.2.2.1.cell (j := d) (by omega)
            have cf := fun i => (unhide HI).1.2.2.1.frozen i none
            have HI2 : Hid ((Below w.heap.size w (wr.setCell ⟨gI, d, none⟩ (.int .i64 y)) ∧ LkP (wr.setCell ⟨gI, d, none⟩ (.int .i64 y)) f g n U W ∧ ArI (wr.setCell ⟨gI, d, none⟩ (.int .i64 y)) gI 16 (Sp.upd zI d y) ∧ ArB (wr.setCell ⟨gI, d, none⟩ (.int .i64 y)) gB 16 (fun _ => false)) ∧ ∀ v, v < d + 1 → Sp.upd zI d y v = (fun v : Nat => if Sp.hg n U (v : Int) = true then W v else 0) v) := hide ⟨unhide HSetI _ _ _ _ _ _ (unhide HI).1, fun v hv => by
              by_cases e : v = d
              · subst e; rw [Sp.upd_same]; exact hy.symm
              · rw [Sp.upd_other _ _ e]; exact (unhide HI).2 v (by omega)⟩
            clear HI hy
            go_wp2_with fail
            go_at_call 20
            refine (unhide HC).mono ?_
            rintro e wz ⟨rfl, hw⟩
            have hw' := hw.symm
            subst hw'
            clear hw
            go_wp2
            go_roundg g'
            case rel => exact ⟨d + 1, _, by omega, by go_num, HI2⟩
            case measure => omega
          | zero =>
            obtain rfl : n = d := by omega
            have hnn : ¬ (n : Int) < (n : Int) := by omega
            have HzI := hide (unhide HI).2
            have HI3 := hide (unhide HI).1
            clear HI hdg
            go_wp2_with fail
            go_at_call 10
            refine (unhide HWa _).mono ?_
            rintro e wz ⟨rfl, hwz⟩
            have hwz' := hwz.symm
            subst hwz'
            clear hwz
            go_wp2_with fail
            go_at_call 10
            refine (unhide HWy _).mono ?_
            rintro e wz ⟨rfl, hwz⟩
            have hwz' := hwz.symm
            subst hwz'
            clear hwz
            go_wp2
            go_loopg [18, 19] km (fun g' s18 s19 wr => ∃ (i v1 : Nat) (zB : Nat → Bool), i + g' = km ∧ s18 = .int .i64 (v1 : Int) ∧ s19 = .int .i64 (i : Int) ∧ Hid (Sp.Upw U i a v1 ∧ ∀ v, zB v = true ↔ ∃ i', i' < i ∧ Sp.Upw U i' a v) ∧ Hid (Below w.heap.size w wr ∧ LkP wr f g n U W ∧ ArI wr gI 16 zI ∧ ArB wr gB 16 zB))
            case atStart => exact ⟨0, a, fun _ => false, by omega, rfl, rfl, hide ⟨rfl, fun v => ⟨fun h => (by cases h), fun ⟨i', hi', _⟩ => by omega⟩⟩, HI3⟩
            case round =>
              clear HI3
              obtain ⟨i, v1, zB, hig, rfl, rfl, HV, HI⟩ := hrel
              have hv1n : v1 < n := (unhide HF).up_lt han (unhide HV).1
              have hiI : (i : Int) < (n : Int) := by omega
              have hU := lkup_any (v1 : Int) wr (unhide HI).2.1
              cases gk with
              | zero =>
                have hi : i = km := by omega
                subst hi
                have hvb : v1 = b := (unhide HV).1.one (unhide Hup).1
                have hg0 : Sp.hg n U (v1 : Int) = false := Sp.hg_root (by rw [hvb]; exact (unhide Hup).2)
                rw [hg0, if_neg (by decide)] at hU
                have HC := hide hU
                have hA := lkadd_any (unhide HF) (a : Int) bz wr (unhide HI).2.1
                rw [Sp.hs_yes han] at hA
                have HCa := hide hA
                have HzB := hide (unhide HV).2
                clear hU hg0 hvb hA HV hig
                go_wp2_with fail
                go_at_call 21
                refine (unhide HC).mono ?_
                rintro e wz ⟨rfl, hw⟩
                have hw' := hw.symm
                subst hw'
                clear hw
                clear HC
                go_wp2_with fail
                go_at_call 22
                refine (unhide HCa).mono ?_
                rintro e wB ⟨rfl, hpB, hbB⟩
                have HIB : Hid (Below w.heap.size w wB ∧ LkP wB f g n U (Sp.ad n U W (a : Int) bz) ∧ ArI wB gI 16 zI ∧ ArB wB gB 16 zB) := hide (by
                  obtain ⟨n1, n2, n3, n4, n5, n6, n7⟩ := unhide HNe
                  exact ⟨(unhide HI).1.trans (hbB.below (fun k e => by rw [e]; exact hgw) (unhide HI).1.size), hpB, (unhide HI).2.2.1.bt hbB (fun e => n2 e.symm), (unhide HI).2.2.2.bt hbB (fun e => n4 e.symm)⟩)
                have HAd : Hid (∀ x, x < n → (if Sp.hg n U (x : Int) = true then Sp.ad n U W (a : Int) bz x else 0) = (if zB x = true then IntKind.i64.wrap (zI x + bz) else zI x)) := hide fun x hx => by
                  have e1 : Sp.ad n U W (a : Int) bz = Sp.addW U bz (i + 1) W a := by
                    unfold Sp.ad
                    rw [if_pos (Sp.hs_yes han), Int.toNat_natCast, Sp.dp_is (unhide Hup).1 (unhide Hup).2]
                  obtain ⟨q1, q2⟩ := Sp.addW_at (unhide HF) (by_ := bz) (W := W) han (unhide Hup).1 (unhide Hup).2 x
                  rw [unhide HzI x hx, e1]
                  by_cases hon : zB x = true
                  · rw [if_pos hon]
                    obtain ⟨i', h1, h2⟩ := (unhide HzB x).1 hon
                    obtain ⟨y, g1, g2⟩ := (unhide Hup).1.part (j := i') (by omega)
                    obtain rfl : x = y := h2.one g1
                    obtain ⟨dd, hdd⟩ : ∃ dd, i - i' = dd + 1 := ⟨i - i' - 1, by omega⟩
                    rw [hdd] at g2
                    obtain ⟨u, e3, -⟩ := g2
                    have hgx := Sp.hg_yes hx (show U x ≠ -1 by omega)
                    rw [hgx, if_pos rfl, if_pos rfl, q1 ⟨i', h1, h2⟩]
                  · rw [if_neg hon, q2 (fun hh => hon ((unhide HzB x).2 hh))]
                clear hpB hbB HCa HI HzI HzB
                go_wp2
                go_loopg [22] n (fun g' s22 wr => ∃ d : Nat, d + g' = n ∧ s22 = .int .i64 (d : Int) ∧ wr = wB)
                case atStart => exact ⟨0, by omega, rfl, rfl⟩
                case round =>
                  obtain ⟨d, hdg, rfl, hwr⟩ := hrel
                  subst hwr
                  cases gk with
                  | succ g' =>
                    have hd : d < n := by omega
                    have hdI : (d : Int) < (n : Int) := by omega
                    have hd16 : (d : Int) < 16 := by omega
                    have hW := lkweight_any (d : Int) wr (unhide HIB).2.1
                    rw [Int.toNat_natCast, unhide HAd d hd] at hW
                    have HC := hide hW
                    have c0 := (unhide HIB).2.2.1.cell (j := d) (by omega)
                    have c1 := (unhide HIB).2.2.2.cell (j := d) (by omega)
                    generalize zI d = y at *
                    generalize Sp.hg n U (d : Int) = q at *
                    clear hW
                    obtain ⟨on, hon⟩ : ∃ on, zB d = on := ⟨_, rfl⟩
                    rw [hon] at HC c1
                    clear hon
                    cases on with
                    | true =>
                      rw [if_pos rfl] at HC
                      obtain ⟨z, hz⟩ : ∃ z, IntKind.i64.wrap (y + bz) = z := ⟨_, rfl⟩
                      rw [hz] at HC
                      have hzz : (z != z) = false := by simp
                      go_wp2_with fail
                      go_at_call 20
                      refine (unhide HC).mono ?_
                      rintro e wz ⟨rfl, hw⟩
                      have hw' := hw.symm
                      subst hw'
                      clear hw
                      go_wp2
                      go_roundg g'
                      case rel => exact ⟨d + 1, by omega, by go_num, rfl⟩
                      case measure => omega
                    | false =>
                      rw [if_neg (by decide)] at HC
                      have hzz : (y != y) = false := by simp
                      go_wp2_with fail
                      go_at_call 20
                      refine (unhide HC).mono ?_
                      rintro e wz ⟨rfl, hw⟩
                      have hw' := hw.symm
                      subst hw'
                      clear hw
                      go_wp2
                      go_roundg g'
                      case rel => exact ⟨d + 1, by omega, by go_num, rfl⟩
                      case measure => omega
                  | zero =>
                    obtain rfl : n = d := by omega
                    have hnn : ¬ (n : Int) < (n : Int) := by omega
                    go_wp2
                    rw [unhide HP]
                    exact ⟨rfl, (unhide HIB).1⟩
              | succ g' =>
                have hi : i < km := by omega
                obtain ⟨y, h1, h2⟩ := (unhide Hup).1.part (j := i) (by omega)
                obtain rfl : v1 = y := (unhide HV).1.one h1
                obtain ⟨d, hd⟩ : ∃ d, km - i = d + 1 := ⟨km - i - 1, by omega⟩
                rw [hd] at h2
                obtain ⟨u, e, h3⟩ := h2
                have hun : u < n := (unhide HF).up_lt hv1n (k := 1) ⟨u, e, rfl⟩
                rw [Sp.hg_yes hv1n (by omega), if_pos rfl, Int.toNat_natCast, e] at hU
                have HC := hide hU
                have HV2 : Hid (Sp.Upw U (i + 1) a u ∧ ∀ v, Sp.updK zB v1 true v = true ↔ ∃ i', i' < i + 1 ∧ Sp.Upw U i' a v) := hide ⟨(unhide HV).1.snoc e, fun v => by
                  by_cases e2 : v = v1
                  · subst e2
                    rw [Sp.updK_same]
                    exact ⟨fun _ => ⟨i, by omega, (unhide HV).1⟩, fun _ => rfl⟩
                  · rw [Sp.updK_other _ _ e2, (unhide HV).2 v]
                    constructor
                    · rintro ⟨i', q1, q2⟩; exact ⟨i', by omega, q2⟩
                    · rintro ⟨i', q1, q2⟩
                      rcases Nat.lt_or_ge i' i with q3 | q3
                      · exact ⟨i', q3, q2⟩
                      · obtain rfl : i' = i := by omega
                        exact absurd (q2.one (unhide HV).1) e2⟩
                have hu0 : ¬ (u : Int) < 0 := by omega
                have hu1 : ¬ (u : Int) ≥ (n : Int) := by omega
                have hud : decide (n ≤ u) = false := decide_eq_false (by omega)
                have hv16 : (v1 : Int) < 16 := by omega
                have c0 := (unhide HI).2.2.2.cell (j := v1) (by omega)
                have cf := fun i => (unhide HI).2.2.2.frozen i none
                have HI2 : Hid (Below w.heap.size w (wr.setCell ⟨gB, v1, none⟩ (.bool true)) ∧ LkP (wr.setCell ⟨gB, v1, none⟩ (.bool true)) f g n U W ∧ ArI (wr.setCell ⟨gB, v1, none⟩ (.bool true)) gI 16 zI ∧ ArB (wr.setCell ⟨gB, v1, none⟩ (.bool true)) gB 16 (Sp.updK zB v1 true)) := hide (unhide HSetB _ _ _ _ _ _ (unhide HI))
                clear hU h1 h3 e hd HV HI
                go_wp2_with fail
                go_at_call 21
                refine (unhide HC).mono ?_
                rintro e wz ⟨rfl, hw⟩
                have hw' := hw.symm
                subst hw'
                clear hw
                go_wp2
                go_roundg g'
                case rel => exact ⟨i + 1, u, _, by omega, rfl, by go_num, HV2, HI2⟩
                case measure => omega
      · obtain ⟨wA, hwA⟩ : ∃ wA, wA = (wr.alloc (.cells #[.int .i64 0, .int .i64 0, .int .i64 0, .int .i64 0, .int .i64 0, .int .i64 0, .int .i64 0, .int .i64 0, .int .i64 0, .int .i64 0, .int .i64 0, .int .i64 0, .int .i64 0, .int .i64 0, .int .i64 0, .int .i64 0] 37)).alloc (.cells #[.bool false, .bool false, .bool false, .bool false, .bool false, .bool false, .bool false, .bool false, .bool false, .bool false, .bool false, .bool false, .bool false, .bool false, .bool false, .bool false] 38) := ⟨_, rfl⟩
        obtain ⟨gI, hgI⟩ : ∃ gI, wr.heap.size = gI := ⟨_, rfl⟩
        obtain ⟨gB, hgB⟩ : ∃ gB, gI + 1 = gB := ⟨_, rfl⟩
        have hs1 : (wr.alloc (.cells #[.int .i64 0, .int .i64 0, .int .i64 0, .int .i64 0, .int .i64 0, .int .i64 0, .int .i64 0, .int .i64 0, .int .i64 0, .int .i64 0, .int .i64 0, .int .i64 0, .int .i64 0, .int .i64 0, .int .i64 0, .int .i64 0] 37)).heap.size = gB := by rw [← hgB, ← hgI]; simp
        have hbA : Below wr.heap.size wr wA := by rw [hwA]; exact ((Below.refl _ wr).alloc (Nat.le_refl _) _).alloc (by rw [hs1]; omega) _
        have HA0 : Hid (Below w.heap.size w wA ∧ LkP wA f g n U W ∧ ArI wA gI 16 (fun _ => 0) ∧ ArB wA gB 16 (fun _ => false)) := hide (by
          refine ⟨(unhide HQ1).1.trans (hbA.mono (unhide HQ1).1.size), (unhide HQ1).2.below hbA, ?_, ?_⟩
          · rw [hwA, ← hgI]; exact (arI_new wr).alloc _
          · rw [hwA, ← hs1]; exact arB_new _)
        have HNe : Hid (f ≠ gI ∧ g ≠ gI ∧ f ≠ gB ∧ g ≠ gB ∧ gI ≠ gB ∧ w.heap.size ≤ gI ∧ w.heap.size ≤ gB) := hide (by
          have h1 := (unhide HQ1).2.lt
          have h2 := (unhide HQ1).1.size
          omega)
        have hgs : wr.heap.size + 1 = gB := by omega
        have HSetI : Hid (∀ w' Wn zI zB (j : Nat) (y : Int), Below w.heap.size w w' ∧ LkP w' f g n U Wn ∧ ArI w' gI 16 zI ∧ ArB w' gB 16 zB → Below w.heap.size w (w'.setCell ⟨gI, j, none⟩ (.int .i64 y)) ∧ LkP (w'.setCell ⟨gI, j, none⟩ (.int .i64 y)) f g n U Wn ∧ ArI (w'.setCell ⟨gI, j, none⟩ (.int .i64 y)) gI 16 (Sp.upd zI j y) ∧ ArB (w'.setCell ⟨gI, j, none⟩ (.int .i64 y)) gB 16 zB) := hide fun w' Wn zI zB j y h => by
          obtain ⟨n1, n2, n3, n4, n5, n6, n7⟩ := unhide HNe
          exact ⟨h.1.setCell (p := ⟨gI, j, none⟩) n6 _, h.2.1.bt (p := fun b => b = gI) ((Bt.refl (fun b => b = gI) _).set (.inl rfl) _ _ _) n1 n2, h.2.2.1.set _ _, h.2.2.2.set_ne (fun e => n5 e.symm) _ _ _⟩
        have HSetB : Hid (∀ w' Wn zI zB (j : Nat) (y : Bool), Below w.heap.size w w' ∧ LkP w' f g n U Wn ∧ ArI w' gI 16 zI ∧ ArB w' gB 16 zB → Below w.heap.size w (w'.setCell ⟨gB, j, none⟩ (.bool y)) ∧ LkP (w'.setCell ⟨gB, j, none⟩ (.bool y)) f g n U Wn ∧ ArI (w'.setCell ⟨gB, j, none⟩ (.bool y)) gI 16 zI ∧ ArB (w'.setCell ⟨gB, j, none⟩ (.bool y)) gB 16 (Sp.updK zB j y)) := hide fun w' Wn zI zB j y h => by
          obtain ⟨n1, n2, n3, n4, n5, n6, n7⟩ := unhide HNe
          exact ⟨h.1.setCell (p := ⟨gB, j, none⟩) n7 _, h.2.1.bt (p := fun b => b = gB) ((Bt.refl (fun b => b = gB) _).set (.inl rfl) _ _ _) n3 n4, h.2.2.1.set_ne n5 _ _ _, h.2.2.2.set _ _⟩
        clear hs1 hbA
        go_wp2
        rw [← hwA]
        clear hwA hgs hgI hgB HQ1
        go_loopg [15] n (fun g' s15 wr => ∃ (d : Nat) (zI : Nat → Int), d + g' = n ∧ s15 = .int .i64 (d : Int) ∧ Hid ((Below w.heap.size w wr ∧ LkP wr f g n U W ∧ ArI wr gI 16 zI ∧ ArB wr gB 16 (fun _ => false)) ∧ ∀ v, v < d → zI v = (fun v : Nat => if Sp.hg n U (v : Int) = true then W v else 0) v))
        case atStart => exact ⟨0, _, by omega, rfl, hide ⟨unhide HA0, fun v hv => by omega⟩⟩
        case round =>
          clear HA0
          obtain ⟨d, zI, hdg, rfl, HI⟩ := hrel
          cases gk with
          | succ g' =>
            have hd : d < n := by omega
            have hdI : (d : Int) < (n : Int) := by omega
            have hd16 : (d : Int) < 16 := by omega
            have HC := hide (lkweight_any (d : Int) wr (unhide HI).1.2.1)
            rw [Int.toNat_natCast] at HC
            obtain ⟨y, hy⟩ : ∃ y, (if Sp.hg n U (d : Int) = true then W d else 0) = y := ⟨_, rfl⟩
            rw [hy] at HC
            have c0 := (unhide HI).1.2.2.1.cell (j := d) (by omega)
            have cf := fun i => (unhide HI).1.2.2.1.frozen i none
            have HI2 : Hid ((Below w.heap.size w (wr.setCell ⟨gI, d, none⟩ (.int .i64 y)) ∧ LkP (wr.setCell ⟨gI, d, none⟩ (.int .i64 y)) f g n U W ∧ ArI (wr.setCell ⟨gI, d, none⟩ (.int .i64 y)) gI 16 (Sp.upd zI d y) ∧ ArB (wr.setCell ⟨gI, d, none⟩ (.int .i64 y)) gB 16 (fun _ => false)) ∧ ∀ v, v < d + 1 → Sp.upd zI d y v = (fun v : Nat => if Sp.hg n U (v : Int) = true then W v else 0) v) := hide ⟨unhide HSetI _ _ _ _ _ _ (unhide HI).1, fun v hv => by
              by_cases e : v = d
              · subst e; rw [Sp.upd_same]; exact hy.symm
              · rw [Sp.upd_other _ _ e]; exact (unhide HI).2 v (by omega)⟩
            clear HI hy
            go_wp2_with fail
            go_at_call 20
            refine (unhide HC).mono ?_
            rintro e wz ⟨rfl, hw⟩
            have hw' := hw.symm
            subst hw'
            clear hw
            go_wp2
            go_roundg g'
            case rel => exact ⟨d + 1, _, by omega, by go_num, HI2⟩
            case measure => omega
          | zero =>
            obtain rfl : n = d := by omega
            have hnn : ¬ (n : Int) < (n : Int) := by omega
            have HzI := hide (unhide HI).2
            have HI3 := hide (unhide HI).1
            clear HI hdg
            go_wp2_with fail
            go_at_call 10
            refine (unhide HWa _).mono ?_
            rintro e wz ⟨rfl, hwz⟩
            have hwz' := hwz.symm
            subst hwz'
            clear hwz
            go_wp2_with fail
            go_at_call 10
            refine (unhide HWy _).mono ?_
            rintro e wz ⟨rfl, hwz⟩
            have hwz' := hwz.symm
            subst hwz'
            clear hwz
            go_wp2
            go_loopg [18, 19] km (fun g' s18 s19 wr => ∃ (i v1 : Nat) (zB : Nat → Bool), i + g' = km ∧ s18 = .int .i64 (v1 : Int) ∧ s19 = .int .i64 (i : Int) ∧ Hid (Sp.Upw U i a v1 ∧ ∀ v, zB v = true ↔ ∃ i', i' < i ∧ Sp.Upw U i' a v) ∧ Hid (Below w.heap.size w wr ∧ LkP wr f g n U W ∧ ArI wr gI 16 zI ∧ ArB wr gB 16 zB))
            case atStart => exact ⟨0, a, fun _ => false, by omega, rfl, rfl, hide ⟨rfl, fun v => ⟨fun h => (by cases h), fun ⟨i', hi', _⟩ => by omega⟩⟩, HI3⟩
            case round =>
              clear HI3
              obtain ⟨i, v1, zB, hig, rfl, rfl, HV, HI⟩ := hrel
              have hv1n : v1 < n := (unhide HF).up_lt han (unhide HV).1
              have hiI : (i : Int) < (n : Int) := by omega
              have hU := lkup_any (v1 : Int) wr (unhide HI).2.1
              cases gk with
              | zero =>
                have hi : i = km := by omega
                subst hi
                have hvb : v1 = b := (unhide HV).1.one (unhide Hup).1
                have hg0 : Sp.hg n U (v1 : Int) = false := Sp.hg_root (by rw [hvb]; exact (unhide Hup).2)
                rw [hg0, if_neg (by decide)] at hU
                have HC := hide hU
                have hA := lkadd_any (unhide HF) (a : Int) bz wr (unhide HI).2.1
                rw [Sp.hs_yes han] at hA
                have HCa := hide hA
                have HzB := hide (unhide HV).2
                clear hU hg0 hvb hA HV hig
                go_wp2_with fail
                go_at_call 21
                refine (unhide HC).mono ?_
                rintro e wz ⟨rfl, hw⟩
                have hw' := hw.symm
                subst hw'
                clear hw
                clear HC
                go_wp2_with fail
                go_at_call 22
                refine (unhide HCa).mono ?_
                rintro e wB ⟨rfl, hpB, hbB⟩
                have HIB : Hid (Below w.heap.size w wB ∧ LkP wB f g n U (Sp.ad n U W (a : Int) bz) ∧ ArI wB gI 16 zI ∧ ArB wB gB 16 zB) := hide (by
                  obtain ⟨n1, n2, n3, n4, n5, n6, n7⟩ := unhide HNe
                  exact ⟨(unhide HI).1.trans (hbB.below (fun k e => by rw [e]; exact hgw) (unhide HI).1.size), hpB, (unhide HI).2.2.1.bt hbB (fun e => n2 e.symm), (unhide HI).2.2.2.bt hbB (fun e => n4 e.symm)⟩)
                have HAd : Hid (∀ x, x < n → (if Sp.hg n U (x : Int) = true then Sp.ad n U W (a : Int) bz x else 0) = (if zB x = true then IntKind.i64.wrap (zI x + bz) else zI x)) := hide fun x hx => by
                  have e1 : Sp.ad n U W (a : Int) bz = Sp.addW U bz (i + 1) W a := by
                    unfold Sp.ad
                    rw [if_pos (Sp.hs_yes han), Int.toNat_natCast, Sp.dp_is (unhide Hup).1 (unhide Hup).2]
                  obtain ⟨q1, q2⟩ := Sp.addW_at (unhide HF) (by_ := bz) (W := W) han (unhide Hup).1 (unhide Hup).2 x
                  rw [unhide HzI x hx, e1]
                  by_cases hon : zB x = true
                  · rw [if_pos hon]
                    obtain ⟨i', h1, h2⟩ := (unhide HzB x).1 hon
                    obtain ⟨y, g1, g2⟩ := (unhide Hup).1.part (j := i') (by omega)
                    obtain rfl : x = y := h2.one g1
                    obtain ⟨dd, hdd⟩ : ∃ dd, i - i' = dd + 1 := ⟨i - i' - 1, by omega⟩
                    rw [hdd] at g2
                    obtain ⟨u, e3, -⟩ := g2
                    have hgx := Sp.hg_yes hx (show U x ≠ -1 by omega)
                    rw [hgx, if_pos rfl, if_pos rfl, q1 ⟨i', h1, h2⟩]
                  · rw [if_neg hon, q2 (fun hh => hon ((unhide HzB x).2 hh))]
                clear hpB hbB HCa HI HzI HzB
                go_wp2
                go_loopg [22] n (fun g' s22 wr => ∃ d : Nat, d + g' = n ∧ s22 = .int .i64 (d : Int) ∧ wr = wB)
                case atStart => exact ⟨0, by omega, rfl, rfl⟩
                case round =>
                  obtain ⟨d, hdg, rfl, hwr⟩ := hrel
                  subst hwr
                  cases gk with
                  | succ g' =>
                    have hd : d < n := by omega
                    have hdI : (d : Int) < (n : Int) := by omega
                    have hd16 : (d : Int) < 16 := by omega
                    have hW := lkweight_any (d : Int) wr (unhide HIB).2.1
                    rw [Int.toNat_natCast, unhide HAd d hd] at hW
                    have HC := hide hW
                    have c0 := (unhide HIB).2.2.1.cell (j := d) (by omega)
                    have c1 := (unhide HIB).2.2.2.cell (j := d) (by omega)
                    generalize zI d = y at *
                    generalize Sp.hg n U (d : Int) = q at *
                    clear hW
                    obtain ⟨on, hon⟩ : ∃ on, zB d = on := ⟨_, rfl⟩
                    rw [hon] at HC c1
                    clear hon
                    cases on with
                    | true =>
                      rw [if_pos rfl] at HC
                      obtain ⟨z, hz⟩ : ∃ z, IntKind.i64.wrap (y + bz) = z := ⟨_, rfl⟩
                      rw [hz] at HC
                      have hzz : (z != z) = false := by simp
                      go_wp2_with fail
                      go_at_call 20
                      refine (unhide HC).mono ?_
                      rintro e wz ⟨rfl, hw⟩
                      have hw' := hw.symm
                      subst hw'
                      clear hw
                      go_wp2
                      go_roundg g'
                      case rel => exact ⟨d + 1, by omega, by go_num, rfl⟩
                      case measure => omega
                    | false =>
                      rw [if_neg (by decide)] at HC
                      have hzz : (y != y) = false := by simp
                      go_wp2_with fail
                      go_at_call 20
                      refine (unhide HC).mono ?_
                      rintro e wz ⟨rfl, hw⟩
                      have hw' := hw.symm
                      subst hw'
                      clear hw
                      go_wp2
                      go_roundg g'
                      case rel => exact ⟨d + 1, by omega, by go_num, rfl⟩
                      case measure => omega
                  | zero =>
                    obtain rfl : n = d := by omega
                    have hnn : ¬ (n : Int) < (n : Int) := by omega
                    go_wp2
                    rw [unhide HP]
                    exact ⟨rfl, (unhide HIB).1⟩
              | succ g' =>
                have hi : i < km := by omega
                obtain ⟨y, h1, h2⟩ := (unhide Hup).1.part (j := i) (by omega)
                obtain rfl : v1 = y := (unhide HV).1.one h1
                obtain ⟨d, hd⟩ : ∃ d, km - i = d + 1 := ⟨km - i - 1, by omega⟩
                rw [hd] at h2
                obtain ⟨u, e, h3⟩ := h2
                have hun : u < n := (unhide HF).up_lt hv1n (k := 1) ⟨u, e, rfl⟩
                rw [Sp.hg_yes hv1n (by omega), if_pos rfl, Int.toNat_natCast, e] at hU
                have HC := hide hU
                have HV2 : Hid (Sp.Upw U (i + 1) a u ∧ ∀ v, Sp.updK zB v1 true v = true ↔ ∃ i', i' < i + 1 ∧ Sp.Upw U i' a v) := hide ⟨(unhide HV).1.snoc e, fun v => by
                  by_cases e2 : v = v1
                  · subst e2
                    rw [Sp.updK_same]
                    exact ⟨fun _ => ⟨i, by omega, (unhide HV).1⟩, fun _ => rfl⟩
                  · rw [Sp.updK_other _ _ e2, (unhide HV).2 v]
                    constructor
                    · rintro ⟨i', q1, q2⟩; exact ⟨i', by omega, q2⟩
                    · rintro ⟨i', q1, q2⟩
                      rcases Nat.lt_or_ge i' i with q3 | q3
                      · exact ⟨i', q3, q2⟩
                      · obtain rfl : i' = i := by omega
                        exact absurd (q2.one (unhide HV).1) e2⟩
                have hu0 : ¬ (u : Int) < 0 := by omega
                have hu1 : ¬ (u : Int) ≥ (n : Int) := by omega
                have hud : decide (n ≤ u) = false := decide_eq_false (by omega)
                have hv16 : (v1 : Int) < 16 := by omega
                have c0 := (unhide HI).2.2.2.cell (j := v1) (by omega)
                have cf := fun i => (unhide HI).2.2.2.frozen i none
                have HI2 : Hid (Below w.heap.size w (wr.setCell ⟨gB, v1, none⟩ (.bool true)) ∧ LkP (wr.setCell ⟨gB, v1, none⟩ (.bool true)) f g n U W ∧ ArI (wr.setCell ⟨gB, v1, none⟩ (.bool true)) gI 16 zI ∧ ArB (wr.setCell ⟨gB, v1, none⟩ (.bool true)) gB 16 (Sp.updK zB v1 true)) := hide (unhide HSetB _ _ _ _ _ _ (unhide HI))
                clear hU h1 h3 e hd HV HI
                go_wp2_with fail
                go_at_call 21
                refine (unhide HC).mono ?_
                rintro e wz ⟨rfl, hw⟩
                have hw' := hw.symm
                subst hw'
                clear hw
                go_wp2
                go_roundg g'
                case rel => exact ⟨i + 1, u, _, by omega, rfl, by go_num, HV2, HI2⟩
                case measure => omega
end Go.Proofs.Ytohfmohkaaidpaa


