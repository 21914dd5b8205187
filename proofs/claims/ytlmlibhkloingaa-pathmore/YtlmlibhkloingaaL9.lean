/- What the proof needs, part 9. -/
import Derived.Test.YtlmlibhkloingaaL8
/- The law PathMore, walked. -/
namespace Go.Proofs.Ytlmlibhkloingaa
open Go Go.RowKit

theorem Sp.Wk.mono {L L' : List Sp.Arc} (h : ∀ a ∈ L, a ∈ L') {s : Nat} : ∀ m v x, Sp.Wk L s m v x → Sp.Wk L' s m v x
  | 0, _, _, hw => hw
  | m + 1, v, x, hw => by
    obtain ⟨a, ha, e, hw⟩ := hw
    exact ⟨a, h a ha, e, Sp.Wk.mono h m _ _ hw⟩
theorem Sp.Short.congr {L L' : List Sp.Arc} {s n : Nat} {D : Nat → Int} (h : Sp.Short 1152921504606846976 L s n D) (hm : ∀ a, a ∈ L ↔ a ∈ L') : Sp.Short 1152921504606846976 L' s n D :=
  ⟨h.src, fun a ha => h.arc a ((hm a).2 ha), fun v hv hne => by obtain ⟨m, hk⟩ := h.att v hv hne; exact ⟨m, Sp.Wk.mono (fun a ha => (hm a).1 ha) m _ _ hk⟩⟩
/-- With more arcs no way is longer. -/
theorem Sp.Short.more {L L' : List Sp.Arc} {s n : Nat} {D E : Nat → Int} (h : Sp.Short 1152921504606846976 L s n D) (k : Sp.Short 1152921504606846976 L' s n E) (hm : ∀ a ∈ L, a ∈ L') (hE : ∀ v, v < n → E v ≠ 1152921504606846976 → E v < 1152921504606846976) {v : Nat} (hv : v < n) : E v ≤ D v := by
  by_cases e : D v = 1152921504606846976
  · by_cases e2 : E v = 1152921504606846976
    · rw [e, e2]; exact Int.le_refl _
    · have := hE v hv e2; omega
  · obtain ⟨m, hk⟩ := h.att v hv e
    exact (k.low (by decide) m v _ (Sp.Wk.mono hm m _ _ hk)).2
theorem ArcsI.take {w : World} {a : Option Addr} {n c k : Nat} {L : List Sp.Arc} (h : ArcsI w (.slice a n c) L) (hk : k ≤ L.length) : ArcsI w (.slice a k c) (L.take k) := by
  obtain ⟨a', c', e, h1, h2, h3⟩ := h
  injection e with e1 e2 e3
  subst e1 e3
  have hl : (L.take k).length = k := by rw [List.length_take]; omega
  refine ⟨a, c, by rw [hl], by omega, h2, fun j u hj => ?_⟩
  rw [Sp.cells3_take, List.getElem?_take] at hj
  split at hj
  · exact h3 j u hj
  · cases hj
theorem arcs_to (a : Option Addr) (n c k : Nat) (hk : k ≤ c) (w : World) : (Instr.slice 25 (.slice a n c) none (some (.int .i64 (k : Int))) none).run Try.prog w = .ok (.slice a k c) w := by
  have hs : ∀ w, (sizeOf (Try.prog.elem 25)).run Try.prog w = .ok 3 w := fun w => by rfl
  rw [run_slice_h w _ a n c (by rfl) .i64 (k : Int) (by omega) (by omega), hs]
  cases a <;> simp [sliced, Addr.add]
theorem arcs_from (a : Option Addr) (n c k : Nat) (hk : k ≤ n) (w : World) : (Instr.slice 25 (.slice a n c) (some (.int .i64 (k : Int))) none none).run Try.prog w = .ok (sliced a k n c 3) w := by
  have hs : ∀ w, (sizeOf (Try.prog.elem 25)).run Try.prog w = .ok 3 w := fun w => by rfl
  rw [run_slice_l w _ a n c (by rfl) .i64 (k : Int) (by omega) (by omega), hs]
  simp
theorem ArcsI.drop {w : World} {a : Option Addr} {n c k : Nat} {L : List Sp.Arc} (h : ArcsI w (.slice a n c) L) (hk : k ≤ L.length) : ArcsI w (sliced a k n c 3) (L.drop k) := by
  obtain ⟨a', c', e, h1, h2, h3⟩ := h
  injection e with e1 e2 e3
  subst e1 e2 e3
  unfold sliced
  refine ⟨_, _, by rw [List.length_drop], by rw [List.length_drop]; omega, by omega, fun j u hj => ?_⟩
  have hlt : j < (Sp.cells3 (L.drop k)).length := (List.getElem?_eq_some_iff.1 hj).1
  rw [Sp.cells3_len, List.length_drop] at hlt
  rw [Sp.cells3_drop, List.getElem?_drop] at hj
  obtain ⟨b, o, e1, e2, e3⟩ := h3 _ _ hj
  rw [if_neg (by omega), e1]
  refine ⟨b, o + k * 3, ?_, e2, by rw [Nat.add_assoc]; exact e3⟩
  simp only [Option.map_some, Addr.add]
  split
  · rename_i h0; rw [h0, Nat.add_zero]
  · rfl
set_option maxRecDepth 100000 in
set_option maxHeartbeats 16000000 in
theorem pathMore_any (size s more turn : Int) (ns : List Int) (nv : Value) (w : World) (hv : Ints w nv ns) :
    Calls Try.prog 7 #[.int .i64 size, nv, .int .i64 s, .int .i64 more, .int .i64 turn] w fun e w' => e = .returned (.bool true) ∧ Below w.heap.size w w' := by
  have HK := hide (known6_any w)
  have HN0 := hide (fun w' => within6_any size 14 w' (by omega) (by omega))
  have hm0 : 0 ≤ size % 14 := Int.emod_nonneg _ (by omega)
  have hm1 : size % 14 < 14 := Int.emod_lt_of_pos _ (by omega)
  obtain ⟨N, hN⟩ : ∃ N : Nat, 1 + size % 14 = (N : Int) := ⟨(1 + size % 14).toNat, by omega⟩
  have hN1 : 0 < N := by omega
  have hN2 : N ≤ 14 + 1 - 1 := by omega
  have HAr := hide (fun w' (hb : Below w.heap.size w w') => arcs_any N ns 0 nv w' (hv.below hb) hN1 (by omega) (by omega) (by omega))
  have HSn : Hid (Sp.Snd N (Sp.arcsOf N ns 0 50) ∧ ∀ a ∈ Sp.arcsOf N ns 0 50, 0 ≤ a.l) := hide ⟨Sp.arcsOf_snd hN1 ns (by omega) (by omega), Sp.arcsOf_pos N ns 50⟩
  have HLn : Hid ((Sp.arcsOf N ns 0 50).length ≤ 50) := hide (by rw [Sp.arcsOf_len]; omega)
  obtain ⟨L, hL⟩ : ∃ L, Sp.arcsOf N ns 0 50 = L := ⟨_, rfl⟩
  rw [hL] at HSn HLn
  simp only [hL] at HAr
  generalize size % 14 = sz at *
  obtain ⟨na, nc, rfl, -, -⟩ := hv.form
  obtain ⟨P, hP⟩ : ∃ P : Ending → World → Prop, P = fun e w' => e = .returned (.bool true) ∧ Below w.heap.size w w' := ⟨_, rfl⟩
  rw [← hP]
  have HP := hide hP
  clear hP
  go_enter Try.func7, Try.ntmps7
  go_wp2_with fail
  go_at_call 9
  refine (unhide HK).mono ?_
  rintro e w1 ⟨rfl, hb1⟩
  have HB1 := hide hb1
  clear hb1 HK
  go_wp2_with fail
  go_at_call 10
  refine (unhide HN0 w1).mono ?_
  rintro e wz ⟨rfl, hwz⟩
  have hwz' := hwz.symm
  subst hwz'
  clear hwz
  clear HN0
  go_wp2_with fail
  go_at_call 11
  refine (unhide HAr _ (unhide HB1)).mono ?_
  rintro e w3 ⟨lv, rfl, ho3, hb3⟩
  have hwb3 := (unhide HB1).trans (hb3.mono (unhide HB1).size)
  have hal3 := ho3.arcs
  obtain ⟨la, lc, rfl, -⟩ := hal3.form
  have HA3 : Hid (∀ w', Below w3.heap.size w3 w' → ArcsI w' (.slice la L.length lc) L ∧ Below w.heap.size w w') := hide fun w' hb => ⟨hal3.below hb, hwb3.trans (hb.mono hwb3.size)⟩
  have HNN := hide hN
  have hln := unhide HLn
  clear hN HAr ho3 hb3 hwb3 hal3 HB1 hL
  have hx0 : 0 ≤ s % (N : Int) := Int.emod_nonneg _ (by omega)
  have hx1 : s % (N : Int) < (N : Int) := Int.emod_lt_of_pos _ (by omega)
  obtain ⟨x, hx⟩ : ∃ x : Nat, s % (N : Int) = (x : Int) := ⟨(s % (N : Int)).toNat, by omega⟩
  have hxN : x < N := by omega
  have HWt : Hid (Calls Try.prog 10 #[.int .i64 s, .int .i64 (N : Int)] w3 fun e w' => e = .returned (.int .i64 (x : Int)) ∧ w' = w3) := hide (by rw [← hx]; exact within6_any s (N : Int) w3 (by omega) (by omega))
  have hk0 : 0 ≤ turn % ((L.length : Int) + 1) := Int.emod_nonneg _ (by omega)
  have hk1 : turn % ((L.length : Int) + 1) < (L.length : Int) + 1 := Int.emod_lt_of_pos _ (by omega)
  obtain ⟨k, hk⟩ : ∃ k : Nat, turn % ((L.length : Int) + 1) = (k : Int) := ⟨(turn % ((L.length : Int) + 1)).toNat, by omega⟩
  have hkL : k ≤ L.length := by omega
  have HWk : Hid (Calls Try.prog 10 #[.int .i64 turn, .int .i64 ((L.length : Int) + 1)] w3 fun e w' => e = .returned (.int .i64 (k : Int)) ∧ w' = w3) := hide (by rw [← hk]; exact within6_any turn ((L.length : Int) + 1) w3 (by omega) (by omega))
  clear hx0 hx1 hx hk0 hk1 hk
  go_wp2_with fail
  go_at_call 10
  refine (unhide HWt).mono ?_
  rintro e wz ⟨rfl, hwz⟩
  have hwz' := hwz.symm
  subst hwz'
  clear hwz
  go_wp2_with fail
  go_at_call 10
  refine (unhide HWk).mono ?_
  rintro e wz ⟨rfl, hwz⟩
  have hwz' := hwz.symm
  subst hwz'
  clear hwz
  clear HWt HWk
  have hlcL : L.length ≤ lc := by
    obtain ⟨a, c, e, h1, -⟩ := (unhide HA3 w3 (Below.refl _ _)).1.form
    injection e with e1 e2 e3
    omega
  obtain ⟨sa, hsa⟩ : ∃ sa, sa = (if lc = k then la else la.map (·.add (k * 3))) := ⟨_, rfl⟩
  have s1 : ∀ w, (Instr.slice 25 (.slice la L.length lc) (some (.int .i64 (k : Int))) none none).run Try.prog w = .ok (.slice sa (L.length - k) (lc - k)) w := fun w => by rw [hsa]; exact arcs_from la L.length lc k hkL w
  have HDr : Hid (∀ w', ArcsI w' (.slice la L.length lc) L → ArcsI w' (.slice sa (L.length - k) (lc - k)) (L.drop k)) := hide fun w' h => by rw [hsa]; exact h.drop hkL
  clear hsa
  have s2 := arcs_to la L.length lc k (by omega)
  have HMm : Hid (Sp.Snd N (L.drop k ++ L.take k ++ Sp.arcsOf N [more] 0 50) ∧ (∀ a ∈ L.drop k ++ L.take k ++ Sp.arcsOf N [more] 0 50, 0 ≤ a.l) ∧ (∀ a, a ∈ L ↔ a ∈ L.drop k ++ L.take k) ∧ (L.drop k ++ L.take k ++ Sp.arcsOf N [more] 0 50).length = L.length + 1 ∧ (L.drop k ++ L.take k ++ Sp.arcsOf N [more] 0 50).take L.length = L.drop k ++ L.take k) := hide (by
    have hmem : ∀ a, a ∈ L ↔ a ∈ L.drop k ++ L.take k := fun a => by
      rw [List.mem_append]
      constructor
      · intro h
        rw [← List.take_append_drop k L] at h
        rcases List.mem_append.1 h with h | h
        · exact .inr h
        · exact .inl h
      · rintro (h | h)
        · exact List.mem_of_mem_drop h
        · exact List.mem_of_mem_take h
    have hlen : (L.drop k ++ L.take k ++ Sp.arcsOf N [more] 0 50).length = L.length + 1 := by
      simp only [List.length_append, List.length_drop, List.length_take, Sp.arcsOf_len, List.length_cons, List.length_nil]; omega
    have hS2 := Sp.arcsOf_snd hN1 [more] (low := 0) (by omega) (by omega)
    refine ⟨⟨by rw [hlen]; omega, fun a ha => ?_⟩, fun a ha => ?_, hmem, hlen, ?_⟩
    · rcases List.mem_append.1 ha with h | h
      · exact (unhide HSn).1.at_ a ((hmem a).2 h)
      · exact hS2.at_ a h
    · rcases List.mem_append.1 ha with h | h
      · exact (unhide HSn).2 a ((hmem a).2 h)
      · exact Sp.arcsOf_pos N [more] 50 a h
    · exact List.take_left' (by simp only [List.length_append, List.length_drop, List.length_take]; omega))
  have hlen1 : (L.drop k).length = L.length - k := List.length_drop ..
  have hlen2 : (L.take k).length = k := by rw [List.length_take]; omega
  have hlen3 : (Sp.arcsOf N [more] 0 50).length = 1 := by rw [Sp.arcsOf_len]; rfl
  go_upto_region 7 with fail
  go_cut [15] (fun s15 w9 => ∃ wx a c, s15 = .slice a (L.length + 1) c ∧ wx = w9 ∧ Hid (Below w3.heap.size w3 wx ∧ OwnA wx w3.heap.size (.slice a (L.length + 1) c) (L.drop k ++ L.take k ++ Sp.arcsOf N [more] 0 50)))
  case first =>
    have hbq := (Below.refl w3.heap.size w3).drew
    have HLq0 := HA3
    refine wp_region_G (fun w' => True) (fun _ => false) (by kernel_rfl) trivial (fun hHeld => ?_)
    have hq3 : Below w3.heap.size w3 w3.drew := (Below.refl _ _).drew
    generalize w3.drew = wq at *
    have HLq : Hid (∀ w', Below wq.heap.size wq w' → ArcsI w' (.slice la L.length lc) L) := hide fun w' hb => (unhide HA3 w' (hq3.trans (hb.mono hq3.size))).1
    clear hbq
    have hbq := Below.refl wq.heap.size wq
    refine wpAnyG_take (v := ?_) 1 (by rfl) (by kernel_rfl) (by kernel_rfl) (by kernel_rfl) (by kernel_rfl) (fun _ _ _ h => h) (Or.inl ⟨by rfl, ?_⟩) (by assumption) ?_
    rotate_left
    · (intro w' hSw; (try dsimp only at hSw); (try simp only [List.getElem_toArray, List.getElem_cons_succ, List.getElem_cons_zero]); go_simp; try (with_reducible rfl))
    simp only [Act.put, List.getElem_toArray, List.getElem_cons_succ, List.getElem_cons_zero, List.setIfInBounds_toArray, List.set_cons_zero, List.set_cons_succ]
    refine wpAnyG_take (v := ?_) 2 (by rfl) (by kernel_rfl) (by kernel_rfl) (by kernel_rfl) (by kernel_rfl) (fun _ _ _ h => h) (Or.inl ⟨by rfl, ?_⟩) (by assumption) ?_
    rotate_left
    · (intro w' hSw; (try dsimp only at hSw); (try simp only [List.getElem_toArray, List.getElem_cons_succ, List.getElem_cons_zero]); go_simp; try (with_reducible rfl))
    simp only [Act.put, List.getElem_toArray, List.getElem_cons_succ, List.getElem_cons_zero, List.setIfInBounds_toArray, List.set_cons_zero, List.set_cons_succ]
    refine wpAnyG_take (v := ?_) 3 (by rfl) (by kernel_rfl) (by kernel_rfl) (by kernel_rfl) (by kernel_rfl) (fun _ _ _ h => h) (Or.inl ⟨by rfl, ?_⟩) (by assumption) ?_
    rotate_left
    · (intro w' hSw; (try dsimp only at hSw); (try simp only [List.getElem_toArray, List.getElem_cons_succ, List.getElem_cons_zero]); go_simp; try (with_reducible rfl))
    simp only [Act.put, List.getElem_toArray, List.getElem_cons_succ, List.getElem_cons_zero, List.setIfInBounds_toArray, List.set_cons_zero, List.set_cons_succ]
    refine wpAnyG_take (v := ?_) 5 (by rfl) (by kernel_rfl) (by kernel_rfl) (by kernel_rfl) (by kernel_rfl) (fun _ _ _ h => h) (Or.inl ⟨by rfl, ?_⟩) (by assumption) ?_
    rotate_left
    · (intro w' hSw; (try dsimp only at hSw); (try simp only [List.getElem_toArray, List.getElem_cons_succ, List.getElem_cons_zero]); go_simp; try (with_reducible rfl))
    simp only [Act.put, List.getElem_toArray, List.getElem_cons_succ, List.getElem_cons_zero, List.setIfInBounds_toArray, List.set_cons_zero, List.set_cons_succ]
    refine wpAnyG_take (v := ?_) 6 (by rfl) (by kernel_rfl) (by kernel_rfl) (by kernel_rfl) (by kernel_rfl) (fun _ _ _ h => h) (Or.inl ⟨by rfl, ?_⟩) (by assumption) ?_
    rotate_left
    · (intro w' hSw; (try dsimp only at hSw); (try simp only [List.getElem_toArray, List.getElem_cons_succ, List.getElem_cons_zero]); go_simp; try (with_reducible rfl))
    simp only [Act.put, List.getElem_toArray, List.getElem_cons_succ, List.getElem_cons_zero, List.setIfInBounds_toArray, List.set_cons_zero, List.set_cons_succ]
    refine wpAnyG_take (v := ?_) 7 (by rfl) (by kernel_rfl) (by kernel_rfl) (by kernel_rfl) (by kernel_rfl) (fun _ _ _ h => h) (Or.inl ⟨by rfl, ?_⟩) (by assumption) ?_
    rotate_left
    · (intro w' hSw; (try dsimp only at hSw); (try simp only [List.getElem_toArray, List.getElem_cons_succ, List.getElem_cons_zero]); go_simp; try (with_reducible rfl))
    simp only [Act.put, List.getElem_toArray, List.getElem_cons_succ, List.getElem_cons_zero, List.setIfInBounds_toArray, List.set_cons_zero, List.set_cons_succ]
    refine wpAnyG_take (v := ?_) 9 (by rfl) (by kernel_rfl) (by kernel_rfl) (by kernel_rfl) (by kernel_rfl) (fun _ _ _ h => h) (Or.inl ⟨by rfl, ?_⟩) (by assumption) ?_
    rotate_left
    · (intro w' hSw; (try dsimp only at hSw); (try simp only [List.getElem_toArray, List.getElem_cons_succ, List.getElem_cons_zero]); go_simp; try (with_reducible rfl))
    simp only [Act.put, List.getElem_toArray, List.getElem_cons_succ, List.getElem_cons_zero, List.setIfInBounds_toArray, List.set_cons_zero, List.set_cons_succ]
    refine wpAnyG_take (v := ?_) 10 (by rfl) (by kernel_rfl) (by kernel_rfl) (by kernel_rfl) (by kernel_rfl) (fun _ _ _ h => h) (Or.inl ⟨by rfl, ?_⟩) (by assumption) ?_
    rotate_left
    · (intro w' hSw; (try dsimp only at hSw); (try simp only [List.getElem_toArray, List.getElem_cons_succ, List.getElem_cons_zero]); go_simp; try (with_reducible rfl))
    simp only [Act.put, List.getElem_toArray, List.getElem_cons_succ, List.getElem_cons_zero, List.setIfInBounds_toArray, List.set_cons_zero, List.set_cons_succ]
    refine wpAnyG_ready [0, 11] (by kernel_rfl) (by simp) ?_
    refine AllReadyG.cons 0 (by rfl) (fun K hK => ?_) ?_
    · simp only [List.getElem_toArray, List.getElem_cons_zero]
      go_simp
      have hba := Below.alloc hbq hbq.size (.cells #[] 30)
      have hsz0 : wq.heap.size = wq.heap.size := by simp
      have own0 : OwnA (wq.alloc (.cells #[] 30)) wq.heap.size (.slice (some ⟨wq.heap.size, 0, none⟩) 0 0) [] := by
        rw [← hsz0]
        exact World.ownsRow_made wq #[] 0 hbq.size (by simp [maxLen]) rfl
      refine hK.out _ _ trivial (fun _ => ?_)
      clear hK K
      try simp only [Act.put, List.setIfInBounds_toArray, List.set_cons_zero, List.set_cons_succ]
      refine wpAnyG_ready [4, 11] (by kernel_rfl) (by simp) ?_
      refine AllReadyG.cons 4 (by rfl) (fun K hK => ?_) ?_
      · simp only [List.getElem_toArray, List.getElem_cons_succ, List.getElem_cons_zero]
        refine if_wanted (by rfl) (wp_appA (w := (wq.alloc (.cells #[] 30))) _ _ (by rfl) wq.heap.size _ _ ([]) (L.drop k) (by rfl) (by rfl) own0 (unhide HDr _ (unhide HLq _ hba)) (L.length - k) (by rw [hlen1]; exact Nat.zero_add _) (by omega) hba.size ?_)
        intro a4 c4 w4 own4 hg4 ho4
        have hb4 : Below wq.heap.size wq w4 := Below.grown hba hg4 hba.size (fun g hg => (OwnA.lt own0 g hg).1)
        refine hK.out _ _ trivial (fun _ => ?_)
        clear hK K
        try simp only [Act.put, List.setIfInBounds_toArray, List.set_cons_zero, List.set_cons_succ]
        refine wpAnyG_ready [8, 11] (by kernel_rfl) (by simp) ?_
        refine AllReadyG.cons 8 (by rfl) (fun K hK => ?_) ?_
        · simp only [List.getElem_toArray, List.getElem_cons_succ, List.getElem_cons_zero]
          refine if_wanted (by rfl) (wp_appA (w := w4) _ _ (by rfl) wq.heap.size _ _ ([] ++ L.drop k) (L.take k) (by rfl) (by rfl) own4 (ArcsI.take (unhide HLq _ hb4) hkL) (L.length) (by rw [List.nil_append, hlen1, hlen2]; omega) (by omega) hb4.size ?_)
          intro a8 c8 w8 own8 hg8 ho8
          have hb8 : Below wq.heap.size wq w8 := Below.grown hb4 hg8 hb4.size (fun g hg => (OwnA.lt own4 g hg).1)
          refine hK.out _ _ trivial (fun _ => ?_)
          clear hK K
          try simp only [Act.put, List.setIfInBounds_toArray, List.set_cons_zero, List.set_cons_succ]
          refine wpAnyG_ready [11] (by kernel_rfl) (by simp) ?_
          refine AllReadyG.cons 11 (by rfl) (fun K hK => ?_) ?_
          · simp only [List.getElem_toArray, List.getElem_cons_succ, List.getElem_cons_zero]
            go_simp
            have hbl := Below.alloc hb8 hb8.size (.cells #[.int .i64 more] 3)
            have hsz1 : w8.heap.size = w8.heap.size := by simp
            have lit0 : OwnI (w8.alloc (.cells #[.int .i64 more] 3)) 0 (.slice (some ⟨w8.heap.size, 0, none⟩) 1 1) [more] := own_lit w8 0 _ 1 [more] hsz1 rfl (Nat.zero_le _) (by simp)
            have ownl := OwnA.alloc own8 (.cells #[.int .i64 more] 3)
            have ne1 : (Value.slice a8 (L.length) c8).ownBlock ≠ some (w8.heap.size) := fun e => by
              have h1 := (OwnA.lt own8 _ e).2
              omega
            refine hK.out _ _ trivial (fun _ => ?_)
            clear hK K
            try simp only [Act.put, List.setIfInBounds_toArray, List.set_cons_zero, List.set_cons_succ]
            refine wpAnyG_ready [12] (by kernel_rfl) (by simp) ?_
            refine AllReadyG.cons 12 (by rfl) (fun K hK => ?_) ?_
            · simp only [List.getElem_toArray, List.getElem_cons_succ, List.getElem_cons_zero]
              go_simp
              go_at_call 11
              refine (arcs_any N [more] 0 _ (w8.alloc (.cells #[.int .i64 more] 3)) (OwnI.ints lit0) hN1 (by omega) (by omega) (by omega)).mono ?_
              rintro e wc ⟨rvA, rfl, hoA, hlc⟩
              have hbc := Below.trans hbl (hlc.mono hbl.size)
              have ownc := OwnA.below ownl hlc
              refine hK.out _ _ trivial (fun _ => ?_)
              clear hK K
              try simp only [Act.put, List.setIfInBounds_toArray, List.set_cons_zero, List.set_cons_succ]
              refine wpAnyG_ready [13] (by kernel_rfl) (by simp) ?_
              refine AllReadyG.cons 13 (by rfl) (fun K hK => ?_) ?_
              · simp only [List.getElem_toArray, List.getElem_cons_succ, List.getElem_cons_zero]
                refine if_wanted (by rfl) (wp_appA (w := wc) _ _ (by rfl) wq.heap.size _ _ ([] ++ L.drop k ++ L.take k) (Sp.arcsOf N [more] 0 50) (by rfl) (by rfl) ownc (hoA.arcs) (L.length + 1) (by rw [List.nil_append, List.length_append, hlen1, hlen2, hlen3]; omega) (by omega) hbc.size ?_)
                intro a13 c13 w13 own13 hg13 ho13
                have hb13 : Below wq.heap.size wq w13 := Below.grown hbc hg13 hbc.size (fun g hg => (OwnA.lt ownc g hg).1)
                refine hK.out _ _ trivial (fun _ => ?_)
                clear hK K
                try simp only [Act.put, List.setIfInBounds_toArray, List.set_cons_zero, List.set_cons_succ]
                refine wpAnyG_take (v := ?_) 14 (by rfl) (by kernel_rfl) (by kernel_rfl) (by kernel_rfl) (by kernel_rfl) (fun _ _ _ h => h) (Or.inl ⟨by rfl, ?_⟩) (by assumption) ?_
                rotate_left
                · (intro w' hSw; (try dsimp only at hSw); (try simp only [List.getElem_toArray, List.getElem_cons_succ, List.getElem_cons_zero]); go_simp; try (with_reducible rfl))
                simp only [Act.put, List.getElem_toArray, List.getElem_cons_succ, List.getElem_cons_zero, List.setIfInBounds_toArray, List.set_cons_zero, List.set_cons_succ]
                refine wpAnyG_done (by kernel_rfl) ?_ _
                refine NoPanic.normal ?_
                have hfin := hq3.trans (hb13.mono hq3.size)
                have hown := OwnA.base own13 hq3.size
                go_wp2
                go_meet
                exact ⟨_, _, _, rfl, rfl, hide ⟨hfin, by rw [List.nil_append] at hown; exact hown⟩⟩
              exact AllReadyG.nil
            exact AllReadyG.nil
          exact AllReadyG.nil
        refine AllReadyG.cons 11 (by rfl) (fun K hK => ?_) ?_
        · simp only [List.getElem_toArray, List.getElem_cons_succ, List.getElem_cons_zero]
          go_simp
          have hbl := Below.alloc hb4 hb4.size (.cells #[.int .i64 more] 3)
          have hsz1 : w4.heap.size = w4.heap.size := by simp
          have lit0 : OwnI (w4.alloc (.cells #[.int .i64 more] 3)) 0 (.slice (some ⟨w4.heap.size, 0, none⟩) 1 1) [more] := own_lit w4 0 _ 1 [more] hsz1 rfl (Nat.zero_le _) (by simp)
          have ownl := OwnA.alloc own4 (.cells #[.int .i64 more] 3)
          have ne1 : (Value.slice a4 (L.length - k) c4).ownBlock ≠ some (w4.heap.size) := fun e => by
            have h1 := (OwnA.lt own4 _ e).2
            omega
          refine hK.out _ _ trivial (fun _ => ?_)
          clear hK K
          try simp only [Act.put, List.setIfInBounds_toArray, List.set_cons_zero, List.set_cons_succ]
          refine wpAnyG_ready [8] (by kernel_rfl) (by simp) ?_
          refine AllReadyG.cons 8 (by rfl) (fun K hK => ?_) ?_
          · simp only [List.getElem_toArray, List.getElem_cons_succ, List.getElem_cons_zero]
            refine if_wanted (by rfl) (wp_appA (w := (w4.alloc (.cells #[.int .i64 more] 3))) _ _ (by rfl) wq.heap.size _ _ ([] ++ L.drop k) (L.take k) (by rfl) (by rfl) ownl (ArcsI.take (unhide HLq _ hbl) hkL) (L.length) (by rw [List.nil_append, hlen1, hlen2]; omega) (by omega) hbl.size ?_)
            intro a8 c8 w8 own8 hg8 ho8
            have hb8 : Below wq.heap.size wq w8 := Below.grown hbl hg8 hbl.size (fun g hg => (OwnA.lt ownl g hg).1)
            have ne8 : (Value.slice a8 (L.length) c8).ownBlock ≠ some (w4.heap.size) := fun e => by
              rcases ho8 with h | h
              · exact ne1 (h.symm.trans e)
              · have h1 := (World.ownsRow.lt lit0 (w4.heap.size) rfl).2
                rw [h] at e
                injection e with e
                omega
            have lit8 := World.ownsRow.kept lit0 hg8 (.inr fun e => ne1 e.symm)
            refine hK.out _ _ trivial (fun _ => ?_)
            clear hK K
            try simp only [Act.put, List.setIfInBounds_toArray, List.set_cons_zero, List.set_cons_succ]
            refine wpAnyG_ready [12] (by kernel_rfl) (by simp) ?_
            refine AllReadyG.cons 12 (by rfl) (fun K hK => ?_) ?_
            · simp only [List.getElem_toArray, List.getElem_cons_succ, List.getElem_cons_zero]
              go_simp
              go_at_call 11
              refine (arcs_any N [more] 0 _ w8 (OwnI.ints lit8) hN1 (by omega) (by omega) (by omega)).mono ?_
              rintro e wc ⟨rvA, rfl, hoA, hlc⟩
              have hbc := Below.trans hb8 (hlc.mono hb8.size)
              have ownc := OwnA.below own8 hlc
              refine hK.out _ _ trivial (fun _ => ?_)
              clear hK K
              try simp only [Act.put, List.setIfInBounds_toArray, List.set_cons_zero, List.set_cons_succ]
              refine wpAnyG_ready [13] (by kernel_rfl) (by simp) ?_
              refine AllReadyG.cons 13 (by rfl) (fun K hK => ?_) ?_
              · simp only [List.getElem_toArray, List.getElem_cons_succ, List.getElem_cons_zero]
                refine if_wanted (by rfl) (wp_appA (w := wc) _ _ (by rfl) wq.heap.size _ _ ([] ++ L.drop k ++ L.take k) (Sp.arcsOf N [more] 0 50) (by rfl) (by rfl) ownc (hoA.arcs) (L.length + 1) (by rw [List.nil_append, List.length_append, hlen1, hlen2, hlen3]; omega) (by omega) hbc.size ?_)
                intro a13 c13 w13 own13 hg13 ho13
                have hb13 : Below wq.heap.size wq w13 := Below.grown hbc hg13 hbc.size (fun g hg => (OwnA.lt ownc g hg).1)
                refine hK.out _ _ trivial (fun _ => ?_)
                clear hK K
                try simp only [Act.put, List.setIfInBounds_toArray, List.set_cons_zero, List.set_cons_succ]
                refine wpAnyG_take (v := ?_) 14 (by rfl) (by kernel_rfl) (by kernel_rfl) (by kernel_rfl) (by kernel_rfl) (fun _ _ _ h => h) (Or.inl ⟨by rfl, ?_⟩) (by assumption) ?_
                rotate_left
                · (intro w' hSw; (try dsimp only at hSw); (try simp only [List.getElem_toArray, List.getElem_cons_succ, List.getElem_cons_zero]); go_simp; try (with_reducible rfl))
                simp only [Act.put, List.getElem_toArray, List.getElem_cons_succ, List.getElem_cons_zero, List.setIfInBounds_toArray, List.set_cons_zero, List.set_cons_succ]
                refine wpAnyG_done (by kernel_rfl) ?_ _
                refine NoPanic.normal ?_
                have hfin := hq3.trans (hb13.mono hq3.size)
                have hown := OwnA.base own13 hq3.size
                go_wp2
                go_meet
                exact ⟨_, _, _, rfl, rfl, hide ⟨hfin, by rw [List.nil_append] at hown; exact hown⟩⟩
              exact AllReadyG.nil
            exact AllReadyG.nil
          exact AllReadyG.nil
        exact AllReadyG.nil
      refine AllReadyG.cons 11 (by rfl) (fun K hK => ?_) ?_
      · simp only [List.getElem_toArray, List.getElem_cons_succ, List.getElem_cons_zero]
        go_simp
        have hbl := Below.alloc hba hba.size (.cells #[.int .i64 more] 3)
        have hsz1 : (wq.alloc (.cells #[] 30)).heap.size = wq.heap.size + 1 := by simp
        have lit0 : OwnI ((wq.alloc (.cells #[] 30)).alloc (.cells #[.int .i64 more] 3)) 0 (.slice (some ⟨wq.heap.size + 1, 0, none⟩) 1 1) [more] := own_lit (wq.alloc (.cells #[] 30)) 0 _ 1 [more] hsz1 rfl (Nat.zero_le _) (by simp)
        have ownl := OwnA.alloc own0 (.cells #[.int .i64 more] 3)
        have ne1 : (Value.slice (some ⟨wq.heap.size, 0, none⟩) 0 0).ownBlock ≠ some (wq.heap.size + 1) := fun e => by
          have h1 := (OwnA.lt own0 _ e).2
          omega
        refine hK.out _ _ trivial (fun _ => ?_)
        clear hK K
        try simp only [Act.put, List.setIfInBounds_toArray, List.set_cons_zero, List.set_cons_succ]
        refine wpAnyG_ready [4] (by kernel_rfl) (by simp) ?_
        refine AllReadyG.cons 4 (by rfl) (fun K hK => ?_) ?_
        · simp only [List.getElem_toArray, List.getElem_cons_succ, List.getElem_cons_zero]
          refine if_wanted (by rfl) (wp_appA (w := ((wq.alloc (.cells #[] 30)).alloc (.cells #[.int .i64 more] 3))) _ _ (by rfl) wq.heap.size _ _ ([]) (L.drop k) (by rfl) (by rfl) ownl (unhide HDr _ (unhide HLq _ hbl)) (L.length - k) (by rw [hlen1]; exact Nat.zero_add _) (by omega) hbl.size ?_)
          intro a4 c4 w4 own4 hg4 ho4
          have hb4 : Below wq.heap.size wq w4 := Below.grown hbl hg4 hbl.size (fun g hg => (OwnA.lt ownl g hg).1)
          have ne4 : (Value.slice a4 (L.length - k) c4).ownBlock ≠ some (wq.heap.size + 1) := fun e => by
            rcases ho4 with h | h
            · exact ne1 (h.symm.trans e)
            · have h1 := (World.ownsRow.lt lit0 (wq.heap.size + 1) rfl).2
              rw [h] at e
              injection e with e
              omega
          have lit4 := World.ownsRow.kept lit0 hg4 (.inr fun e => ne1 e.symm)
          refine hK.out _ _ trivial (fun _ => ?_)
          clear hK K
          try simp only [Act.put, List.setIfInBounds_toArray, List.set_cons_zero, List.set_cons_succ]
          refine wpAnyG_ready [8] (by kernel_rfl) (by simp) ?_
          refine AllReadyG.cons 8 (by rfl) (fun K hK => ?_) ?_
          · simp only [List.getElem_toArray, List.getElem_cons_succ, List.getElem_cons_zero]
            refine if_wanted (by rfl) (wp_appA (w := w4) _ _ (by rfl) wq.heap.size _ _ ([] ++ L.drop k) (L.take k) (by rfl) (by rfl) own4 (ArcsI.take (unhide HLq _ hb4) hkL) (L.length) (by rw [List.nil_append, hlen1, hlen2]; omega) (by omega) hb4.size ?_)
            intro a8 c8 w8 own8 hg8 ho8
            have hb8 : Below wq.heap.size wq w8 := Below.grown hb4 hg8 hb4.size (fun g hg => (OwnA.lt own4 g hg).1)
            have ne8 : (Value.slice a8 (L.length) c8).ownBlock ≠ some (wq.heap.size + 1) := fun e => by
              rcases ho8 with h | h
              · exact ne4 (h.symm.trans e)
              · have h1 := (World.ownsRow.lt lit4 (wq.heap.size + 1) rfl).2
                rw [h] at e
                injection e with e
                omega
            have lit8 := World.ownsRow.kept lit4 hg8 (.inr fun e => ne4 e.symm)
            refine hK.out _ _ trivial (fun _ => ?_)
            clear hK K
            try simp only [Act.put, List.setIfInBounds_toArray, List.set_cons_zero, List.set_cons_succ]
            refine wpAnyG_ready [12] (by kernel_rfl) (by simp) ?_
            refine AllReadyG.cons 12 (by rfl) (fun K hK => ?_) ?_
            · simp only [List.getElem_toArray, List.getElem_cons_succ, List.getElem_cons_zero]
              go_simp
              go_at_call 11
              refine (arcs_any N [more] 0 _ w8 (OwnI.ints lit8) hN1 (by omega) (by omega) (by omega)).mono ?_
              rintro e wc ⟨rvA, rfl, hoA, hlc⟩
              have hbc := Below.trans hb8 (hlc.mono hb8.size)
              have ownc := OwnA.below own8 hlc
              refine hK.out _ _ trivial (fun _ => ?_)
              clear hK K
              try simp only [Act.put, List.setIfInBounds_toArray, List.set_cons_zero, List.set_cons_succ]
              refine wpAnyG_ready [13] (by kernel_rfl) (by simp) ?_
              refine AllReadyG.cons 13 (by rfl) (fun K hK => ?_) ?_
              · simp only [List.getElem_toArray, List.getElem_cons_succ, List.getElem_cons_zero]
                refine if_wanted (by rfl) (wp_appA (w := wc) _ _ (by rfl) wq.heap.size _ _ ([] ++ L.drop k ++ L.take k) (Sp.arcsOf N [more] 0 50) (by rfl) (by rfl) ownc (hoA.arcs) (L.length + 1) (by rw [List.nil_append, List.length_append, hlen1, hlen2, hlen3]; omega) (by omega) hbc.size ?_)
                intro a13 c13 w13 own13 hg13 ho13
                have hb13 : Below wq.heap.size wq w13 := Below.grown hbc hg13 hbc.size (fun g hg => (OwnA.lt ownc g hg).1)
                refine hK.out _ _ trivial (fun _ => ?_)
                clear hK K
                try simp only [Act.put, List.setIfInBounds_toArray, List.set_cons_zero, List.set_cons_succ]
                refine wpAnyG_take (v := ?_) 14 (by rfl) (by kernel_rfl) (by kernel_rfl) (by kernel_rfl) (by kernel_rfl) (fun _ _ _ h => h) (Or.inl ⟨by rfl, ?_⟩) (by assumption) ?_
                rotate_left
                · (intro w' hSw; (try dsimp only at hSw); (try simp only [List.getElem_toArray, List.getElem_cons_succ, List.getElem_cons_zero]); go_simp; try (with_reducible rfl))
                simp only [Act.put, List.getElem_toArray, List.getElem_cons_succ, List.getElem_cons_zero, List.setIfInBounds_toArray, List.set_cons_zero, List.set_cons_succ]
                refine wpAnyG_done (by kernel_rfl) ?_ _
                refine NoPanic.normal ?_
                have hfin := hq3.trans (hb13.mono hq3.size)
                have hown := OwnA.base own13 hq3.size
                go_wp2
                go_meet
                exact ⟨_, _, _, rfl, rfl, hide ⟨hfin, by rw [List.nil_append] at hown; exact hown⟩⟩
              exact AllReadyG.nil
            exact AllReadyG.nil
          exact AllReadyG.nil
        exact AllReadyG.nil
      exact AllReadyG.nil
    refine AllReadyG.cons 11 (by rfl) (fun K hK => ?_) ?_
    · simp only [List.getElem_toArray, List.getElem_cons_succ, List.getElem_cons_zero]
      go_simp
      have hbl := Below.alloc hbq hbq.size (.cells #[.int .i64 more] 3)
      have hsz1 : wq.heap.size = wq.heap.size := by simp
      have lit0 : OwnI (wq.alloc (.cells #[.int .i64 more] 3)) 0 (.slice (some ⟨wq.heap.size, 0, none⟩) 1 1) [more] := own_lit wq 0 _ 1 [more] hsz1 rfl (Nat.zero_le _) (by simp)
      refine hK.out _ _ trivial (fun _ => ?_)
      clear hK K
      try simp only [Act.put, List.setIfInBounds_toArray, List.set_cons_zero, List.set_cons_succ]
      refine wpAnyG_ready [0] (by kernel_rfl) (by simp) ?_
      refine AllReadyG.cons 0 (by rfl) (fun K hK => ?_) ?_
      · simp only [List.getElem_toArray, List.getElem_cons_zero]
        go_simp
        have hba := Below.alloc hbl hbl.size (.cells #[] 30)
        have hsz0 : (wq.alloc (.cells #[.int .i64 more] 3)).heap.size = wq.heap.size + 1 := by simp
        have own0 : OwnA ((wq.alloc (.cells #[.int .i64 more] 3)).alloc (.cells #[] 30)) wq.heap.size (.slice (some ⟨wq.heap.size + 1, 0, none⟩) 0 0) [] := by
          rw [← hsz0]
          exact World.ownsRow_made (wq.alloc (.cells #[.int .i64 more] 3)) #[] 0 hbl.size (by simp [maxLen]) rfl
        have ne0 : (Value.slice (some ⟨wq.heap.size + 1, 0, none⟩) 0 0).ownBlock ≠ some (wq.heap.size) := fun e => by simp [Value.ownBlock] at e
        have litx := World.ownsRow.alloc lit0 (.cells #[] 30)
        refine hK.out _ _ trivial (fun _ => ?_)
        clear hK K
        try simp only [Act.put, List.setIfInBounds_toArray, List.set_cons_zero, List.set_cons_succ]
        refine wpAnyG_ready [4] (by kernel_rfl) (by simp) ?_
        refine AllReadyG.cons 4 (by rfl) (fun K hK => ?_) ?_
        · simp only [List.getElem_toArray, List.getElem_cons_succ, List.getElem_cons_zero]
          refine if_wanted (by rfl) (wp_appA (w := ((wq.alloc (.cells #[.int .i64 more] 3)).alloc (.cells #[] 30))) _ _ (by rfl) wq.heap.size _ _ ([]) (L.drop k) (by rfl) (by rfl) own0 (unhide HDr _ (unhide HLq _ hba)) (L.length - k) (by rw [hlen1]; exact Nat.zero_add _) (by omega) hba.size ?_)
          intro a4 c4 w4 own4 hg4 ho4
          have hb4 : Below wq.heap.size wq w4 := Below.grown hba hg4 hba.size (fun g hg => (OwnA.lt own0 g hg).1)
          have ne4 : (Value.slice a4 (L.length - k) c4).ownBlock ≠ some (wq.heap.size) := fun e => by
            rcases ho4 with h | h
            · exact ne0 (h.symm.trans e)
            · have h1 := (World.ownsRow.lt litx (wq.heap.size) rfl).2
              rw [h] at e
              injection e with e
              omega
          have lit4 := World.ownsRow.kept litx hg4 (.inr fun e => ne0 e.symm)
          refine hK.out _ _ trivial (fun _ => ?_)
          clear hK K
          try simp only [Act.put, List.setIfInBounds_toArray, List.set_cons_zero, List.set_cons_succ]
          refine wpAnyG_ready [8] (by kernel_rfl) (by simp) ?_
          refine AllReadyG.cons 8 (by rfl) (fun K hK => ?_) ?_
          · simp only [List.getElem_toArray, List.getElem_cons_succ, List.getElem_cons_zero]
            refine if_wanted (by rfl) (wp_appA (w := w4) _ _ (by rfl) wq.heap.size _ _ ([] ++ L.drop k) (L.take k) (by rfl) (by rfl) own4 (ArcsI.take (unhide HLq _ hb4) hkL) (L.length) (by rw [List.nil_append, hlen1, hlen2]; omega) (by omega) hb4.size ?_)
            intro a8 c8 w8 own8 hg8 ho8
            have hb8 : Below wq.heap.size wq w8 := Below.grown hb4 hg8 hb4.size (fun g hg => (OwnA.lt own4 g hg).1)
            have ne8 : (Value.slice a8 (L.length) c8).ownBlock ≠ some (wq.heap.size) := fun e => by
              rcases ho8 with h | h
              · exact ne4 (h.symm.trans e)
              · have h1 := (World.ownsRow.lt lit4 (wq.heap.size) rfl).2
                rw [h] at e
                injection e with e
                omega
            have lit8 := World.ownsRow.kept lit4 hg8 (.inr fun e => ne4 e.symm)
            refine hK.out _ _ trivial (fun _ => ?_)
            clear hK K
            try simp only [Act.put, List.setIfInBounds_toArray, List.set_cons_zero, List.set_cons_succ]
            refine wpAnyG_ready [12] (by kernel_rfl) (by simp) ?_
            refine AllReadyG.cons 12 (by rfl) (fun K hK => ?_) ?_
            · simp only [List.getElem_toArray, List.getElem_cons_succ, List.getElem_cons_zero]
              go_simp
              go_at_call 11
              refine (arcs_any N [more] 0 _ w8 (OwnI.ints lit8) hN1 (by omega) (by omega) (by omega)).mono ?_
              rintro e wc ⟨rvA, rfl, hoA, hlc⟩
              have hbc := Below.trans hb8 (hlc.mono hb8.size)
              have ownc := OwnA.below own8 hlc
              refine hK.out _ _ trivial (fun _ => ?_)
              clear hK K
              try simp only [Act.put, List.setIfInBounds_toArray, List.set_cons_zero, List.set_cons_succ]
              refine wpAnyG_ready [13] (by kernel_rfl) (by simp) ?_
              refine AllReadyG.cons 13 (by rfl) (fun K hK => ?_) ?_
              · simp only [List.getElem_toArray, List.getElem_cons_succ, List.getElem_cons_zero]
                refine if_wanted (by rfl) (wp_appA (w := wc) _ _ (by rfl) wq.heap.size _ _ ([] ++ L.drop k ++ L.take k) (Sp.arcsOf N [more] 0 50) (by rfl) (by rfl) ownc (hoA.arcs) (L.length + 1) (by rw [List.nil_append, List.length_append, hlen1, hlen2, hlen3]; omega) (by omega) hbc.size ?_)
                intro a13 c13 w13 own13 hg13 ho13
                have hb13 : Below wq.heap.size wq w13 := Below.grown hbc hg13 hbc.size (fun g hg => (OwnA.lt ownc g hg).1)
                refine hK.out _ _ trivial (fun _ => ?_)
                clear hK K
                try simp only [Act.put, List.setIfInBounds_toArray, List.set_cons_zero, List.set_cons_succ]
                refine wpAnyG_take (v := ?_) 14 (by rfl) (by kernel_rfl) (by kernel_rfl) (by kernel_rfl) (by kernel_rfl) (fun _ _ _ h => h) (Or.inl ⟨by rfl, ?_⟩) (by assumption) ?_
                rotate_left
                · (intro w' hSw; (try dsimp only at hSw); (try simp only [List.getElem_toArray, List.getElem_cons_succ, List.getElem_cons_zero]); go_simp; try (with_reducible rfl))
                simp only [Act.put, List.getElem_toArray, List.getElem_cons_succ, List.getElem_cons_zero, List.setIfInBounds_toArray, List.set_cons_zero, List.set_cons_succ]
                refine wpAnyG_done (by kernel_rfl) ?_ _
                refine NoPanic.normal ?_
                have hfin := hq3.trans (hb13.mono hq3.size)
                have hown := OwnA.base own13 hq3.size
                go_wp2
                go_meet
                exact ⟨_, _, _, rfl, rfl, hide ⟨hfin, by rw [List.nil_append] at hown; exact hown⟩⟩
              exact AllReadyG.nil
            exact AllReadyG.nil
          exact AllReadyG.nil
        exact AllReadyG.nil
      exact AllReadyG.nil
    exact AllReadyG.nil
  case rest =>
    obtain ⟨wx, ma, mc, rfl, hwx, HBX⟩ := hcut
    subst hwx
    have hMa := (unhide HBX).2.arcs
    generalize hM : L.drop k ++ L.take k ++ Sp.arcsOf N [more] 0 50 = M at *
    have hmc : L.length + 1 ≤ mc := by
      obtain ⟨a, c, e, h1, -⟩ := hMa.form
      injection e with e1 e2 e3
      have := (unhide HMm).2.2.2.1
      omega
    have s3 := arcs_to ma (L.length + 1) mc L.length (by omega)
    have HM3 : Hid (∀ w', Below wx.heap.size wx w' → ArcsI w' (.slice la L.length lc) L ∧ ArcsI w' (.slice ma (L.length + 1) mc) M ∧ ArcsI w' (.slice ma L.length mc) (L.drop k ++ L.take k) ∧ Below w.heap.size w w') := hide fun w' hb => by
      have h0 := unhide HA3 w' ((unhide HBX).1.trans (hb.mono (unhide HBX).1.size))
      have h1 := hMa.below hb
      have h2 := h1.take (k := L.length) (by rw [(unhide HMm).2.2.2.1]; omega)
      rw [(unhide HMm).2.2.2.2] at h2
      exact ⟨h0.1, h1, h2, h0.2⟩
    have HS2 : Hid (Sp.Snd N (L.drop k ++ L.take k) ∧ ∀ a ∈ L.drop k ++ L.take k, 0 ≤ a.l) := hide ⟨⟨by simp only [List.length_append, List.length_drop, List.length_take]; omega, fun a ha => (unhide HSn).1.at_ a (((unhide HMm).2.2.1 a).2 ha)⟩, fun a ha => (unhide HSn).2 a (((unhide HMm).2.2.1 a).2 ha)⟩
    have HLM : Hid (∀ a ∈ L, a ∈ M) := hide fun a ha => by rw [← hM]; exact List.mem_append.2 (.inl (((unhide HMm).2.2.1 a).1 ha))
    clear HBX hMa hM HA3 s1 s2
    have HF1 := hide (fun w' hb => from_any N L x _ w' (unhide HM3 w' hb).1 (unhide HSn).1 (unhide HSn).2 hxN (by omega))
    have HF2 := hide (fun w' hb => from_any N M x _ w' (unhide HM3 w' hb).2.1 (unhide HMm).1 (unhide HMm).2.1 hxN (by omega))
    have HF3 := hide (fun w' hb => from_any N (L.drop k ++ L.take k) x _ w' (unhide HM3 w' hb).2.2.1 (unhide HS2).1 (unhide HS2).2 hxN (by omega))
    go_upto_region 8 with fail
    go_cut [16, 17, 18] (fun s16 s17 s18 w9 => ∃ wy G1 G2 G3, s16 = .slice (some ⟨G1, 0, none⟩) N N ∧ s17 = .slice (some ⟨G2, 0, none⟩) N N ∧ s18 = .slice (some ⟨G3, 0, none⟩) N N ∧ wy = w9 ∧ Hid (Below wx.heap.size wx wy ∧ ∃ D E F, RowAt wy G1 N D ∧ RowAt wy G2 N E ∧ RowAt wy G3 N F ∧ (∀ v, v < N → E v ≤ D v) ∧ (∀ v, v < N → F v = D v)))
    case first =>
      have hx0 : Below wx.heap.size wx wx.drew := (Below.refl _ _).drew
      refine wp_region_G (fun w' => True) (fun _ => false) (by kernel_rfl) trivial (fun hHeld => ?_)
      generalize wx.drew = wq at *
      have hbq := Below.refl wq.heap.size wq
      refine wpAnyG_take (v := ?_) 0 (by rfl) (by kernel_rfl) (by kernel_rfl) (by kernel_rfl) (by kernel_rfl) (fun _ _ _ h => h) (Or.inl ⟨by rfl, ?_⟩) (by assumption) ?_
      rotate_left
      · (intro w' hSw; (try dsimp only at hSw); (try simp only [List.getElem_toArray, List.getElem_cons_zero]); go_simp; try (with_reducible rfl))
      simp only [Act.put, List.getElem_toArray, List.getElem_cons_zero, List.setIfInBounds_toArray, List.set_cons_zero, List.set_cons_succ]
      refine wpAnyG_take (v := ?_) 1 (by rfl) (by kernel_rfl) (by kernel_rfl) (by kernel_rfl) (by kernel_rfl) (fun _ _ _ h => h) (Or.inl ⟨by rfl, ?_⟩) (by assumption) ?_
      rotate_left
      · (intro w' hSw; (try dsimp only at hSw); (try simp only [List.getElem_toArray, List.getElem_cons_succ, List.getElem_cons_zero]); go_simp; try (with_reducible rfl))
      simp only [Act.put, List.getElem_toArray, List.getElem_cons_succ, List.getElem_cons_zero, List.setIfInBounds_toArray, List.set_cons_zero, List.set_cons_succ]
      refine wpAnyG_take (v := ?_) 2 (by rfl) (by kernel_rfl) (by kernel_rfl) (by kernel_rfl) (by kernel_rfl) (fun _ _ _ h => h) (Or.inl ⟨by rfl, ?_⟩) (by assumption) ?_
      rotate_left
      · (intro w' hSw; (try dsimp only at hSw); (try simp only [List.getElem_toArray, List.getElem_cons_succ, List.getElem_cons_zero]); go_simp; try (with_reducible rfl))
      simp only [Act.put, List.getElem_toArray, List.getElem_cons_succ, List.getElem_cons_zero, List.setIfInBounds_toArray, List.set_cons_zero, List.set_cons_succ]
      refine wpAnyG_take (v := ?_) 4 (by rfl) (by kernel_rfl) (by kernel_rfl) (by kernel_rfl) (by kernel_rfl) (fun _ _ _ h => h) (Or.inl ⟨by rfl, ?_⟩) (by assumption) ?_
      rotate_left
      · (intro w' hSw; (try dsimp only at hSw); (try simp only [List.getElem_toArray, List.getElem_cons_succ, List.getElem_cons_zero]); go_simp; try (with_reducible rfl))
      simp only [Act.put, List.getElem_toArray, List.getElem_cons_succ, List.getElem_cons_zero, List.setIfInBounds_toArray, List.set_cons_zero, List.set_cons_succ]
      refine wpAnyG_take (v := ?_) 5 (by rfl) (by kernel_rfl) (by kernel_rfl) (by kernel_rfl) (by kernel_rfl) (fun _ _ _ h => h) (Or.inl ⟨by rfl, ?_⟩) (by assumption) ?_
      rotate_left
      · (intro w' hSw; (try dsimp only at hSw); (try simp only [List.getElem_toArray, List.getElem_cons_succ, List.getElem_cons_zero]); go_simp; try (with_reducible rfl))
      simp only [Act.put, List.getElem_toArray, List.getElem_cons_succ, List.getElem_cons_zero, List.setIfInBounds_toArray, List.set_cons_zero, List.set_cons_succ]
      refine wpAnyG_take (v := ?_) 6 (by rfl) (by kernel_rfl) (by kernel_rfl) (by kernel_rfl) (by kernel_rfl) (fun _ _ _ h => h) (Or.inl ⟨by rfl, ?_⟩) (by assumption) ?_
      rotate_left
      · (intro w' hSw; (try dsimp only at hSw); (try simp only [List.getElem_toArray, List.getElem_cons_succ, List.getElem_cons_zero]); go_simp; try (with_reducible rfl))
      simp only [Act.put, List.getElem_toArray, List.getElem_cons_succ, List.getElem_cons_zero, List.setIfInBounds_toArray, List.set_cons_zero, List.set_cons_succ]
      refine wpAnyG_take (v := ?_) 8 (by rfl) (by kernel_rfl) (by kernel_rfl) (by kernel_rfl) (by kernel_rfl) (fun _ _ _ h => h) (Or.inl ⟨by rfl, ?_⟩) (by assumption) ?_
      rotate_left
      · (intro w' hSw; (try dsimp only at hSw); (try simp only [List.getElem_toArray, List.getElem_cons_succ, List.getElem_cons_zero]); go_simp; try (with_reducible rfl))
      simp only [Act.put, List.getElem_toArray, List.getElem_cons_succ, List.getElem_cons_zero, List.setIfInBounds_toArray, List.set_cons_zero, List.set_cons_succ]
      refine wpAnyG_take (v := ?_) 9 (by rfl) (by kernel_rfl) (by kernel_rfl) (by kernel_rfl) (by kernel_rfl) (fun _ _ _ h => h) (Or.inl ⟨by rfl, ?_⟩) (by assumption) ?_
      rotate_left
      · (intro w' hSw; (try dsimp only at hSw); (try simp only [List.getElem_toArray, List.getElem_cons_succ, List.getElem_cons_zero]); go_simp; try (with_reducible rfl))
      simp only [Act.put, List.getElem_toArray, List.getElem_cons_succ, List.getElem_cons_zero, List.setIfInBounds_toArray, List.set_cons_zero, List.set_cons_succ]
      refine wpAnyG_take (v := ?_) 10 (by rfl) (by kernel_rfl) (by kernel_rfl) (by kernel_rfl) (by kernel_rfl) (fun _ _ _ h => h) (Or.inl ⟨by rfl, ?_⟩) (by assumption) ?_
      rotate_left
      · (intro w' hSw; (try dsimp only at hSw); (try simp only [List.getElem_toArray, List.getElem_cons_succ, List.getElem_cons_zero]); go_simp; try (with_reducible rfl))
      simp only [Act.put, List.getElem_toArray, List.getElem_cons_succ, List.getElem_cons_zero, List.setIfInBounds_toArray, List.set_cons_zero, List.set_cons_succ]
      refine wpAnyG_take (v := ?_) 11 (by rfl) (by kernel_rfl) (by kernel_rfl) (by kernel_rfl) (by kernel_rfl) (fun _ _ _ h => h) (Or.inl ⟨by rfl, ?_⟩) (by assumption) ?_
      rotate_left
      · (intro w' hSw; (try dsimp only at hSw); (try simp only [List.getElem_toArray, List.getElem_cons_succ, List.getElem_cons_zero]); go_simp; try (with_reducible rfl))
      simp only [Act.put, List.getElem_toArray, List.getElem_cons_succ, List.getElem_cons_zero, List.setIfInBounds_toArray, List.set_cons_zero, List.set_cons_succ]
      refine wpAnyG_take (v := ?_) 12 (by rfl) (by kernel_rfl) (by kernel_rfl) (by kernel_rfl) (by kernel_rfl) (fun _ _ _ h => h) (Or.inl ⟨by rfl, ?_⟩) (by assumption) ?_
      rotate_left
      · (intro w' hSw; (try dsimp only at hSw); (try simp only [List.getElem_toArray, List.getElem_cons_succ, List.getElem_cons_zero]); go_simp; try (with_reducible rfl))
      simp only [Act.put, List.getElem_toArray, List.getElem_cons_succ, List.getElem_cons_zero, List.setIfInBounds_toArray, List.set_cons_zero, List.set_cons_succ]
      refine wpAnyG_take (v := ?_) 13 (by rfl) (by kernel_rfl) (by kernel_rfl) (by kernel_rfl) (by kernel_rfl) (fun _ _ _ h => h) (Or.inl ⟨by rfl, ?_⟩) (by assumption) ?_
      rotate_left
      · (intro w' hSw; (try dsimp only at hSw); (try simp only [List.getElem_toArray, List.getElem_cons_succ, List.getElem_cons_zero]); go_simp; try (with_reducible rfl))
      simp only [Act.put, List.getElem_toArray, List.getElem_cons_succ, List.getElem_cons_zero, List.setIfInBounds_toArray, List.set_cons_zero, List.set_cons_succ]
      refine wpAnyG_ready [3] (by kernel_rfl) (by simp) ?_
      refine AllReadyG.cons 3 (by rfl) (fun K hK => ?_) ?_
      · simp only [List.getElem_toArray, List.getElem_cons_succ, List.getElem_cons_zero]
        go_simp
        go_at_call 12
        refine (unhide HF1 _ (hx0.trans (hbq.mono hx0.size))).mono ?_
        rintro e wf1 ⟨G1, D1, rfl, -, hr1, hl1, hD1, hDb1⟩
        have hbf1 := Below.trans hbq (hl1.mono hbq.size)
        refine hK.out _ _ trivial (fun _ => ?_)
        clear hK K
        try simp only [Act.put, List.setIfInBounds_toArray, List.set_cons_zero, List.set_cons_succ]
        refine wpAnyG_ready [7] (by kernel_rfl) (by simp) ?_
        refine AllReadyG.cons 7 (by rfl) (fun K hK => ?_) ?_
        · simp only [List.getElem_toArray, List.getElem_cons_succ, List.getElem_cons_zero]
          go_simp
          go_at_call 12
          refine (unhide HF2 _ (hx0.trans (hbf1.mono hx0.size))).mono ?_
          rintro e wf2 ⟨G2, D2, rfl, -, hr2, hl2, hD2, hDb2⟩
          have hbf2 := Below.trans hbf1 (hl2.mono hbf1.size)
          replace hr1 := RowAt.below hr1 hl2
          refine hK.out _ _ trivial (fun _ => ?_)
          clear hK K
          try simp only [Act.put, List.setIfInBounds_toArray, List.set_cons_zero, List.set_cons_succ]
          refine wpAnyG_ready [14] (by kernel_rfl) (by simp) ?_
          refine AllReadyG.cons 14 (by rfl) (fun K hK => ?_) ?_
          · simp only [List.getElem_toArray, List.getElem_cons_succ, List.getElem_cons_zero]
            go_simp
            go_at_call 12
            refine (unhide HF3 _ (hx0.trans (hbf2.mono hx0.size))).mono ?_
            rintro e wf3 ⟨G3, D3, rfl, -, hr3, hl3, hD3, hDb3⟩
            have hbf3 := Below.trans hbf2 (hl3.mono hbf2.size)
            replace hr1 := RowAt.below hr1 hl3
            replace hr2 := RowAt.below hr2 hl3
            refine hK.out _ _ trivial (fun _ => ?_)
            clear hK K
            try simp only [Act.put, List.setIfInBounds_toArray, List.set_cons_zero, List.set_cons_succ]
            refine wpAnyG_take (v := ?_) 15 (by rfl) (by kernel_rfl) (by kernel_rfl) (by kernel_rfl) (by kernel_rfl) (fun _ _ _ h => h) (Or.inl ⟨by rfl, ?_⟩) (by assumption) ?_
            rotate_left
            · (intro w' hSw; (try dsimp only at hSw); (try simp only [List.getElem_toArray, List.getElem_cons_succ, List.getElem_cons_zero]); go_simp; try (with_reducible rfl))
            simp only [Act.put, List.getElem_toArray, List.getElem_cons_succ, List.getElem_cons_zero, List.setIfInBounds_toArray, List.set_cons_zero, List.set_cons_succ]
            refine wpAnyG_take (v := ?_) 16 (by rfl) (by kernel_rfl) (by kernel_rfl) (by kernel_rfl) (by kernel_rfl) (fun _ _ _ h => h) (Or.inl ⟨by rfl, ?_⟩) (by assumption) ?_
            rotate_left
            · (intro w' hSw; (try dsimp only at hSw); (try simp only [List.getElem_toArray, List.getElem_cons_succ, List.getElem_cons_zero]); go_simp; try (with_reducible rfl))
            simp only [Act.put, List.getElem_toArray, List.getElem_cons_succ, List.getElem_cons_zero, List.setIfInBounds_toArray, List.set_cons_zero, List.set_cons_succ]
            refine wpAnyG_take (v := ?_) 17 (by rfl) (by kernel_rfl) (by kernel_rfl) (by kernel_rfl) (by kernel_rfl) (fun _ _ _ h => h) (Or.inl ⟨by rfl, ?_⟩) (by assumption) ?_
            rotate_left
            · (intro w' hSw; (try dsimp only at hSw); (try simp only [List.getElem_toArray, List.getElem_cons_succ, List.getElem_cons_zero]); go_simp; try (with_reducible rfl))
            simp only [Act.put, List.getElem_toArray, List.getElem_cons_succ, List.getElem_cons_zero, List.setIfInBounds_toArray, List.set_cons_zero, List.set_cons_succ]
            refine wpAnyG_done (by kernel_rfl) ?_ _
            refine NoPanic.normal ?_
            have hfin := hx0.trans (hbf3.mono hx0.size)
            have hD3' := Sp.Short.congr hD3 (fun a => ((unhide HMm).2.2.1 a).symm)
            have hQ := hide (And.intro hfin (And.intro hr1 (And.intro hr2 (And.intro hr3 (And.intro (fun v (hv : v < N) => Sp.Short.more hD1 hD2 (unhide HLM) hDb2 hv) (fun v (hv : v < N) => hD3'.uniq hD1 (by decide) hv))))))
            clear hfin hr1 hr2 hr3 hD1 hD2 hD3 hD3' hDb1 hDb2 hDb3
            go_wp2
            go_meet
            exact ⟨_, _, _, _, rfl, rfl, rfl, rfl, hide ⟨(unhide hQ).1, D1, D2, D3, (unhide hQ).2.1, (unhide hQ).2.2.1, (unhide hQ).2.2.2.1, (unhide hQ).2.2.2.2.1, (unhide hQ).2.2.2.2.2⟩⟩
          exact AllReadyG.nil
        exact AllReadyG.nil
      exact AllReadyG.nil
    case rest =>
      obtain ⟨wy, G1, G2, G3, rfl, rfl, rfl, hwy, HBY⟩ := hcut
      subst hwy
      obtain ⟨hby, D, E, F, r1, r2, r3, hle, heq⟩ := unhide HBY
      have HI0 : Hid (Below wx.heap.size wx wy ∧ RowAt wy G1 N D ∧ RowAt wy G2 N E ∧ RowAt wy G3 N F) := hide ⟨hby, r1, r2, r3⟩
      have HLe := hide (And.intro hle heq)
      have hbN : ((N : Int) != (N : Int)) = false := by simp
      clear hby r1 r2 r3 hle heq HBY
      go_wp2
      go_loopg [19] N (fun g s19 wr => ∃ i : Nat, i + g = N ∧ s19 = .int .i64 (i : Int) ∧ Hid (Below wx.heap.size wx wr ∧ RowAt wr G1 N D ∧ RowAt wr G2 N E ∧ RowAt wr G3 N F))
      case atStart => exact ⟨0, by omega, rfl, HI0⟩
      case round =>
        clear HI0
        obtain ⟨i, hig, rfl, HI⟩ := hrel
        by_cases hi : i < N
        · obtain ⟨g2, rfl⟩ : ∃ g2, gk = g2 + 1 := ⟨gk - 1, by omega⟩
          have hiI : (i : Int) < (N : Int) := by omega
          have hle := (unhide HLe).1 i hi
          have heq := (unhide HLe).2 i hi
          have HRD0 := fun w' (hb' : Below wr.heap.size wr w') => And.intro (((unhide HI).2.1.below hb').cell hi) (And.intro (((unhide HI).2.2.1.below hb').cell hi) (((unhide HI).2.2.2.below hb').cell hi))
          rw [heq] at HRD0
          have HFw : Hid (∀ w', Below wr.heap.size wr w' → Below wx.heap.size wx w' ∧ RowAt w' G1 N D ∧ RowAt w' G2 N E ∧ RowAt w' G3 N F) := hide fun w' hb' => ⟨(unhide HI).1.trans (hb'.mono (unhide HI).1.size), (unhide HI).2.1.below hb', (unhide HI).2.2.1.below hb', (unhide HI).2.2.2.below hb'⟩
          generalize D i = di at *
          generalize E i = ei at *
          have HRD := hide HRD0
          have hn1 : ¬ di < ei := Int.not_lt.2 hle
          have hn2 : decide (di < ei) = false := decide_eq_false hn1
          have hn3 : (di != di) = false := by simp
          clear HRD0 HI heq hle
          go_upto_region 14 with fail
          have hbq := (Below.refl wr.heap.size wr).drew
          refine wp_region_G (fun w' => w'.cell? ⟨G1, i, none⟩ = some (.int .i64 di) ∧ w'.cell? ⟨G2, i, none⟩ = some (.int .i64 ei) ∧ w'.cell? ⟨G3, i, none⟩ = some (.int .i64 di)) (fun _ => false) (by kernel_rfl) (unhide HRD _ hbq) (fun hHeld => ?_)
          generalize wr.drew = wq at *
          refine wpAnyG_take (v := ?_) 0 (by rfl) (by kernel_rfl) (by kernel_rfl) (by kernel_rfl) (by kernel_rfl) (fun _ _ _ h => h) (Or.inl ⟨by rfl, ?_⟩) (by assumption) ?_
          rotate_left
          · (intro w' hSw; (try dsimp only at hSw); (try simp only [List.getElem_toArray, List.getElem_cons_zero]); go_simp; try (with_reducible rfl))
          simp only [Act.put, List.getElem_toArray, List.getElem_cons_zero, List.setIfInBounds_toArray, List.set_cons_zero, List.set_cons_succ]
          refine wpAnyG_take (v := ?_) 1 (by rfl) (by kernel_rfl) (by kernel_rfl) (by kernel_rfl) (by kernel_rfl) (fun _ _ _ h => h) (Or.inl ⟨by rfl, ?_⟩) (by assumption) ?_
          rotate_left
          · (intro w' hSw; (try dsimp only at hSw); (try simp only [List.getElem_toArray, List.getElem_cons_succ, List.getElem_cons_zero]); go_simp; try (with_reducible rfl))
          simp only [Act.put, List.getElem_toArray, List.getElem_cons_succ, List.getElem_cons_zero, List.setIfInBounds_toArray, List.set_cons_zero, List.set_cons_succ]
          refine wpAnyG_take (v := ?_) 2 (by rfl) (by kernel_rfl) (by kernel_rfl) (by kernel_rfl) (by kernel_rfl) (fun _ _ _ h => h) (Or.inl ⟨by rfl, ?_⟩) (by assumption) ?_
          rotate_left
          · (intro w' hSw; (try dsimp only at hSw); (try simp only [List.getElem_toArray, List.getElem_cons_succ, List.getElem_cons_zero]); go_simp; try (with_reducible rfl))
          simp only [Act.put, List.getElem_toArray, List.getElem_cons_succ, List.getElem_cons_zero, List.setIfInBounds_toArray, List.set_cons_zero, List.set_cons_succ]
          refine wpAnyG_take (v := ?_) 3 (by rfl) (by kernel_rfl) (by kernel_rfl) (by kernel_rfl) (by kernel_rfl) (fun _ _ _ h => h) (Or.inl ⟨by rfl, ?_⟩) (by assumption) ?_
          rotate_left
          · (intro w' hSw; (try dsimp only at hSw); (try simp only [List.getElem_toArray, List.getElem_cons_succ, List.getElem_cons_zero]); go_simp; try (with_reducible rfl))
          simp only [Act.put, List.getElem_toArray, List.getElem_cons_succ, List.getElem_cons_zero, List.setIfInBounds_toArray, List.set_cons_zero, List.set_cons_succ]
          refine wpAnyG_take (v := ?_) 4 (by rfl) (by kernel_rfl) (by kernel_rfl) (by kernel_rfl) (by kernel_rfl) (fun _ _ _ h => h) (Or.inl ⟨by rfl, ?_⟩) (by assumption) ?_
          rotate_left
          · (intro w' hSw; (try dsimp only at hSw); (try simp only [List.getElem_toArray, List.getElem_cons_succ, List.getElem_cons_zero]); go_simp; try (with_reducible rfl))
          simp only [Act.put, List.getElem_toArray, List.getElem_cons_succ, List.getElem_cons_zero, List.setIfInBounds_toArray, List.set_cons_zero, List.set_cons_succ]
          refine wpAnyG_take (v := ?_) 5 (by rfl) (by kernel_rfl) (by kernel_rfl) (by kernel_rfl) (by kernel_rfl) (fun _ _ _ h => h) (Or.inl ⟨by rfl, ?_⟩) (by assumption) ?_
          rotate_left
          · (intro w' hSw; (try dsimp only at hSw); (try simp only [List.getElem_toArray, List.getElem_cons_succ, List.getElem_cons_zero]); go_simp; try (with_reducible rfl))
          simp only [Act.put, List.getElem_toArray, List.getElem_cons_succ, List.getElem_cons_zero, List.setIfInBounds_toArray, List.set_cons_zero, List.set_cons_succ]
          refine wpAnyG_take (v := ?_) 6 (by rfl) (by kernel_rfl) (by kernel_rfl) (by kernel_rfl) (by kernel_rfl) (fun _ _ _ h => h) (Or.inl ⟨by rfl, ?_⟩) (by assumption) ?_
          rotate_left
          · (intro w' hSw; (try dsimp only at hSw); (try simp only [List.getElem_toArray, List.getElem_cons_succ, List.getElem_cons_zero]); go_simp; try (with_reducible rfl))
          simp only [Act.put, List.getElem_toArray, List.getElem_cons_succ, List.getElem_cons_zero, List.setIfInBounds_toArray, List.set_cons_zero, List.set_cons_succ]
          refine wpAnyG_take (v := ?_) 7 (by rfl) (by kernel_rfl) (by kernel_rfl) (by kernel_rfl) (by kernel_rfl) (fun _ _ _ h => h) (Or.inl ⟨by rfl, ?_⟩) (by assumption) ?_
          rotate_left
          · (intro w' hSw; (try dsimp only at hSw); (try simp only [List.getElem_toArray, List.getElem_cons_succ, List.getElem_cons_zero]); go_simp; try (with_reducible rfl))
          simp only [Act.put, List.getElem_toArray, List.getElem_cons_succ, List.getElem_cons_zero, List.setIfInBounds_toArray, List.set_cons_zero, List.set_cons_succ]
          refine wpAnyG_take (v := ?_) 8 (by rfl) (by kernel_rfl) (by kernel_rfl) (by kernel_rfl) (by kernel_rfl) (fun _ _ _ h => h) (Or.inl ⟨by rfl, ?_⟩) (by assumption) ?_
          rotate_left
          · (intro w' hSw; (try dsimp only at hSw); (try simp only [List.getElem_toArray, List.getElem_cons_succ, List.getElem_cons_zero]); go_simp; try (with_reducible rfl))
          simp only [Act.put, List.getElem_toArray, List.getElem_cons_succ, List.getElem_cons_zero, List.setIfInBounds_toArray, List.set_cons_zero, List.set_cons_succ]
          refine wpAnyG_take (v := ?_) 9 (by rfl) (by kernel_rfl) (by kernel_rfl) (by kernel_rfl) (by kernel_rfl) (fun _ _ _ h => h) (Or.inl ⟨by rfl, ?_⟩) (by assumption) ?_
          rotate_left
          · (intro w' hSw; (try dsimp only at hSw); (try simp only [List.getElem_toArray, List.getElem_cons_succ, List.getElem_cons_zero]); go_simp; try (with_reducible rfl))
          simp only [Act.put, List.getElem_toArray, List.getElem_cons_succ, List.getElem_cons_zero, List.setIfInBounds_toArray, List.set_cons_zero, List.set_cons_succ]
          refine wpAnyG_take (v := ?_) 10 (by rfl) (by kernel_rfl) (by kernel_rfl) (by kernel_rfl) (by kernel_rfl) (fun _ _ _ h => h) (Or.inl ⟨by rfl, ?_⟩) (by assumption) ?_
          rotate_left
          · (intro w' hSw; (try dsimp only at hSw); (try simp only [List.getElem_toArray, List.getElem_cons_succ, List.getElem_cons_zero]); go_simp; try (with_reducible rfl))
          simp only [Act.put, List.getElem_toArray, List.getElem_cons_succ, List.getElem_cons_zero, List.setIfInBounds_toArray, List.set_cons_zero, List.set_cons_succ]
          refine wpAnyG_take (v := ?_) 11 (by rfl) (by kernel_rfl) (by kernel_rfl) (by kernel_rfl) (by kernel_rfl) (fun _ _ _ h => h) (Or.inl ⟨by rfl, ?_⟩) (by assumption) ?_
          rotate_left
          · (intro w' hSw; (try dsimp only at hSw); (try simp only [List.getElem_toArray, List.getElem_cons_succ, List.getElem_cons_zero]); go_simp; try (with_reducible rfl))
          simp only [Act.put, List.getElem_toArray, List.getElem_cons_succ, List.getElem_cons_zero, List.setIfInBounds_toArray, List.set_cons_zero, List.set_cons_succ]
          refine wpAnyG_take (v := ?_) 12 (by rfl) (by kernel_rfl) (by kernel_rfl) (by kernel_rfl) (by kernel_rfl) (fun _ _ _ h => h) (Or.inl ⟨by rfl, ?_⟩) (by assumption) ?_
          rotate_left
          · (intro w' hSw; (try dsimp only at hSw); (try simp only [List.getElem_toArray, List.getElem_cons_succ, List.getElem_cons_zero]); go_simp; try (with_reducible rfl))
          simp only [Act.put, List.getElem_toArray, List.getElem_cons_succ, List.getElem_cons_zero, List.setIfInBounds_toArray, List.set_cons_zero, List.set_cons_succ]
          refine wpAnyG_take (v := ?_) 13 (by rfl) (by kernel_rfl) (by kernel_rfl) (by kernel_rfl) (by kernel_rfl) (fun _ _ _ h => h) (Or.inl ⟨by rfl, ?_⟩) (by assumption) ?_
          rotate_left
          · (intro w' hSw; (try dsimp only at hSw); (try simp only [List.getElem_toArray, List.getElem_cons_succ, List.getElem_cons_zero]); go_simp; try (with_reducible rfl))
          simp only [Act.put, List.getElem_toArray, List.getElem_cons_succ, List.getElem_cons_zero, List.setIfInBounds_toArray, List.set_cons_zero, List.set_cons_succ]
          refine wpAnyG_take (v := ?_) 14 (by rfl) (by kernel_rfl) (by kernel_rfl) (by kernel_rfl) (by kernel_rfl) (fun _ _ _ h => h) (Or.inl ⟨by rfl, ?_⟩) (by assumption) ?_
          rotate_left
          · (intro w' hSw; (try dsimp only at hSw); (try simp only [List.getElem_toArray, List.getElem_cons_succ, List.getElem_cons_zero]); go_simp; try (with_reducible rfl))
          simp only [Act.put, List.getElem_toArray, List.getElem_cons_succ, List.getElem_cons_zero, List.setIfInBounds_toArray, List.set_cons_zero, List.set_cons_succ]
          refine wpAnyG_take (v := ?_) 15 (by rfl) (by kernel_rfl) (by kernel_rfl) (by kernel_rfl) (by kernel_rfl) (fun _ _ _ h => h) (Or.inl ⟨by rfl, ?_⟩) (by assumption) ?_
          rotate_left
          · (intro w' hSw; (try dsimp only at hSw); (try simp only [List.getElem_toArray, List.getElem_cons_succ, List.getElem_cons_zero]); go_simp; try (with_reducible rfl))
          simp only [Act.put, List.getElem_toArray, List.getElem_cons_succ, List.getElem_cons_zero, List.setIfInBounds_toArray, List.set_cons_zero, List.set_cons_succ]
          refine wpAnyG_take (v := ?_) 16 (by rfl) (by kernel_rfl) (by kernel_rfl) (by kernel_rfl) (by kernel_rfl) (fun _ _ _ h => h) (Or.inl ⟨by rfl, ?_⟩) (by assumption) ?_
          rotate_left
          · (intro w' hSw; (try dsimp only at hSw); (try simp only [List.getElem_toArray, List.getElem_cons_succ, List.getElem_cons_zero]); go_simp; try (with_reducible rfl))
          simp only [Act.put, List.getElem_toArray, List.getElem_cons_succ, List.getElem_cons_zero, List.setIfInBounds_toArray, List.set_cons_zero, List.set_cons_succ]
          refine wpAnyG_take (v := ?_) 17 (by rfl) (by kernel_rfl) (by kernel_rfl) (by kernel_rfl) (by kernel_rfl) (fun _ _ _ h => h) (Or.inl ⟨by rfl, ?_⟩) (by assumption) ?_
          rotate_left
          · (intro w' hSw; (try dsimp only at hSw); (try simp only [List.getElem_toArray, List.getElem_cons_succ, List.getElem_cons_zero]); go_simp; try (with_reducible rfl))
          simp only [Act.put, List.getElem_toArray, List.getElem_cons_succ, List.getElem_cons_zero, List.setIfInBounds_toArray, List.set_cons_zero, List.set_cons_succ]
          refine wpAnyG_take (v := ?_) 18 (by rfl) (by kernel_rfl) (by kernel_rfl) (by kernel_rfl) (by kernel_rfl) (fun _ _ _ h => h) (Or.inl ⟨by rfl, ?_⟩) (by assumption) ?_
          rotate_left
          · (intro w' hSw; (try dsimp only at hSw); (try simp only [List.getElem_toArray, List.getElem_cons_succ, List.getElem_cons_zero]); go_simp; try (with_reducible rfl))
          simp only [Act.put, List.getElem_toArray, List.getElem_cons_succ, List.getElem_cons_zero, List.setIfInBounds_toArray, List.set_cons_zero, List.set_cons_succ]
          refine wpAnyG_take (v := ?_) 19 (by rfl) (by kernel_rfl) (by kernel_rfl) (by kernel_rfl) (by kernel_rfl) (fun _ _ _ h => h) (Or.inl ⟨by rfl, ?_⟩) (by assumption) ?_
          rotate_left
          · (intro w' hSw; (try dsimp only at hSw); (try simp only [List.getElem_toArray, List.getElem_cons_succ, List.getElem_cons_zero]); go_simp; try (with_reducible rfl))
          simp only [Act.put, List.getElem_toArray, List.getElem_cons_succ, List.getElem_cons_zero, List.setIfInBounds_toArray, List.set_cons_zero, List.set_cons_succ]
          refine wpAnyG_done (by kernel_rfl) ?_ _
          refine NoPanic.normal ?_
          clear hHeld
          go_wp2
          go_roundg g2
          case rel => exact ⟨i + 1, by omega, by go_num, hide (unhide HFw _ hbq)⟩
          case measure => omega
        · obtain rfl : i = N := by omega
          have hiI : ¬ (i : Int) < (i : Int) := by omega
          go_wp2
          rw [unhide HP]
          exact ⟨rfl, (unhide HM3 _ (unhide HI).1).2.2.2⟩
end Go.Proofs.Ytlmlibhkloingaa


