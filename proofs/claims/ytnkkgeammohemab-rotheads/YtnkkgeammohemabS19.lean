/- The second law's known. -/
import Derived.Test.YtnkkgeammohemabS18
namespace Go.Proofs.Ytnkkgeammohemab
open Go Go.RowKit

def Sp.q0 : Sp.Net := ⟨2, [0, 1], [0, 1], [5, 3]⟩
def Sp.q1 : Sp.Net := ⟨1, [], [], []⟩
theorem q0_walk : Sp.walkB Sp.q0 = true := by decide +kernel
theorem q0_check : Sp.checkI Sp.q0 = 0 := by decide +kernel
theorem q1_check : Sp.checkI Sp.q1 = 0 := by decide +kernel
theorem q0_faces : Sp.facesL Sp.q0 = [0, 0] ∧ Sp.facesN Sp.q0 = 1 := by decide +kernel
theorem q0_pieces : Sp.pieces Sp.q0 = ([0, 0], 1) := by decide +kernel
theorem q0_about : Sp.roundOf Sp.q0.next 1 = [1] := by decide +kernel
theorem q0_face : Sp.roundOf (Sp.behindL Sp.q0.next) 0 = [0, 1] := by decide +kernel
/-- A net of literals in a block of its own. -/
theorem lit_net (w : World) (N : Int) (t n c : List Int) (a b d : Nat) (ht : t.length = a) (hn : n.length = b) (hc : c.length = d) (hs : t.length ≤ 1000 ∧ n.length ≤ 1000 ∧ c.length ≤ 1000) (w' : World)
    (hb : Below (w.heap.size + 4) ((((w.alloc (.cells (t.map (Value.int .i64)).toArray 3)).alloc (.cells (n.map (Value.int .i64)).toArray 3)).alloc (.cells (c.map (Value.int .i64)).toArray 3)).alloc (.cells #[.int .i64 N, .slice (some ⟨w.heap.size, 0, none⟩) a a, .slice (some ⟨w.heap.size + 1, 0, none⟩) b b, .slice (some ⟨w.heap.size + 1 + 1, 0, none⟩) d d] 25)) w') :
    NetI w' (.agg #[.int .i64 N, .slice (some ⟨w.heap.size, 0, none⟩) a a, .slice (some ⟨w.heap.size + 1, 0, none⟩) b b, .slice (some ⟨w.heap.size + 1 + 1, 0, none⟩) d d]) ⟨N, t, n, c⟩ (.slice (some ⟨w.heap.size, 0, none⟩) a a) (.slice (some ⟨w.heap.size + 1, 0, none⟩) b b) (.slice (some ⟨w.heap.size + 1 + 1, 0, none⟩) d d) ∧
    Below w.heap.size w w' ∧ w.heap.size + 4 ≤ w'.heap.size ∧ w'.cell? ⟨w.heap.size + 1 + 1 + 1, 0, none⟩ = some (.int .i64 N) ∧ w'.cell? ⟨w.heap.size + 1 + 1 + 1, 1, none⟩ = some (.slice (some ⟨w.heap.size, 0, none⟩) a a) ∧ w'.cell? ⟨w.heap.size + 1 + 1 + 1, 2, none⟩ = some (.slice (some ⟨w.heap.size + 1, 0, none⟩) b b) ∧ w'.cell? ⟨w.heap.size + 1 + 1 + 1, 3, none⟩ = some (.slice (some ⟨w.heap.size + 1 + 1, 0, none⟩) d d) := by
  have o1 := own_lit w w.heap.size w.heap.size a t rfl ht (Nat.le_refl _) (by omega)
  generalize hA : w.alloc (.cells (t.map (Value.int .i64)).toArray 3) = A at *
  have sA : A.heap.size = w.heap.size + 1 := by rw [← hA]; simp
  have bA : Below w.heap.size w A := by rw [← hA]; exact (Below.refl _ w).alloc (Nat.le_refl _) _
  have o2 := own_lit A w.heap.size (w.heap.size + 1) b n sA hn (by omega) (by omega)
  have o1' := World.ownsRow.alloc o1 (.cells (n.map (Value.int .i64)).toArray 3)
  generalize hB : A.alloc (.cells (n.map (Value.int .i64)).toArray 3) = B at *
  have sB : B.heap.size = w.heap.size + 1 + 1 := by rw [← hB, World.size_alloc, sA]
  have bB : Below w.heap.size w B := by rw [← hB]; exact bA.alloc (by omega) _
  have o3 := own_lit B w.heap.size (w.heap.size + 1 + 1) d c sB hc (by omega) (by omega)
  have o1'' := World.ownsRow.alloc o1' (.cells (c.map (Value.int .i64)).toArray 3)
  have o2' := World.ownsRow.alloc o2 (.cells (c.map (Value.int .i64)).toArray 3)
  generalize hC : B.alloc (.cells (c.map (Value.int .i64)).toArray 3) = C at *
  have sC : C.heap.size = w.heap.size + 1 + 1 + 1 := by rw [← hC, World.size_alloc, sB]
  have bC : Below w.heap.size w C := by rw [← hC]; exact bB.alloc (by omega) _
  obtain ⟨k0, k1, k2, k3⟩ := net_new C (.int .i64 N) (.slice (some ⟨w.heap.size, 0, none⟩) a a) (.slice (some ⟨w.heap.size + 1, 0, none⟩) b b) (.slice (some ⟨w.heap.size + 1 + 1, 0, none⟩) d d) 25
  rw [sC] at k0 k1 k2 k3
  have p1 := World.ownsRow.alloc o1'' (.cells #[.int .i64 N, .slice (some ⟨w.heap.size, 0, none⟩) a a, .slice (some ⟨w.heap.size + 1, 0, none⟩) b b, .slice (some ⟨w.heap.size + 1 + 1, 0, none⟩) d d] 25)
  have p2 := World.ownsRow.alloc o2' (.cells #[.int .i64 N, .slice (some ⟨w.heap.size, 0, none⟩) a a, .slice (some ⟨w.heap.size + 1, 0, none⟩) b b, .slice (some ⟨w.heap.size + 1 + 1, 0, none⟩) d d] 25)
  have p3 := World.ownsRow.alloc o3 (.cells #[.int .i64 N, .slice (some ⟨w.heap.size, 0, none⟩) a a, .slice (some ⟨w.heap.size + 1, 0, none⟩) b b, .slice (some ⟨w.heap.size + 1 + 1, 0, none⟩) d d] 25)
  have bD : Below w.heap.size w (C.alloc (.cells #[.int .i64 N, .slice (some ⟨w.heap.size, 0, none⟩) a a, .slice (some ⟨w.heap.size + 1, 0, none⟩) b b, .slice (some ⟨w.heap.size + 1 + 1, 0, none⟩) d d] 25)) := bC.alloc (by omega) _
  have sD : (C.alloc (.cells #[.int .i64 N, .slice (some ⟨w.heap.size, 0, none⟩) a a, .slice (some ⟨w.heap.size + 1, 0, none⟩) b b, .slice (some ⟨w.heap.size + 1 + 1, 0, none⟩) d d] 25)).heap.size = w.heap.size + 4 := by rw [World.size_alloc, sC]
  generalize C.alloc (.cells #[.int .i64 N, .slice (some ⟨w.heap.size, 0, none⟩) a a, .slice (some ⟨w.heap.size + 1, 0, none⟩) b b, .slice (some ⟨w.heap.size + 1 + 1, 0, none⟩) d d] 25) = D at *
  have hb' : Below D.heap.size D w' := by rw [sD]; exact hb
  have hsz := hb.size
  exact ⟨⟨rfl, (OwnI.ints p1).below hb', (OwnI.ints p2).below hb', (OwnI.ints p3).below hb'⟩, bD.trans (hb.mono (by omega)), by omega,
    (hb.cell (by show w.heap.size + 1 + 1 + 1 < _; omega)).trans k0, (hb.cell (by show w.heap.size + 1 + 1 + 1 < _; omega)).trans k1, (hb.cell (by show w.heap.size + 1 + 1 + 1 < _; omega)).trans k2, (hb.cell (by show w.heap.size + 1 + 1 + 1 < _; omega)).trans k3⟩
theorem net_field0 (a b c d : Value) (w : World) : (Instr.field 25 (.agg #[a, b, c, d]) 0).run Try.prog w = .ok a w := by
  simp [Instr.field, run_underlying Try.underlying25, go_sem]
  rfl
theorem ints_nil (w : World) : Ints w (.slice none 0 0) [] := ⟨none, 0, rfl, by simp, by unfold maxLen; omega, fun k hk => by simp at hk⟩
set_option maxRecDepth 100000 in
set_option maxHeartbeats 2000000 in
theorem known2_any (w : World) :
    Calls Try.prog 9 #[] w fun e w' => e = .returned (.bool true) ∧ Below w.heap.size w w' := by
  have HL := hide (lit_net w 2 [0, 1] [0, 1] [5, 3] 2 2 2 rfl rfl rfl (by simp))
  obtain ⟨P, hP⟩ : ∃ P : Ending → World → Prop, P = fun e w' => e = .returned (.bool true) ∧ Below w.heap.size w w' := ⟨_, rfl⟩
  rw [← hP]
  have HP := hide hP
  clear hP
  go_enter Try.func9, Try.ntmps9
  go_wp2_with fail
  have hWW : ((((w.alloc (.cells #[.int .i64 0, .int .i64 1] 3)).alloc (.cells #[.int .i64 0, .int .i64 1] 3)).alloc (.cells #[.int .i64 5, .int .i64 3] 3)).alloc (.cells #[.int .i64 2, .slice (some ⟨w.heap.size, 0, none⟩) 2 2, .slice (some ⟨w.heap.size + 1, 0, none⟩) 2 2, .slice (some ⟨w.heap.size + 1 + 1, 0, none⟩) 2 2] 25)) = ((((w.alloc (.cells (([0, 1] : List Int).map (Value.int .i64)).toArray 3)).alloc (.cells (([0, 1] : List Int).map (Value.int .i64)).toArray 3)).alloc (.cells (([5, 3] : List Int).map (Value.int .i64)).toArray 3)).alloc (.cells #[.int .i64 2, .slice (some ⟨w.heap.size, 0, none⟩) 2 2, .slice (some ⟨w.heap.size + 1, 0, none⟩) 2 2, .slice (some ⟨w.heap.size + 1 + 1, 0, none⟩) 2 2] 25)) := rfl
  rw [← hWW] at HL
  clear hWW
  have hs4 : ((((w.alloc (.cells #[.int .i64 0, .int .i64 1] 3)).alloc (.cells #[.int .i64 0, .int .i64 1] 3)).alloc (.cells #[.int .i64 5, .int .i64 3] 3)).alloc (.cells #[.int .i64 2, .slice (some ⟨w.heap.size, 0, none⟩) 2 2, .slice (some ⟨w.heap.size + 1, 0, none⟩) 2 2, .slice (some ⟨w.heap.size + 1 + 1, 0, none⟩) 2 2] 25)).heap.size = w.heap.size + 4 := by simp
  generalize ((((w.alloc (.cells #[.int .i64 0, .int .i64 1] 3)).alloc (.cells #[.int .i64 0, .int .i64 1] 3)).alloc (.cells #[.int .i64 5, .int .i64 3] 3)).alloc (.cells #[.int .i64 2, .slice (some ⟨w.heap.size, 0, none⟩) 2 2, .slice (some ⟨w.heap.size + 1, 0, none⟩) 2 2, .slice (some ⟨w.heap.size + 1 + 1, 0, none⟩) 2 2] 25)) = W4 at *
  have HT : Hid (∀ w2 w3, Below (w.heap.size + 4) W4 w2 → Below w2.heap.size w2 w3 → Below (w.heap.size + 4) W4 w3) := hide fun w2 w3 h2 h3 => h2.trans (h3.mono (unhide HL w2 h2).2.2.1)
  have hb4 : Below (w.heap.size + 4) W4 W4 := Below.refl _ _
  go_at_call 16
  refine (faces_any Sp.q0 _ _ _ _ W4 (unhide HL W4 hb4).1 q0_walk).mono ?_
  rw [q0_faces.1, q0_faces.2]
  rintro e w5 ⟨fv, rfl, hf5, hb5⟩
  replace hb5 := unhide HT _ _ hb4 hb5
  obtain ⟨fa, fc, rfl, -, -⟩ := hf5.ints.form
  obtain ⟨x0, x1, x2, x3⟩ := (unhide HL w5 hb5).2.2.2
  have Hb5 := hide hb5
  clear hf5 hb5 hb4 hs4
  go_wp2_with fail
  go_at_call 23
  refine (parts_any Sp.q0 _ _ _ _ w5 (unhide HL w5 (unhide Hb5)).1 q0_walk).mono ?_
  rw [q0_pieces]
  rintro e w6 ⟨pv, rfl, hp6, hb6⟩
  replace hb6 := unhide HT _ _ (unhide Hb5) hb6
  obtain ⟨pa, pc, rfl, -, -⟩ := hp6.ints.form
  clear x0 x1 x2 x3
  have Hb6 := hide hb6
  have HX : Hid (∀ w', Below (w.heap.size + 4) W4 w' → w'.cell? ⟨w.heap.size + 1 + 1 + 1, 0, none⟩ = some (.int .i64 2) ∧ w'.cell? ⟨w.heap.size + 1 + 1 + 1, 1, none⟩ = some (.slice (some ⟨w.heap.size, 0, none⟩) 2 2) ∧ w'.cell? ⟨w.heap.size + 1 + 1 + 1, 2, none⟩ = some (.slice (some ⟨w.heap.size + 1, 0, none⟩) 2 2) ∧ w'.cell? ⟨w.heap.size + 1 + 1 + 1, 3, none⟩ = some (.slice (some ⟨w.heap.size + 1 + 1, 0, none⟩) 2 2)) := hide fun w' hb => (unhide HL w' hb).2.2.2
  clear hp6 hb6
  have hb6 := unhide Hb6
  go_wp2
  have HA : Hid (∀ w', Below (w.heap.size + 4) W4 w' → Calls Try.prog 14 #[.agg #[.int .i64 2, .slice (some ⟨w.heap.size, 0, none⟩) 2 2, .slice (some ⟨w.heap.size + 1, 0, none⟩) 2 2, .slice (some ⟨w.heap.size + 1 + 1, 0, none⟩) 2 2], .int .i64 1] w' fun e w'' => ∃ a c, e = .returned (.slice a 1 c) ∧ Below (w.heap.size + 4) W4 w'') := by
    refine hide fun w' hb => (about_any Sp.q0 _ _ _ _ 1 w' (unhide HL w' hb).1 q0_walk).mono ?_
    rw [q0_about]
    rintro e w'' ⟨rv, rfl, hm, hb'⟩
    obtain ⟨a, c, rfl, -, -⟩ := hm.ints.form
    exact ⟨a, c, rfl, unhide HT _ _ hb hb'⟩
  have HFc : Hid (∀ w', Below (w.heap.size + 4) W4 w' → Calls Try.prog 17 #[.agg #[.int .i64 2, .slice (some ⟨w.heap.size, 0, none⟩) 2 2, .slice (some ⟨w.heap.size + 1, 0, none⟩) 2 2, .slice (some ⟨w.heap.size + 1 + 1, 0, none⟩) 2 2], .int .i64 0] w' fun e w'' => ∃ a c, e = .returned (.slice a 2 c) ∧ Below (w.heap.size + 4) W4 w'') := by
    refine hide fun w' hb => (face_any Sp.q0 _ _ _ _ 0 w' (unhide HL w' hb).1 q0_walk).mono ?_
    rw [q0_face]
    rintro e w'' ⟨rv, rfl, hm, hb'⟩
    obtain ⟨a, c, rfl, -, -⟩ := hm.ints.form
    exact ⟨a, c, rfl, unhide HT _ _ hb hb'⟩
  go_region_held3 (fun w' => w'.cell? ⟨w.heap.size + 1 + 1 + 1, 0, none⟩ = some (.int .i64 2) ∧ w'.cell? ⟨w.heap.size + 1 + 1 + 1, 1, none⟩ = some (.slice (some ⟨w.heap.size, 0, none⟩) 2 2) ∧ w'.cell? ⟨w.heap.size + 1 + 1 + 1, 2, none⟩ = some (.slice (some ⟨w.heap.size + 1, 0, none⟩) 2 2) ∧ w'.cell? ⟨w.heap.size + 1 + 1 + 1, 3, none⟩ = some (.slice (some ⟨w.heap.size + 1 + 1, 0, none⟩) 2 2))
    (first
      | exact unhide HX _ hb8
      | exact unhide HX _ hb7
      | exact unhide HX _ hb6.drew)
    (first
      | (go_at_call 17
         refine (unhide HFc _ hb7).mono ?_
         rintro e w8 ⟨a8, c8, rfl, hb8⟩)
      | (go_at_call 14
         refine (unhide HA _ hb6.drew).mono ?_
         rintro e w7 ⟨a7, c7, rfl, hb7⟩))
  all_goals
    obtain ⟨x0, x1, x2, x3⟩ := unhide HX w8 hb8
    have Hb8 := hide hb8
    clear hb8 hb7 hb6
    go_wp2_with fail
    go_at_call 11
    refine (check_any Sp.q1 _ _ _ _ w8 ⟨rfl, ints_nil _, ints_nil _, ints_nil _⟩ (by decide) (by decide)).mono ?_
    rw [q1_check]
    rintro e w9 ⟨rfl, hb9⟩
    replace hb9 := unhide HT _ _ (unhide Hb8) hb9
    clear x0 x1 x2 x3
    obtain ⟨x0, x1, x2, x3⟩ := unhide HX w9 hb9
    have Hb9 := hide hb9
    clear hb9
    go_wp2_with fail
    go_at_call 11
    refine (check_any Sp.q0 _ _ _ _ w9 (unhide HL w9 (unhide Hb9)).1 (by decide) (by decide)).mono ?_
    rw [q0_check]
    rintro e w10 ⟨rfl, hb10⟩
    replace hb10 := unhide HT _ _ (unhide Hb9) hb10
    clear x0 x1 x2 x3
    obtain ⟨x0, x1, x2, x3⟩ := unhide HX w10 hb10
    have Hb10 := hide hb10
    clear hb10
    go_wp2_with fail
    go_at_call 13
    refine (head_any' Sp.q0 _ _ _ _ 0 w10 (unhide HL w10 (unhide Hb10)).1 (by decide) (by decide) (by decide)).mono ?_
    rw [show Sp.q0.tail.getD (Sp.oth 0) 0 = 1 by decide]
    rintro e w11 ⟨rfl, hb11⟩
    replace hb11 := unhide HT _ _ (unhide Hb10) hb11
    clear x0 x1 x2 x3
    obtain ⟨x0, x1, x2, x3⟩ := unhide HX w11 hb11
    have Hb11 := hide hb11
    clear hb11
    go_wp2_with fail
    go_at_call 15
    refine (rturn_any Sp.q0 _ _ _ _ w11 (unhide HL w11 (unhide Hb11)).1 q0_walk).mono ?_
    rintro e w12 ⟨tv, nv, cv, rfl, ht12, hn12, hc12, hb12⟩
    obtain ⟨ta12, tc12, rfl, -, -⟩ := ht12.ints.form
    obtain ⟨na12, nc12, rfl, -, -⟩ := hn12.ints.form
    obtain ⟨ca12, cc12, rfl, -, -⟩ := hc12.ints.form
    clear ht12 hn12 hc12
    replace hb12 := unhide HT _ _ (unhide Hb11) hb12
    have Hb12 := hide (unhide HL w12 hb12).2.1
    have hq2 : Sp.q0.n = 2 := rfl
    rw [hq2]
    clear x0 x1 x2 x3 hb12 hq2
    have hfld := net_field0
    go_wp2
    rw [unhide HP]
    exact ⟨rfl, unhide Hb12⟩
end Go.Proofs.Ytnkkgeammohemab


