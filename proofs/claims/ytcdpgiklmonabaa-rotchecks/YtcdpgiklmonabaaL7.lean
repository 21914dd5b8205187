/- What the proof needs, part 7. -/
import Derived.Test.YtcdpgiklmonabaaL6
/- The walk of package rot: Check. -/
namespace Go.Proofs.Ytcdpgiklmonabaa
open Go Go.RowKit

/-- What Check tells of any lists. -/
def Sp.checkI (q : Sp.Net) : Int :=
  if Sp.fewB q = false then 2 else if Sp.matchedB q = false then 5 else if q.n < 1 then 3 else if Sp.placedB q = false then 3 else if Sp.turningB q = false then 6 else if Sp.heldB q = false then 4
  else if (Sp.pieces q).2 ≠ 1 then 7 else if q.n - ((q.tail.length / 2 : Nat) : Int) + (Sp.facesN q : Int) ≠ 2 then 8 else 0
theorem facesN_le (q : Sp.Net) (h : WalkQ q) : Sp.facesN q ≤ 241 := by
  unfold Sp.facesN
  have hb := Sp.behindL_bd q.next (by rw [h.nx]; exact h.ev) h.nb
  rw [← Sp.behindL_len q.next] at hb
  have : (Sp.rndsD (Sp.behindL q.next)).2.length ≤ 240 := by
    unfold Sp.rndsD
    cases hr : Sp.rnds (Sp.behindL q.next) with
    | none => simp
    | some rp =>
      obtain ⟨row, ps⟩ := rp
      have := (rnds_ok hb hr).2
      rw [Sp.behindL_len, h.nx] at this
      have := h.big
      simp only [Option.getD_some]
      omega
  omega
set_option maxRecDepth 100000 in
set_option maxHeartbeats 2000000 in
theorem check_any (q : Sp.Net) (v tv nv cv : Value) (w : World) (hv : NetI w v q tv nv cv) (hlo : -9223372036854775808 ≤ q.n) (hhi : q.n ≤ 9223372036854775807) :
    Calls Try.prog 12 #[v] w fun e w' => e = .returned (.int .i64 (Sp.checkI q)) ∧ Below w.heap.size w w' := by
  have hv' := hv
  obtain ⟨rfl, h1, h2, h3⟩ := hv
  obtain ⟨ta, tc, rfl, -, -⟩ := h1.form
  obtain ⟨na, nc, rfl, -, -⟩ := h2.form
  obtain ⟨ca, cc, rfl, -, -⟩ := h3.form
  clear h1 h2 h3
  have HBX := hide (box_new w q.n (.slice ta q.tail.length tc) (.slice na q.next.length nc) (.slice ca q.cap.length cc))
  obtain ⟨W1, hW1⟩ : ∃ W1, W1 = w.alloc (.cells #[.int .i64 q.n, .slice ta q.tail.length tc, .slice na q.next.length nc, .slice ca q.cap.length cc] 25) := ⟨_, rfl⟩
  rw [← hW1] at HBX
  have hb1 : Below w.heap.size w W1 := by rw [hW1]; exact (Below.refl _ w).alloc (Nat.le_refl _) _
  have hs1 : W1.heap.size = w.heap.size + 1 := by rw [hW1]; simp
  have HW : Hid (∀ w', Below (w.heap.size + 1) W1 w' → Below w.heap.size w w') := hide fun w' hb => hb1.trans (hb.mono (by omega))
  have HS1 := hide hs1
  have HV : Hid (∀ w', Below (w.heap.size + 1) W1 w' → NetI w' (.agg #[.int .i64 q.n, .slice ta q.tail.length tc, .slice na q.next.length nc, .slice ca q.cap.length cc]) q (.slice ta q.tail.length tc) (.slice na q.next.length nc) (.slice ca q.cap.length cc)) := hide fun w' hb => hv'.below (unhide HW _ hb)
  have HT : Hid (∀ w2 w3, Below (w.heap.size + 1) W1 w2 → w.heap.size + 1 ≤ w2.heap.size → Below w2.heap.size w2 w3 → Below (w.heap.size + 1) W1 w3) := hide fun w2 w3 h2 hs h3 => h2.trans (h3.mono hs)
  have HC1 := hide (few_any q _ _ _ _ W1 (unhide HV W1 (Below.refl _ _)))
  have HF : Hid (Sp.checkI q = if Sp.fewB q = false then 2 else if Sp.matchedB q = false then 5 else if q.n < 1 then 3 else if Sp.placedB q = false then 3 else if Sp.turningB q = false then 6 else if Sp.heldB q = false then 4 else if (Sp.pieces q).2 ≠ 1 then 7 else if q.n - ((q.tail.length / 2 : Nat) : Int) + (Sp.facesN q : Int) ≠ 2 then 8 else 0) := hide rfl
  generalize Sp.checkI q = R at *
  obtain ⟨P, hP⟩ : ∃ P : Ending → World → Prop, P = fun e w' => e = .returned (.int .i64 R) ∧ Below w.heap.size w w' := ⟨_, rfl⟩
  rw [← hP]
  have HP := hide hP
  obtain ⟨x0, x1, x2, x3, -⟩ := unhide HBX W1 (Below.refl _ _)
  clear hb1 hs1 hv' hP
  subst hW1
  go_enter Try.func12, Try.ntmps12
  go_wp2_with fail
  go_at_call 39
  refine (unhide HC1).mono ?_
  clear HC1 x0 x1 x2 x3
  generalize w.alloc (.cells #[.int .i64 q.n, .slice ta q.tail.length tc, .slice na q.next.length nc, .slice ca q.cap.length cc] 25) = W1 at *
  rintro e w2 ⟨rfl, hb2⟩
  rw [unhide HS1] at hb2
  obtain ⟨x0, x1, x2, x3, hsz2⟩ := unhide HBX w2 hb2
  have HC2 := hide (matched_any q _ _ _ _ w2 (unhide HV w2 hb2))
  have Hb2 := hide hb2
  clear hb2
  cases hb : Sp.fewB q with
  | false =>
    have HF2 : Hid (R = 2) := hide (by rw [unhide HF, if_pos hb])
    clear hb
    go_wp2
    rw [unhide HP]
    exact ⟨by rw [unhide HF2]; rfl, unhide HW _ (unhide Hb2)⟩
  | true =>
    rw [hb] at HF
    have HB1 := hide hb
    clear hb
    go_wp2_with fail
    go_at_call 40
    refine (unhide HC2).mono ?_
    clear HC2
    rintro e w3 ⟨rfl, hb3⟩
    have hb3' := unhide HT _ _ (unhide Hb2) hsz2 hb3
    clear hb3 x0 x1 x2 x3
    obtain ⟨x0, x1, x2, x3, hsz3⟩ := unhide HBX w3 hb3'
    have Hb3 := hide hb3'
    have HC3 := hide (placed_any q _ _ _ _ w3 (unhide HV w3 hb3'))
    clear hb3'
    cases hb : Sp.matchedB q with
    | false =>
      have HF2 : Hid (R = 5) := hide (by rw [unhide HF, if_neg (by simp), if_pos hb])
      clear hb
      go_wp2
      rw [unhide HP]
      exact ⟨by rw [unhide HF2]; rfl, unhide HW _ (unhide Hb3)⟩
    | true =>
      rw [hb] at HF
      have HB2 := hide hb
      clear hb
      by_cases hn1 : q.n < 1
      · have HF2 : Hid (R = 3) := hide (by rw [unhide HF, if_neg (by simp), if_neg (by simp), if_pos hn1])
        go_wp2
        rw [unhide HP]
        exact ⟨by rw [unhide HF2]; rfl, unhide HW _ (unhide Hb3)⟩
      · go_wp2_with fail
        go_at_call 41
        refine (unhide HC3).mono ?_
        clear HC3
        rintro e w4 ⟨rfl, hb4⟩
        have hb4' := unhide HT _ _ (unhide Hb3) hsz3 hb4
        clear hb4 x0 x1 x2 x3
        obtain ⟨x0, x1, x2, x3, hsz4⟩ := unhide HBX w4 hb4'
        have Hb4 := hide hb4'
        have HV4 := hide (unhide HV w4 hb4')
        clear hb4'
        cases hb : Sp.placedB q with
        | false =>
          have HF2 : Hid (R = 3) := hide (by rw [unhide HF, if_neg (by simp), if_neg (by simp), if_neg (by omega), if_pos hb])
          clear hb
          go_wp2
          rw [unhide HP]
          exact ⟨by rw [unhide HF2]; rfl, unhide HW _ (unhide Hb4)⟩
        | true =>
          rw [hb] at HF
          have HWB : Hid (Sp.walkB q = true) := hide (by unfold Sp.walkB; rw [unhide HB1, unhide HB2, hb]; rfl)
          have hQ := walkQ (unhide HWB)
          have HC4 := hide (turning_any q _ _ _ _ w4 (unhide HV4) hQ.nx.symm (by rw [hQ.nx]; exact hQ.big) hQ.nb hQ.n0 hQ.n1 hQ.tb)
          have hn60 := hQ.n1
          have hbig := hQ.big
          have hfn := facesN_le q hQ
          clear hb hQ HV4
          go_wp2_with fail
          go_at_call 42
          refine (unhide HC4).mono ?_
          clear HC4
          rintro e w5 ⟨rfl, hb5⟩
          have hb5' := unhide HT _ _ (unhide Hb4) hsz4 hb5
          clear hb5 x0 x1 x2 x3
          obtain ⟨x0, x1, x2, x3, hsz5⟩ := unhide HBX w5 hb5'
          have Hb5 := hide hb5'
          have HC5 := hide (held_any q _ _ _ _ w5 (unhide HV w5 hb5'))
          clear hb5'
          cases hb : Sp.turningB q with
          | false =>
            have HF2 : Hid (R = 6) := hide (by rw [unhide HF, if_neg (by simp), if_neg (by simp), if_neg (by omega), if_neg (by simp), if_pos hb])
            clear hb
            go_wp2
            rw [unhide HP]
            exact ⟨by rw [unhide HF2]; rfl, unhide HW _ (unhide Hb5)⟩
          | true =>
            rw [hb] at HF
            clear hb
            go_wp2_with fail
            go_at_call 43
            refine (unhide HC5).mono ?_
            clear HC5
            rintro e w6 ⟨rfl, hb6⟩
            have hb6' := unhide HT _ _ (unhide Hb5) hsz5 hb6
            clear hb6 x0 x1 x2 x3
            obtain ⟨x0, x1, x2, x3, hsz6⟩ := unhide HBX w6 hb6'
            have Hb6 := hide hb6'
            have HC6 := hide (parts_any q _ _ _ _ w6 (unhide HV w6 hb6') (unhide HWB))
            clear hb6'
            cases hb : Sp.heldB q with
            | false =>
              have HF2 : Hid (R = 4) := hide (by rw [unhide HF, if_neg (by simp), if_neg (by simp), if_neg (by omega), if_neg (by simp), if_neg (by simp), if_pos hb])
              clear hb
              go_wp2
              rw [unhide HP]
              exact ⟨by rw [unhide HF2]; rfl, unhide HW _ (unhide Hb6)⟩
            | true =>
              rw [hb] at HF
              clear hb
              go_wp2_with fail
              go_at_call 17
              refine (unhide HC6).mono ?_
              clear HC6
              rintro e w7 ⟨pv, rfl, -, hb7⟩
              have hb7' := unhide HT _ _ (unhide Hb6) hsz6 hb7
              clear hb7 x0 x1 x2 x3
              obtain ⟨x0, x1, x2, x3, hsz7⟩ := unhide HBX w7 hb7'
              have Hb7 := hide hb7'
              have HC7 := hide (faces_any q _ _ _ _ w7 (unhide HV w7 hb7') (unhide HWB))
              clear hb7'
              generalize (Sp.pieces q).2 = pk at *
              by_cases hp1 : pk = 1
              · subst hp1
                have hkk : (((1 : Nat) : Int) != (1 : Int)) = false := by simp
                go_wp2_with fail
                go_at_call 15
                refine (unhide HC7).mono ?_
                clear HC7
                rintro e w8 ⟨fv, rfl, -, hb8⟩
                have hb8' := unhide HT _ _ (unhide Hb7) hsz7 hb8
                clear hb8 x0 x1 x2 x3
                obtain ⟨x0, x1, x2, x3, hsz8⟩ := unhide HBX w8 hb8'
                have HB8 := hide (unhide HW _ hb8')
                clear hb8'
                generalize Sp.facesN q = fk at *
                have HD : Hid (((q.tail.length / 2 : Nat) : Int) = (q.tail.length : Int) / 2) := hide (by omega)
                by_cases hs : q.n - ((q.tail.length / 2 : Nat) : Int) + (fk : Int) = 2
                · have HF2 : Hid (R = 0) := hide (by rw [unhide HF, if_neg (by simp), if_neg (by simp), if_neg (by omega), if_neg (by simp), if_neg (by simp), if_neg (by simp), if_neg (by simp), if_neg (by simpa using hs)])
                  have hs2 : q.n - (q.tail.length : Int) / 2 + (fk : Int) = 2 := by omega
                  go_wp2
                  all_goals
                    rw [unhide HP]
                    exact ⟨by rw [unhide HF2]; rfl, unhide HB8⟩
                · have HF2 : Hid (R = 8) := hide (by rw [unhide HF, if_neg (by simp), if_neg (by simp), if_neg (by omega), if_neg (by simp), if_neg (by simp), if_neg (by simp), if_neg (by simp), if_pos (by simpa using hs)])
                  have hs2 : ¬ q.n - (q.tail.length : Int) / 2 + (fk : Int) = 2 := by omega
                  go_wp2
                  all_goals
                    rw [unhide HP]
                    exact ⟨by rw [unhide HF2]; rfl, unhide HB8⟩
              · have HF2 : Hid (R = 7) := hide (by rw [unhide HF, if_neg (by simp), if_neg (by simp), if_neg (by omega), if_neg (by simp), if_neg (by simp), if_neg (by simp), if_pos hp1])
                have hkk : ((pk : Int) != (1 : Int)) = true := by simp; omega
                go_wp2
                rw [unhide HP]
                exact ⟨by rw [unhide HF2]; rfl, unhide HW _ (unhide Hb7)⟩
end Go.Proofs.Ytcdpgiklmonabaa


/- The second law's known. -/
namespace Go.Proofs.Ytcdpgiklmonabaa
open Go Go.RowKit

def Sp.q0 : Sp.Net := ⟨2, [0, 1], [0, 1], [5, 3]⟩
def Sp.q1 : Sp.Net := ⟨1, [], [], []⟩
theorem q0_walk : Sp.walkB Sp.q0 = true := by decide +kernel
theorem q0_check : Sp.checkI Sp.q0 = 0 := by decide +kernel
theorem q1_check : Sp.checkI Sp.q1 = 0 := by decide +kernel
theorem q0_faces : Sp.facesL Sp.q0 = [0, 0] ∧ Sp.facesN Sp.q0 = 1 := by decide +kernel
theorem q0_pieces : Sp.pieces Sp.q0 = ([0, 0], 1) := by decide +kernel
theorem q0_about : Sp.roundOf Sp.q0.next 1 = [1] := by decide +kernel
theorem q0_face : Sp.roundOf (Sp.behindL Sp.q0.next) 0 = [0, 1] := by decide +kernel
/-- A net of literals in a block of its own. -/
theorem lit_net (w : World) (N : Int) (t n c : List Int) (a b d : Nat) (ht : t.length = a) (hn : n.length = b) (hc : c.length = d) (hs : t.length ≤ 1000 ∧ n.length ≤ 1000 ∧ c.length ≤ 1000) (w' : World)
    (hb : Below (w.heap.size + 4) ((((w.alloc (.cells (t.map (Value.int .i64)).toArray 3)).alloc (.cells (n.map (Value.int .i64)).toArray 3)).alloc (.cells (c.map (Value.int .i64)).toArray 3)).alloc (.cells #[.int .i64 N, .slice (some ⟨w.heap.size, 0, none⟩) a a, .slice (some ⟨w.heap.size + 1, 0, none⟩) b b, .slice (some ⟨w.heap.size + 1 + 1, 0, none⟩) d d] 25)) w') :
    NetI w' (.agg #[.int .i64 N, .slice (some ⟨w.heap.size, 0, none⟩) a a, .slice (some ⟨w.heap.size + 1, 0, none⟩) b b, .slice (some ⟨w.heap.size + 1 + 1, 0, none⟩) d d]) ⟨N, t, n, c⟩ (.slice (some ⟨w.heap.size, 0, none⟩) a a) (.slice (some ⟨w.heap.size + 1, 0, none⟩) b b) (.slice (some ⟨w.heap.size + 1 + 1, 0, none⟩) d d) ∧
    Below w.heap.size w w' ∧ w.heap.size + 4 ≤ w'.heap.size ∧ w'.cell? ⟨w.heap.size + 1 + 1 + 1, 0, none⟩ = some (.int .i64 N) ∧ w'.cell? ⟨w.heap.size + 1 + 1 + 1, 1, none⟩ = some (.slice (some ⟨w.heap.size, 0, none⟩) a a) ∧ w'.cell? ⟨w.heap.size + 1 + 1 + 1, 2, none⟩ = some (.slice (some ⟨w.heap.size + 1, 0, none⟩) b b) ∧ w'.cell? ⟨w.heap.size + 1 + 1 + 1, 3, none⟩ = some (.slice (some ⟨w.heap.size + 1 + 1, 0, none⟩) d d) := by
  have o1 := own_lit w w.heap.size w.heap.size a t rfl ht (Nat.le_refl _) (by omega)
  generalize hA : w.alloc (.cells (t.map (Value.int .i64)).toArray 3) = A at *
  have sA : A.heap.size = w.heap.size + 1 := by rw [← hA]; simp
  have bA : Below w.heap.size w A := by rw [← hA]; exact (Below.refl _ w).alloc (Nat.le_refl _) _
  have o2 := own_lit A w.heap.size (w.heap.size + 1) b n sA hn (by omega) (by omega)
  have o1' := World.ownsRow.alloc o1 (.cells (n.map (Value.int .i64)).toArray 3)
  generalize hB : A.alloc (.cells (n.map (Value.int .i64)).toArray 3) = B at *
  have sB : B.heap.size = w.heap.size + 1 + 1 := by rw [← hB, World.size_alloc, sA]
  have bB : Below w.heap.size w B := by rw [← hB]; exact bA.alloc (by omega) _
  have o3 := own_lit B w.heap.size (w.heap.size + 1 + 1) d c sB hc (by omega) (by omega)
  have o1'' := World.ownsRow.alloc o1' (.cells (c.map (Value.int .i64)).toArray 3)
  have o2' := World.ownsRow.alloc o2 (.cells (c.map (Value.int .i64)).toArray 3)
  generalize hC : B.alloc (.cells (c.map (Value.int .i64)).toArray 3) = C at *
  have sC : C.heap.size = w.heap.size + 1 + 1 + 1 := by rw [← hC, World.size_alloc, sB]
  have bC : Below w.heap.size w C := by rw [← hC]; exact bB.alloc (by omega) _
  obtain ⟨k0, k1, k2, k3⟩ := net_new C (.int .i64 N) (.slice (some ⟨w.heap.size, 0, none⟩) a a) (.slice (some ⟨w.heap.size + 1, 0, none⟩) b b) (.slice (some ⟨w.heap.size + 1 + 1, 0, none⟩) d d) 25
  rw [sC] at k0 k1 k2 k3
  have p1 := World.ownsRow.alloc o1'' (.cells #[.int .i64 N, .slice (some ⟨w.heap.size, 0, none⟩) a a, .slice (some ⟨w.heap.size + 1, 0, none⟩) b b, .slice (some ⟨w.heap.size + 1 + 1, 0, none⟩) d d] 25)
  have p2 := World.ownsRow.alloc o2' (.cells #[.int .i64 N, .slice (some ⟨w.heap.size, 0, none⟩) a a, .slice (some ⟨w.heap.size + 1, 0, none⟩) b b, .slice (some ⟨w.heap.size + 1 + 1, 0, none⟩) d d] 25)
  have p3 := World.ownsRow.alloc o3 (.cells #[.int .i64 N, .slice (some ⟨w.heap.size, 0, none⟩) a a, .slice (some ⟨w.heap.size + 1, 0, none⟩) b b, .slice (some ⟨w.heap.size + 1 + 1, 0, none⟩) d d] 25)
  have bD : Below w.heap.size w (C.alloc (.cells #[.int .i64 N, .slice (some ⟨w.heap.size, 0, none⟩) a a, .slice (some ⟨w.heap.size + 1, 0, none⟩) b b, .slice (some ⟨w.heap.size + 1 + 1, 0, none⟩) d d] 25)) := bC.alloc (by omega) _
  have sD : (C.alloc (.cells #[.int .i64 N, .slice (some ⟨w.heap.size, 0, none⟩) a a, .slice (some ⟨w.heap.size + 1, 0, none⟩) b b, .slice (some ⟨w.heap.size + 1 + 1, 0, none⟩) d d] 25)).heap.size = w.heap.size + 4 := by rw [World.size_alloc, sC]
  generalize C.alloc (.cells #[.int .i64 N, .slice (some ⟨w.heap.size, 0, none⟩) a a, .slice (some ⟨w.heap.size + 1, 0, none⟩) b b, .slice (some ⟨w.heap.size + 1 + 1, 0, none⟩) d d] 25) = D at *
  have hb' : Below D.heap.size D w' := by rw [sD]; exact hb
  have hsz := hb.size
  exact ⟨⟨rfl, (OwnI.ints p1).below hb', (OwnI.ints p2).below hb', (OwnI.ints p3).below hb'⟩, bD.trans (hb.mono (by omega)), by omega,
    (hb.cell (by show w.heap.size + 1 + 1 + 1 < _; omega)).trans k0, (hb.cell (by show w.heap.size + 1 + 1 + 1 < _; omega)).trans k1, (hb.cell (by show w.heap.size + 1 + 1 + 1 < _; omega)).trans k2, (hb.cell (by show w.heap.size + 1 + 1 + 1 < _; omega)).trans k3⟩
theorem net_field0 (a b c d : Value) (w : World) : (Instr.field 25 (.agg #[a, b, c, d]) 0).run Try.prog w = .ok a w := by
  simp [Instr.field, run_underlying Try.underlying25, go_sem]
  rfl
theorem ints_nil (w : World) : Ints w (.slice none 0 0) [] := ⟨none, 0, rfl, by simp, by unfold maxLen; omega, fun k hk => by simp at hk⟩
set_option maxRecDepth 100000 in
set_option maxHeartbeats 2000000 in
theorem known2_any (w : World) :
    Calls Try.prog 9 #[] w fun e w' => e = .returned (.bool true) ∧ Below w.heap.size w w' := by
  have HL := hide (lit_net w 2 [0, 1] [0, 1] [5, 3] 2 2 2 rfl rfl rfl (by simp))
  obtain ⟨P, hP⟩ : ∃ P : Ending → World → Prop, P = fun e w' => e = .returned (.bool true) ∧ Below w.heap.size w w' := ⟨_, rfl⟩
  rw [← hP]
  have HP := hide hP
  clear hP
  go_enter Try.func9, Try.ntmps9
  go_wp2_with fail
  have hWW : ((((w.alloc (.cells #[.int .i64 0, .int .i64 1] 3)).alloc (.cells #[.int .i64 0, .int .i64 1] 3)).alloc (.cells #[.int .i64 5, .int .i64 3] 3)).alloc (.cells #[.int .i64 2, .slice (some ⟨w.heap.size, 0, none⟩) 2 2, .slice (some ⟨w.heap.size + 1, 0, none⟩) 2 2, .slice (some ⟨w.heap.size + 1 + 1, 0, none⟩) 2 2] 25)) = ((((w.alloc (.cells (([0, 1] : List Int).map (Value.int .i64)).toArray 3)).alloc (.cells (([0, 1] : List Int).map (Value.int .i64)).toArray 3)).alloc (.cells (([5, 3] : List Int).map (Value.int .i64)).toArray 3)).alloc (.cells #[.int .i64 2, .slice (some ⟨w.heap.size, 0, none⟩) 2 2, .slice (some ⟨w.heap.size + 1, 0, none⟩) 2 2, .slice (some ⟨w.heap.size + 1 + 1, 0, none⟩) 2 2] 25)) := rfl
  rw [← hWW] at HL
  clear hWW
  have hs4 : ((((w.alloc (.cells #[.int .i64 0, .int .i64 1] 3)).alloc (.cells #[.int .i64 0, .int .i64 1] 3)).alloc (.cells #[.int .i64 5, .int .i64 3] 3)).alloc (.cells #[.int .i64 2, .slice (some ⟨w.heap.size, 0, none⟩) 2 2, .slice (some ⟨w.heap.size + 1, 0, none⟩) 2 2, .slice (some ⟨w.heap.size + 1 + 1, 0, none⟩) 2 2] 25)).heap.size = w.heap.size + 4 := by simp
  generalize ((((w.alloc (.cells #[.int .i64 0, .int .i64 1] 3)).alloc (.cells #[.int .i64 0, .int .i64 1] 3)).alloc (.cells #[.int .i64 5, .int .i64 3] 3)).alloc (.cells #[.int .i64 2, .slice (some ⟨w.heap.size, 0, none⟩) 2 2, .slice (some ⟨w.heap.size + 1, 0, none⟩) 2 2, .slice (some ⟨w.heap.size + 1 + 1, 0, none⟩) 2 2] 25)) = W4 at *
  have HT : Hid (∀ w2 w3, Below (w.heap.size + 4) W4 w2 → Below w2.heap.size w2 w3 → Below (w.heap.size + 4) W4 w3) := hide fun w2 w3 h2 h3 => h2.trans (h3.mono (unhide HL w2 h2).2.2.1)
  have hb4 : Below (w.heap.size + 4) W4 W4 := Below.refl _ _
  go_at_call 15
  refine (faces_any Sp.q0 _ _ _ _ W4 (unhide HL W4 hb4).1 q0_walk).mono ?_
  rw [q0_faces.1, q0_faces.2]
  rintro e w5 ⟨fv, rfl, hf5, hb5⟩
  replace hb5 := unhide HT _ _ hb4 hb5
  obtain ⟨fa, fc, rfl, -, -⟩ := hf5.ints.form
  obtain ⟨x0, x1, x2, x3⟩ := (unhide HL w5 hb5).2.2.2
  have Hb5 := hide hb5
  clear hf5 hb5 hb4 hs4
  go_wp2_with fail
  go_at_call 17
  refine (parts_any Sp.q0 _ _ _ _ w5 (unhide HL w5 (unhide Hb5)).1 q0_walk).mono ?_
  rw [q0_pieces]
  rintro e w6 ⟨pv, rfl, hp6, hb6⟩
  replace hb6 := unhide HT _ _ (unhide Hb5) hb6
  obtain ⟨pa, pc, rfl, -, -⟩ := hp6.ints.form
  clear x0 x1 x2 x3
  have Hb6 := hide hb6
  have HX : Hid (∀ w', Below (w.heap.size + 4) W4 w' → w'.cell? ⟨w.heap.size + 1 + 1 + 1, 0, none⟩ = some (.int .i64 2) ∧ w'.cell? ⟨w.heap.size + 1 + 1 + 1, 1, none⟩ = some (.slice (some ⟨w.heap.size, 0, none⟩) 2 2) ∧ w'.cell? ⟨w.heap.size + 1 + 1 + 1, 2, none⟩ = some (.slice (some ⟨w.heap.size + 1, 0, none⟩) 2 2) ∧ w'.cell? ⟨w.heap.size + 1 + 1 + 1, 3, none⟩ = some (.slice (some ⟨w.heap.size + 1 + 1, 0, none⟩) 2 2)) := hide fun w' hb => (unhide HL w' hb).2.2.2
  clear hp6 hb6
  have hb6 := unhide Hb6
  go_wp2
  have HA : Hid (∀ w', Below (w.heap.size + 4) W4 w' → Calls Try.prog 25 #[.agg #[.int .i64 2, .slice (some ⟨w.heap.size, 0, none⟩) 2 2, .slice (some ⟨w.heap.size + 1, 0, none⟩) 2 2, .slice (some ⟨w.heap.size + 1 + 1, 0, none⟩) 2 2], .int .i64 1] w' fun e w'' => ∃ a c, e = .returned (.slice a 1 c) ∧ Below (w.heap.size + 4) W4 w'') := by
    refine hide fun w' hb => (about_any Sp.q0 _ _ _ _ 1 w' (unhide HL w' hb).1 q0_walk).mono ?_
    rw [q0_about]
    rintro e w'' ⟨rv, rfl, hm, hb'⟩
    obtain ⟨a, c, rfl, -, -⟩ := hm.ints.form
    exact ⟨a, c, rfl, unhide HT _ _ hb hb'⟩
  have HFc : Hid (∀ w', Below (w.heap.size + 4) W4 w' → Calls Try.prog 27 #[.agg #[.int .i64 2, .slice (some ⟨w.heap.size, 0, none⟩) 2 2, .slice (some ⟨w.heap.size + 1, 0, none⟩) 2 2, .slice (some ⟨w.heap.size + 1 + 1, 0, none⟩) 2 2], .int .i64 0] w' fun e w'' => ∃ a c, e = .returned (.slice a 2 c) ∧ Below (w.heap.size + 4) W4 w'') := by
    refine hide fun w' hb => (face_any Sp.q0 _ _ _ _ 0 w' (unhide HL w' hb).1 q0_walk).mono ?_
    rw [q0_face]
    rintro e w'' ⟨rv, rfl, hm, hb'⟩
    obtain ⟨a, c, rfl, -, -⟩ := hm.ints.form
    exact ⟨a, c, rfl, unhide HT _ _ hb hb'⟩
  go_region_held3 (fun w' => w'.cell? ⟨w.heap.size + 1 + 1 + 1, 0, none⟩ = some (.int .i64 2) ∧ w'.cell? ⟨w.heap.size + 1 + 1 + 1, 1, none⟩ = some (.slice (some ⟨w.heap.size, 0, none⟩) 2 2) ∧ w'.cell? ⟨w.heap.size + 1 + 1 + 1, 2, none⟩ = some (.slice (some ⟨w.heap.size + 1, 0, none⟩) 2 2) ∧ w'.cell? ⟨w.heap.size + 1 + 1 + 1, 3, none⟩ = some (.slice (some ⟨w.heap.size + 1 + 1, 0, none⟩) 2 2))
    (first
      | exact unhide HX _ hb8
      | exact unhide HX _ hb7
      | exact unhide HX _ hb6.drew)
    (first
      | (go_at_call 27
         refine (unhide HFc _ hb7).mono ?_
         rintro e w8 ⟨a8, c8, rfl, hb8⟩)
      | (go_at_call 25
         refine (unhide HA _ hb6.drew).mono ?_
         rintro e w7 ⟨a7, c7, rfl, hb7⟩))
  all_goals
    obtain ⟨x0, x1, x2, x3⟩ := unhide HX w8 hb8
    have Hb8 := hide hb8
    clear hb8 hb7 hb6
    go_wp2_with fail
    go_at_call 12
    refine (check_any Sp.q1 _ _ _ _ w8 ⟨rfl, ints_nil _, ints_nil _, ints_nil _⟩ (by decide) (by decide)).mono ?_
    rw [q1_check]
    rintro e w9 ⟨rfl, hb9⟩
    replace hb9 := unhide HT _ _ (unhide Hb8) hb9
    clear x0 x1 x2 x3
    obtain ⟨x0, x1, x2, x3⟩ := unhide HX w9 hb9
    have Hb9 := hide hb9
    clear hb9
    go_wp2_with fail
    go_at_call 12
    refine (check_any Sp.q0 _ _ _ _ w9 (unhide HL w9 (unhide Hb9)).1 (by decide) (by decide)).mono ?_
    rw [q0_check]
    rintro e w10 ⟨rfl, hb10⟩
    replace hb10 := unhide HT _ _ (unhide Hb9) hb10
    clear x0 x1 x2 x3
    obtain ⟨x0, x1, x2, x3⟩ := unhide HX w10 hb10
    have Hb10 := hide hb10
    clear hb10
    go_wp2_with fail
    go_at_call 23
    refine (head_any' Sp.q0 _ _ _ _ 0 w10 (unhide HL w10 (unhide Hb10)).1 (by decide) (by decide) (by decide)).mono ?_
    rw [show Sp.q0.tail.getD (Sp.oth 0) 0 = 1 by decide]
    rintro e w11 ⟨rfl, hb11⟩
    replace hb11 := unhide HT _ _ (unhide Hb10) hb11
    clear x0 x1 x2 x3
    obtain ⟨x0, x1, x2, x3⟩ := unhide HX w11 hb11
    have Hb11 := hide hb11
    clear hb11
    go_wp2_with fail
    go_at_call 21
    refine (rturn_any Sp.q0 _ _ _ _ w11 (unhide HL w11 (unhide Hb11)).1 q0_walk).mono ?_
    rintro e w12 ⟨tv, nv, cv, rfl, ht12, hn12, hc12, hb12⟩
    obtain ⟨ta12, tc12, rfl, -, -⟩ := ht12.ints.form
    obtain ⟨na12, nc12, rfl, -, -⟩ := hn12.ints.form
    obtain ⟨ca12, cc12, rfl, -, -⟩ := hc12.ints.form
    clear ht12 hn12 hc12
    replace hb12 := unhide HT _ _ (unhide Hb11) hb12
    have Hb12 := hide (unhide HL w12 hb12).2.1
    have hq2 : Sp.q0.n = 2 := rfl
    rw [hq2]
    clear x0 x1 x2 x3 hb12 hq2
    have hfld := net_field0
    go_wp2
    rw [unhide HP]
    exact ⟨rfl, unhide Hb12⟩
end Go.Proofs.Ytcdpgiklmonabaa


/- The law RotHeads, walked. -/
namespace Go.Proofs.Ytcdpgiklmonabaa
open Go Go.RowKit

theorem Sp.plane_ok (ns : List Int) : Sp.PlaneQ (Sp.plane ns) 24 := by
  have h := Sp.planeN_ok ns (min ns.length 24)
  exact ⟨h.ev, by have := h.le; unfold Sp.plane; omega, h.n0, by have := h.n1; unfold Sp.plane; omega, h.nx, h.cp, h.pm, h.tb, h.cb, h.tn⟩
end Go.Proofs.Ytcdpgiklmonabaa


/- Rounds of a function, by labels: how many there are; what a new place, and two images exchanged, do to them. -/
namespace Go.Proofs.Ytcdpgiklmonabaa
open Go Go.RowKit

def itf (f : Nat → Nat) (i : Nat) : Nat → Nat
  | 0 => i
  | m + 1 => f (itf f i m)
theorem itf_add (f : Nat → Nat) (i m : Nat) : ∀ n, itf f i (m + n) = itf f (itf f i m) n
  | 0 => rfl
  | n + 1 => by show f (itf f i (m + n)) = f (itf f (itf f i m) n); rw [itf_add f i m n]
theorem itf_one (f : Nat → Nat) (i n : Nat) : itf f i (n + 1) = itf f (f i) n := by
  rw [Nat.add_comm, itf_add]; rfl
def OrbF (f : Nat → Nat) (i j : Nat) : Prop := ∃ m, itf f i m = j
theorem OrbF.refl (f : Nat → Nat) (i : Nat) : OrbF f i i := ⟨0, rfl⟩
theorem OrbF.trans {f : Nat → Nat} {i j k : Nat} (h1 : OrbF f i j) (h2 : OrbF f j k) : OrbF f i k := by
  obtain ⟨a, rfl⟩ := h1
  obtain ⟨b, rfl⟩ := h2
  exact ⟨a + b, itf_add f i a b⟩
theorem OrbF.one (f : Nat → Nat) (i : Nat) : OrbF f i (f i) := ⟨1, rfl⟩
structure PermF (L : Nat) (f : Nat → Nat) : Prop where
  mp : ∀ i, i < L → f i < L
  inj : ∀ i j, i < L → j < L → f i = f j → i = j
theorem PermF.it {L : Nat} {f : Nat → Nat} (h : PermF L f) {i : Nat} (hi : i < L) : ∀ m, itf f i m < L
  | 0 => hi
  | m + 1 => h.mp _ (h.it hi m)
/-- Labels that tell a function's rounds apart, k of them. -/
structure Cls (L : Nat) (f lab : Nat → Nat) (k : Nat) : Prop where
  lt : ∀ i, i < L → lab i < k
  on : ∀ c, c < k → ∃ i, i < L ∧ lab i = c
  inv : ∀ i, i < L → lab (f i) = lab i
  sep : ∀ i j, i < L → j < L → lab i = lab j → OrbF f i j
theorem Cls.along {L : Nat} {f lab : Nat → Nat} {k : Nat} (h : Cls L f lab k) (hp : ∀ i, i < L → f i < L) {i : Nat} (hi : i < L) : ∀ m, itf f i m < L ∧ lab (itf f i m) = lab i
  | 0 => ⟨hi, rfl⟩
  | m + 1 => by
    obtain ⟨h1, h2⟩ := h.along hp hi m
    exact ⟨hp _ h1, by show lab (f (itf f i m)) = _; rw [h.inv _ h1, h2]⟩
theorem Cls.orb {L : Nat} {f lab : Nat → Nat} {k : Nat} (h : Cls L f lab k) (hp : ∀ i, i < L → f i < L) {i j : Nat} (hi : i < L) (ho : OrbF f i j) : lab i = lab j := by
  obtain ⟨m, rfl⟩ := ho
  exact (h.along hp hi m).2.symm
theorem Cls.le {L : Nat} {f lab lab' : Nat → Nat} {k k' : Nat} (hp : ∀ i, i < L → f i < L) (h : Cls L f lab k) (h' : Cls L f lab' k') : k ≤ k' := by
  have hc : ∀ c, ∃ i, c < k → i < L ∧ lab i = c := fun c => by
    by_cases h0 : c < k
    · obtain ⟨i, h1⟩ := h.on c h0
      exact ⟨i, fun _ => h1⟩
    · exact ⟨0, fun h1 => absurd h1 h0⟩
  obtain ⟨g, hg⟩ := Classical.axiomOfChoice hc
  have := nodup_le k' ((List.range k).map fun c => ((lab' (g c) : Nat) : Int)) (by
    unfold List.Nodup
    rw [List.pairwise_map, List.pairwise_iff_getElem]
    intro i j hi hj hij e
    rw [List.length_range] at hi hj
    rw [List.getElem_range, List.getElem_range] at e
    obtain ⟨a1, a2⟩ := hg i hi
    obtain ⟨b1, b2⟩ := hg j hj
    have h3 := h.orb hp a1 (h'.sep _ _ a1 b1 (by omega))
    omega) (fun x hx => by
    obtain ⟨c, h1, rfl⟩ := List.mem_map.1 hx
    have h2 := h'.lt _ (hg c (List.mem_range.1 h1)).1
    exact ⟨by omega, by omega⟩)
  rw [List.length_map, List.length_range] at this
  exact this
theorem Cls.count {L : Nat} {f lab lab' : Nat → Nat} {k k' : Nat} (hp : ∀ i, i < L → f i < L) (h : Cls L f lab k) (h' : Cls L f lab' k') : k = k' := Nat.le_antisymm (h.le hp h') (h'.le hp h)
theorem Cls.congr {L : Nat} {f f' lab lab' : Nat → Nat} {k : Nat} (h : Cls L f lab k) (hp : ∀ i, i < L → f i < L) (hf : ∀ i, i < L → f' i = f i) (hl : ∀ i, i < L → lab' i = lab i) : Cls L f' lab' k := by
  refine ⟨fun i hi => by rw [hl i hi]; exact h.lt i hi, fun c hc => ?_, fun i hi => by rw [hf i hi, hl i hi, hl _ (hp i hi)]; exact h.inv i hi, fun i j hi hj e => ?_⟩
  · obtain ⟨i, h1, h2⟩ := h.on c hc
    exact ⟨i, h1, by rw [hl i h1]; exact h2⟩
  · rw [hl i hi, hl j hj] at e
    obtain ⟨m, hm⟩ := h.sep i j hi hj e
    refine ⟨m, ?_⟩
    rw [← hm]
    clear hm
    induction m with
    | zero => rfl
    | succ m ih =>
      show f' (itf f' i m) = f (itf f i m)
      rw [ih]
      exact hf _ (h.along hp hi m).1
/-- A new place behind u. -/
def insF (L u : Nat) (f : Nat → Nat) (x : Nat) : Nat := if x = u then L else if x = L then f u else f x
theorem insF_perm {L u : Nat} {f : Nat → Nat} (h : PermF L f) (hu : u < L) : PermF (L + 1) (insF L u f) := by
  refine ⟨fun i hi => ?_, fun i j hi hj e => ?_⟩
  · unfold insF
    have := h.mp u hu
    split
    · omega
    · split
      · omega
      · have := h.mp i (by omega); omega
  · unfold insF at e
    have h0 := h.mp u hu
    by_cases h1 : i = u <;> by_cases h2 : j = u
    · omega
    · rw [if_pos h1, if_neg h2] at e
      by_cases h3 : j = L
      · rw [if_pos h3] at e; omega
      · rw [if_neg h3] at e; have := h.mp j (by omega); omega
    · rw [if_neg h1, if_pos h2] at e
      by_cases h3 : i = L
      · rw [if_pos h3] at e; omega
      · rw [if_neg h3] at e; have := h.mp i (by omega); omega
    · rw [if_neg h1, if_neg h2] at e
      by_cases h3 : i = L <;> by_cases h4 : j = L
      · omega
      · rw [if_pos h3, if_neg h4] at e; have := h.inj u j hu (by omega) e; omega
      · rw [if_neg h3, if_pos h4] at e; have := h.inj i u (by omega) hu e; omega
      · rw [if_neg h3, if_neg h4] at e; exact h.inj i j (by omega) (by omega) e
theorem insF_orb {L u : Nat} {f : Nat → Nat} (hp : ∀ i, i < L → f i < L) (hu : u < L) {i : Nat} (hi : i < L) : ∀ m, OrbF (insF L u f) i (itf f i m)
  | 0 => OrbF.refl _ _
  | m + 1 => by
    refine (insF_orb hp hu hi m).trans ?_
    have hb : itf f i m < L := by
      induction m with
      | zero => exact hi
      | succ m ih => exact hp _ ih
    show OrbF _ _ (f (itf f i m))
    generalize itf f i m = x at *
    by_cases hx : x = u
    · refine ⟨2, ?_⟩
      show insF L u f (insF L u f x) = f x
      have e1 : insF L u f x = L := by unfold insF; rw [if_pos hx]
      rw [e1]
      unfold insF
      rw [if_neg (by omega), if_pos rfl, hx]
    · refine ⟨1, ?_⟩
      show insF L u f x = f x
      unfold insF
      rw [if_neg hx, if_neg (by omega)]
theorem Cls.ins {L u : Nat} {f lab : Nat → Nat} {k : Nat} (h : Cls L f lab k) (hp : ∀ i, i < L → f i < L) (hu : u < L) : Cls (L + 1) (insF L u f) (fun x => if x = L then lab u else lab x) k := by
  have hlab : ∀ x, x < L → (if x = L then lab u else lab x) = lab x := fun x hx => if_neg (by omega)
  have o1 : ∀ i j, i < L → j < L → lab i = lab j → OrbF (insF L u f) i j := fun i j hi hj e => by
    obtain ⟨m, rfl⟩ := h.sep i j hi hj e
    exact insF_orb hp hu hi m
  have oL : OrbF (insF L u f) L (f u) := ⟨1, by show insF L u f L = _; unfold insF; rw [if_neg (by omega), if_pos rfl]⟩
  have ou : OrbF (insF L u f) u L := ⟨1, by show insF L u f u = _; unfold insF; rw [if_pos rfl]⟩
  have hfu := hp u hu
  refine ⟨fun i hi => ?_, fun c hc => ?_, fun i hi => ?_, fun i j hi hj e => ?_⟩
  · show (if i = L then lab u else lab i) < k
    split
    · exact h.lt u hu
    · exact h.lt i (by omega)
  · obtain ⟨i, h1, h2⟩ := h.on c hc
    exact ⟨i, by omega, (hlab i h1).trans h2⟩
  · show (if insF L u f i = L then lab u else lab (insF L u f i)) = if i = L then lab u else lab i
    by_cases h1 : i = u
    · have e1 : insF L u f i = L := by unfold insF; rw [if_pos h1]
      rw [e1, if_pos rfl, if_neg (by omega), h1]
    · by_cases h2 : i = L
      · have e1 : insF L u f i = f u := by unfold insF; rw [if_neg h1, if_pos h2]
        rw [e1, if_neg (by omega), if_pos h2, h.inv u hu]
      · have e1 : insF L u f i = f i := by unfold insF; rw [if_neg h1, if_neg h2]
        have := hp i (by omega)
        rw [e1, if_neg (by omega), if_neg h2, h.inv i (by omega)]
  · have e' : (if i = L then lab u else lab i) = if j = L then lab u else lab j := e
    by_cases h1 : i = L <;> by_cases h2 : j = L
    · rw [h1, h2]; exact OrbF.refl _ _
    · rw [if_pos h1, if_neg h2] at e'
      rw [h1]
      exact oL.trans (o1 _ _ hfu (by omega) (by rw [h.inv u hu]; exact e'))
    · rw [if_neg h1, if_pos h2] at e'
      rw [h2]
      exact (o1 _ _ (by omega) hu e').trans ou
    · rw [if_neg h1, if_neg h2] at e'
      exact o1 _ _ (by omega) (by omega) e'
/-- A new place that is its own next one. -/
def fixF (L : Nat) (f : Nat → Nat) (x : Nat) : Nat := if x = L then L else f x
theorem Cls.fix {L : Nat} {f lab : Nat → Nat} {k : Nat} (h : Cls L f lab k) (hp : ∀ i, i < L → f i < L) : Cls (L + 1) (fixF L f) (fun x => if x = L then k else lab x) (k + 1) := by
  have it : ∀ i, i < L → ∀ m, itf (fixF L f) i m = itf f i m := by
    intro i hi m
    induction m with
    | zero => rfl
    | succ m ih =>
      show fixF L f (itf (fixF L f) i m) = f (itf f i m)
      rw [ih]
      unfold fixF
      rw [if_neg (by have := (h.along hp hi m).1; omega)]
  refine ⟨fun i hi => ?_, fun c hc => ?_, fun i hi => ?_, fun i j hi hj e => ?_⟩
  · show (if i = L then k else lab i) < k + 1
    split
    · omega
    · have := h.lt i (by omega); omega
  · by_cases hk : c = k
    · exact ⟨L, by omega, by show (if L = L then k else lab L) = c; rw [if_pos rfl, hk]⟩
    · obtain ⟨i, h1, h2⟩ := h.on c (by omega)
      exact ⟨i, by omega, by show (if i = L then k else lab i) = c; rw [if_neg (by omega)]; exact h2⟩
  · show (if fixF L f i = L then k else lab (fixF L f i)) = if i = L then k else lab i
    by_cases h2 : i = L
    · have e1 : fixF L f i = L := by unfold fixF; rw [if_pos h2]
      rw [e1, if_pos rfl, if_pos h2]
    · have e1 : fixF L f i = f i := by unfold fixF; rw [if_neg h2]
      have := hp i (by omega)
      rw [e1, if_neg (by omega), if_neg h2, h.inv i (by omega)]
  · have e' : (if i = L then k else lab i) = if j = L then k else lab j := e
    by_cases h1 : i = L <;> by_cases h2 : j = L
    · rw [h1, h2]; exact OrbF.refl _ _
    · rw [if_pos h1, if_neg h2] at e'; have := h.lt j (by omega); omega
    · rw [if_neg h1, if_pos h2] at e'; have := h.lt i (by omega); omega
    · rw [if_neg h1, if_neg h2] at e'
      obtain ⟨m, hm⟩ := h.sep i j (by omega) (by omega) e'
      exact ⟨m, by rw [it i (by omega)]; exact hm⟩
end Go.Proofs.Ytcdpgiklmonabaa


/- Two images of one round exchanged: the round falls in two. -/
namespace Go.Proofs.Ytcdpgiklmonabaa
open Go Go.RowKit

def swpF (u v : Nat) (f : Nat → Nat) (x : Nat) : Nat := if x = u then f v else if x = v then f u else f x
theorem swpF_perm {L u v : Nat} {f : Nat → Nat} (h : PermF L f) (hu : u < L) (hv : v < L) : PermF L (swpF u v f) := by
  have key : ∀ x, swpF u v f x = f (if x = u then v else if x = v then u else x) := fun x => by
    unfold swpF
    by_cases h1 : x = u
    · rw [if_pos h1, if_pos h1]
    · rw [if_neg h1, if_neg h1]
      by_cases h2 : x = v
      · rw [if_pos h2, if_pos h2]
      · rw [if_neg h2, if_neg h2]
  have kb : ∀ x, x < L → (if x = u then v else if x = v then u else x) < L := fun x hx => by split <;> (try split) <;> assumption
  refine ⟨fun i hi => by rw [key]; exact h.mp _ (kb i hi), fun i j hi hj e => ?_⟩
  rw [key, key] at e
  have := h.inj _ _ (kb i hi) (kb j hj) e
  split at this <;> split at this <;> (try split at this) <;> (try split at this) <;> omega
theorem Cls.split {L u v : Nat} {f lab : Nat → Nat} {k : Nat} (h : Cls L f lab k) (hp : PermF L f) (hu : u < L) (hv : v < L) (huv : u ≠ v) (ho : OrbF f u v) :
    ∃ lab', Cls L (swpF u v f) lab' (k + 1) := by
  obtain ⟨m, hm⟩ := ho
  obtain ⟨m1, hm1⟩ : ∃ m1, itf f (f u) m1 = v := by
    cases m with
    | zero => exact absurd hm huv
    | succ m => exact ⟨m, by rw [← itf_one]; exact hm⟩
  obtain ⟨m0, h0, hmin⟩ := least_of (p := fun m => itf f (f u) m = v) ⟨m1, hm1⟩
  clear hm hm1 m m1
  have hfu := hp.mp u hu
  have hfv := hp.mp v hv
  -- u is not on the way
  have huB : ∀ m, m ≤ m0 → itf f (f u) m ≠ u := fun m hm e => by
    have hlt : m < m0 := by
      rcases Nat.lt_or_ge m m0 with h1 | h1
      · exact h1
      · have : m = m0 := by omega
        rw [this, h0] at e; omega
    have e2 : itf f (f u) (m + 1) = f u := by show f (itf f (f u) m) = _; rw [e]
    have e3 : itf f (f u) (m0 - m - 1) = v := by
      rw [← h0]
      have : m0 = (m + 1) + (m0 - m - 1) := by omega
      conv => rhs; rw [this, itf_add, e2]
    have := hmin _ e3
    omega
  have hvB : ∀ m, m < m0 → itf f (f u) m ≠ v := fun m hm e => by have := hmin _ e; omega
  let B : Nat → Prop := fun x => ∃ m, m ≤ m0 ∧ itf f (f u) m = x
  have bu : ¬ B u := fun ⟨m, h1, h2⟩ => huB m h1 h2
  have bv : B v := ⟨m0, Nat.le_refl _, h0⟩
  have bfu : B (f u) := ⟨0, Nat.zero_le _, rfl⟩
  have bL : ∀ x, B x → x < L := fun x ⟨m, _, h2⟩ => by rw [← h2]; exact hp.it hfu m
  have bfwd : ∀ x, B x → x ≠ v → B (f x) := fun x ⟨m, h1, h2⟩ hx => by
    have : m ≠ m0 := fun e => by rw [e, h0] at h2; exact hx h2.symm
    exact ⟨m + 1, by omega, by show f (itf f (f u) m) = _; rw [h2]⟩
  have bback : ∀ x, x < L → x ≠ u → B (f x) → B x ∧ x ≠ v := fun x hx hxu ⟨m, h1, h2⟩ => by
    cases m with
    | zero => exact absurd (hp.inj x u hx hu h2.symm) hxu
    | succ m =>
      have e : itf f (f u) m = x := hp.inj _ _ (hp.it hfu m) hx h2
      exact ⟨⟨m, by omega, e⟩, fun ex => hvB m (by omega) (by rw [e, ex])⟩
  have bfv : ¬ B (f v) := fun hb => (bback v hv huv.symm hb).2 rfl
  have blab : ∀ x, B x → lab x = lab u := fun x ⟨m, _, h2⟩ => by
    rw [← h2, (h.along hp.mp hfu m).2, h.inv u hu]
  have su : swpF u v f u = f v := by unfold swpF; rw [if_pos rfl]
  have sv : swpF u v f v = f u := by unfold swpF; rw [if_neg huv.symm, if_pos rfl]
  have so : ∀ x, x ≠ u → x ≠ v → swpF u v f x = f x := fun x h1 h2 => by unfold swpF; rw [if_neg h1, if_neg h2]
  -- along B the two functions go the same way
  have same : ∀ m, m ≤ m0 → itf (swpF u v f) (f u) m = itf f (f u) m := by
    intro m
    induction m with
    | zero => intro _; rfl
    | succ m ih =>
      intro hm
      show swpF u v f (itf (swpF u v f) (f u) m) = f (itf f (f u) m)
      rw [ih (by omega)]
      exact so _ (huB m (by omega)) (hvB m (by omega))
  have inB : ∀ x y, B x → B y → OrbF (swpF u v f) x y := fun x y ⟨a, ha, hx⟩ ⟨b, hb, hy⟩ => by
    have o1 : OrbF (swpF u v f) x v := ⟨m0 - a, by
      have e1 : itf (swpF u v f) (f u) a = x := by rw [same a ha, hx]
      rw [← e1, ← itf_add, show a + (m0 - a) = m0 by omega, same m0 (Nat.le_refl _), h0]⟩
    have o2 : OrbF (swpF u v f) v (f u) := ⟨1, sv⟩
    have o3 : OrbF (swpF u v f) (f u) y := ⟨b, by rw [same b hb, hy]⟩
    exact (o1.trans o2).trans o3
  have outB : ∀ n x, x < L → ¬ B x → ¬ B (itf f x n) → OrbF (swpF u v f) x (itf f x n) := by
    intro n
    induction n using Nat.strongRecOn with
    | _ n ih =>
      intro x hx hbx hbn
      cases n with
      | zero => exact OrbF.refl _ _
      | succ n =>
        rw [itf_one] at hbn ⊢
        have hxv : x ≠ v := fun e => hbx (e ▸ bv)
        by_cases hxu : x = u
        · subst hxu
          have hn : m0 < n := by
            rcases Nat.lt_or_ge m0 n with h1 | h1
            · exact h1
            · exact absurd ⟨n, h1, rfl⟩ hbn
          have e1 : itf f (f x) n = itf f (f v) (n - m0 - 1) := by
            have : n = (m0 + 1) + (n - m0 - 1) := by omega
            conv => lhs; rw [this, itf_add]
            show itf f (f (itf f (f x) m0)) (n - m0 - 1) = _
            rw [h0]
          rw [e1] at hbn ⊢
          exact OrbF.trans ⟨1, su⟩ (ih (n - m0 - 1) (by omega) (f v) hfv bfv hbn)
        · have hbf : ¬ B (f x) := fun hb => hbx (bback x hx hxu hb).1
          exact OrbF.trans ⟨1, so x hxu hxv⟩ (ih n (by omega) (f x) (hp.mp x hx) hbf hbn)
  classical
  refine ⟨fun x => if B x then k else lab x, fun i hi => ?_, fun c hc => ?_, fun i hi => ?_, fun i j hi hj e => ?_⟩
  · show (if B i then k else lab i) < k + 1
    split
    · omega
    · have := h.lt i hi; omega
  · by_cases hk : c = k
    · exact ⟨v, hv, by show (if B v then k else lab v) = c; rw [if_pos bv, hk]⟩
    · obtain ⟨i, h1, h2⟩ := h.on c (by omega)
      by_cases hb : B i
      · exact ⟨u, hu, by show (if B u then k else lab u) = c; rw [if_neg bu, ← blab i hb]; exact h2⟩
      · exact ⟨i, h1, by show (if B i then k else lab i) = c; rw [if_neg hb]; exact h2⟩
  · show (if B (swpF u v f i) then k else lab (swpF u v f i)) = if B i then k else lab i
    by_cases h1 : i = u
    · rw [h1, su, if_neg bfv, if_neg bu, h.inv v hv, blab v bv]
    · by_cases h2 : i = v
      · rw [h2, sv, if_pos bfu, if_pos bv]
      · rw [so i h1 h2]
        by_cases hb : B i
        · rw [if_pos hb, if_pos (bfwd i hb h2)]
        · rw [if_neg hb, if_neg (fun hb' => hb (bback i hi h1 hb').1), h.inv i hi]
  · have e' : (if B i then k else lab i) = if B j then k else lab j := e
    by_cases h1 : B i <;> by_cases h2 : B j
    · exact inB i j h1 h2
    · rw [if_pos h1, if_neg h2] at e'; have := h.lt j hj; omega
    · rw [if_neg h1, if_pos h2] at e'; have := h.lt i hi; omega
    · rw [if_neg h1, if_neg h2] at e'
      obtain ⟨n, rfl⟩ := h.sep i j hi hj e'
      exact outB n i hi h1 h2
end Go.Proofs.Ytcdpgiklmonabaa


/- Rows of labels numbered by their first ones; the rounds of a row of next ones; what the reference's Faces tells. -/
namespace Go.Proofs.Ytcdpgiklmonabaa
open Go Go.RowKit

/-- Labels from 0 on, each new one behind all lesser ones. -/
structure Sp.RG (l : List Int) : Prop where
  nn : ∀ i, i < l.length → 0 ≤ l.getD i 0
  sm : ∀ i, i < l.length → ∀ c, 0 ≤ c → c < l.getD i 0 → ∃ j, j < i ∧ l.getD j 0 = c
structure Sp.Num (l : List Int) (k : Nat) : Prop where
  rg : Sp.RG l
  lt : ∀ i, i < l.length → l.getD i 0 < (k : Int)
  on : ∀ c : Nat, c < k → ∃ i, i < l.length ∧ l.getD i 0 = (c : Int)
theorem Sp.RG.uniq {l1 l2 : List Int} (h1 : Sp.RG l1) (h2 : Sp.RG l2) (hl : l1.length = l2.length) (he : ∀ i j, i < l1.length → j < l1.length → (l1.getD i 0 = l1.getD j 0 ↔ l2.getD i 0 = l2.getD j 0)) : l1 = l2 := by
  have key : ∀ i, i < l1.length → l1.getD i 0 = l2.getD i 0 := by
    intro i
    induction i using Nat.strongRecOn with
    | _ i ih =>
      intro hi
      rcases Int.lt_trichotomy (l1.getD i 0) (l2.getD i 0) with h | h | h
      · obtain ⟨j, hj, e⟩ := h2.sm i (by omega) _ (h1.nn i hi) h
        have e2 := ih j hj (by omega)
        have e3 := (he j i (by omega) hi).1 (by rw [e2, e])
        omega
      · exact h
      · obtain ⟨j, hj, e⟩ := h1.sm i hi _ (h2.nn i (by omega)) h
        have e2 := ih j hj (by omega)
        have e3 := (he j i (by omega) hi).2 (by rw [← e2, e])
        omega
  apply List.ext_getElem hl
  intro i hi hi'
  have := key i hi
  rw [Sp.getD_eq _ _ hi, Sp.getD_eq _ _ hi'] at this
  exact this
theorem Sp.Num.count {l : List Int} {k k' : Nat} (h : Sp.Num l k) (h' : Sp.Num l k') : k = k' := by
  rcases Nat.lt_trichotomy k k' with h1 | h1 | h1
  · obtain ⟨i, a, b⟩ := h'.on k h1
    have := h.lt i a
    omega
  · exact h1
  · obtain ⟨i, a, b⟩ := h.on k' h1
    have := h'.lt i a
    omega
/-- A row of next ones as a function. -/
def Sp.fn (st : List Int) (i : Nat) : Nat := (st.getD i 0).toNat
theorem Sp.Perm.fnP {st : List Int} (h : Sp.Perm st) : PermF st.length (Sp.fn st) := by
  have hb : ∀ i, i < st.length → 0 ≤ st.getD i 0 ∧ st.getD i 0 < (st.length : Int) := fun i hi => h.bd _ (Sp.getD_mem hi)
  refine ⟨fun i hi => ?_, fun i j hi hj e => ?_⟩
  · have := hb i hi
    unfold Sp.fn
    omega
  · have h1 := hb i hi
    have h2 := hb j hj
    unfold Sp.fn at e
    exact h.inj i j hi hj (by omega)
theorem Sp.Perm.nth_it {st : List Int} (h : Sp.Perm st) {i : Nat} (hi : i < st.length) : ∀ m, Sp.nth st i m = ((itf (Sp.fn st) i m : Nat) : Int)
  | 0 => rfl
  | m + 1 => by
    have h1 := h.nth_it hi m
    have h2 := h.fnP.it hi m
    show st.getD (Sp.nth st i m).toNat 0 = ((Sp.fn st (itf (Sp.fn st) i m) : Nat) : Int)
    rw [h1, Int.toNat_natCast]
    have := h.bd _ (Sp.getD_mem h2)
    show _ = (((st.getD (itf (Sp.fn st) i m) 0).toNat : Nat) : Int)
    omega
theorem Sp.Perm.mem_rounds {st : List Int} (h : Sp.Perm st) {d : Nat} (hd : d < st.length) (x : Int) : x ∈ Sp.rounds st d (Sp.per st d) ↔ ∃ j : Nat, x = (j : Int) ∧ OrbF (Sp.fn st) d j := by
  obtain ⟨p1, p2, p3, p4⟩ := h.per hd
  have hper : itf (Sp.fn st) d (Sp.per st d) = d := by have := h.nth_it hd (Sp.per st d); omega
  constructor
  · intro hx
    obtain ⟨m, hm, rfl⟩ := List.mem_map.1 hx
    exact ⟨_, h.nth_it hd m, m, rfl⟩
  · rintro ⟨j, rfl, m, rfl⟩
    have hm : ∀ m, ∃ m', m' < Sp.per st d ∧ itf (Sp.fn st) d m = itf (Sp.fn st) d m' := by
      intro m
      induction m using Nat.strongRecOn with
      | _ m ih =>
        rcases Nat.lt_or_ge m (Sp.per st d) with h1 | h1
        · exact ⟨m, h1, rfl⟩
        · obtain ⟨m', h2, h3⟩ := ih (m - Sp.per st d) (by omega)
          refine ⟨m', h2, ?_⟩
          rw [← h3]
          conv => lhs; rw [show m = Sp.per st d + (m - Sp.per st d) by omega, itf_add, hper]
    obtain ⟨m', h1, h2⟩ := hm m
    rw [h2]
    exact List.mem_map.2 ⟨m', List.mem_range.2 h1, h.nth_it hd m'⟩
theorem PermF.back {L : Nat} {f : Nat → Nat} (h : PermF L f) {st : List Int} (hs : Sp.Perm st) (hL : st.length = L) (hf : f = Sp.fn st) {i j : Nat} (hi : i < L) (ho : OrbF f i j) : OrbF f j i := by
  subst hf
  obtain ⟨m, rfl⟩ := ho
  obtain ⟨p1, p2, p3, p4⟩ := hs.per (d := i) (by omega)
  have hper : itf (Sp.fn st) i (Sp.per st i) = i := by have := hs.nth_it (i := i) (by omega) (Sp.per st i); omega
  have hmul : ∀ n, itf (Sp.fn st) i (n * Sp.per st i) = i := by
    intro n
    induction n with
    | zero => rw [Nat.zero_mul]; rfl
    | succ n ih => rw [Nat.succ_mul, itf_add, ih, hper]
  refine ⟨m * Sp.per st i - m, ?_⟩
  have hle : m ≤ m * Sp.per st i := Nat.le_mul_of_pos_right m p1
  rw [← itf_add, show m + (m * Sp.per st i - m) = m * Sp.per st i by omega, hmul]
theorem Sp.Perm.sym {st : List Int} (h : Sp.Perm st) {i j : Nat} (hi : i < st.length) (ho : OrbF (Sp.fn st) i j) : OrbF (Sp.fn st) j i := PermF.back h.fnP h rfl rfl hi ho
theorem Sp.paint_get (k : Int) : ∀ (ds of : List Int) (i : Nat), (∀ x ∈ ds, 0 ≤ x) → i < of.length → (Sp.paint k of ds).getD i 0 = if (i : Int) ∈ ds then k else of.getD i 0
  | [], of, i, _, _ => by rw [if_neg (by simp)]; rfl
  | d :: r, of, i, h, hi => by
    show (Sp.paint k (of.set d.toNat k) r).getD i 0 = _
    rw [Sp.paint_get k r (of.set d.toNat k) i (fun x hx => h x (by simp [hx])) (by rw [List.length_set]; exact hi)]
    have hd := h d (by simp)
    by_cases h1 : (i : Int) ∈ r
    · rw [if_pos h1, if_pos (List.mem_cons_of_mem _ h1)]
    · rw [if_neg h1]
      by_cases h2 : d.toNat < of.length
      · rw [getD_set_eq of i d.toNat k h2]
        by_cases h3 : i = d.toNat
        · rw [if_pos h3, if_pos (by rw [show (i : Int) = d by omega]; simp)]
        · rw [if_neg h3, if_neg (by
            intro hm
            rcases List.mem_cons.1 hm with e | e
            · omega
            · exact h1 e)]
      · rw [List.set_eq_of_length_le (by omega), if_neg (by
          intro hm
          rcases List.mem_cons.1 hm with e | e
          · omega
          · exact h1 e)]
/-- What Faces has laid so far. -/
structure Sp.FSt (st : List Int) (d : Nat) (of : List Int) (k : Nat) : Prop where
  len : of.length = st.length
  bd : ∀ i, i < st.length → of.getD i 0 = -1 ∨ (0 ≤ of.getD i 0 ∧ of.getD i 0 < (k : Int))
  done : ∀ i, i < d → 0 ≤ of.getD i 0
  inv : ∀ i, i < st.length → of.getD (Sp.fn st i) 0 = of.getD i 0
  sep : ∀ i j, i < st.length → j < st.length → 0 ≤ of.getD i 0 → of.getD i 0 = of.getD j 0 → OrbF (Sp.fn st) i j
  rg : ∀ i, i < d → ∀ c, 0 ≤ c → c < of.getD i 0 → ∃ j, j < i ∧ of.getD j 0 = c
  on : ∀ c : Nat, c < k → ∃ i, i < d ∧ of.getD i 0 = (c : Int)
theorem getD_rep (n i : Nat) (x : Int) (h : i < n) : (List.replicate n x).getD i 0 = x := by
  rw [List.getD_eq_getElem?_getD, List.getElem?_replicate, if_pos h]; rfl
theorem Sp.FSt.first (st : List Int) (hp : Sp.Perm st) : Sp.FSt st 0 (List.replicate st.length (-1)) 0 := by
  refine ⟨by simp, fun i hi => .inl (getD_rep _ _ _ hi), fun i hi => by omega, fun i hi => by rw [getD_rep _ _ _ hi, getD_rep _ _ _ (hp.fnP.mp i hi)], fun i j hi hj h => ?_, fun i hi => by omega, fun c hc => by omega⟩
  rw [getD_rep _ _ _ hi] at h
  omega
theorem Sp.FSt.old {st : List Int} {d k : Nat} {of : List Int} (h : Sp.FSt st d of k) (hd : d < st.length) (h0 : 0 ≤ of.getD d 0) : Sp.FSt st (d + 1) of k := by
  refine ⟨h.len, h.bd, fun i hi => ?_, h.inv, h.sep, fun i hi c c0 c1 => ?_, fun c hc => ?_⟩
  · rcases Nat.lt_or_ge i d with h1 | h1
    · exact h.done i h1
    · rw [show i = d by omega]; exact h0
  · rcases Nat.lt_or_ge i d with h1 | h1
    · exact h.rg i h1 c c0 c1
    · rw [show i = d by omega] at c1 ⊢
      have hk : of.getD d 0 < (k : Int) := by rcases h.bd d hd with e | e <;> omega
      obtain ⟨j, h2, h3⟩ := h.on c.toNat (by omega)
      exact ⟨j, h2, by rw [h3]; omega⟩
  · obtain ⟨i, h1, h2⟩ := h.on c hc
    exact ⟨i, by omega, h2⟩
theorem Sp.FSt.orb {st : List Int} {d k : Nat} {of : List Int} (h : Sp.FSt st d of k) (hp : Sp.Perm st) {i : Nat} (hi : i < st.length) : ∀ m, of.getD (itf (Sp.fn st) i m) 0 = of.getD i 0
  | 0 => rfl
  | m + 1 => by
    show of.getD (Sp.fn st (itf (Sp.fn st) i m)) 0 = _
    rw [h.inv _ (hp.fnP.it hi m), h.orb hp hi m]
theorem Sp.FSt.new {st : List Int} {d k : Nat} {of : List Int} (h : Sp.FSt st d of k) (hp : Sp.Perm st) (hd : d < st.length) (h0 : ¬ 0 ≤ of.getD d 0) : Sp.FSt st (d + 1) (Sp.paint k of (Sp.rounds st d (Sp.per st d))) (k + 1) := by
  have hpos : ∀ x ∈ Sp.rounds st d (Sp.per st d), 0 ≤ x := fun x hx => by
    obtain ⟨j, rfl, -⟩ := (hp.mem_rounds hd x).1 hx
    omega
  have hget : ∀ i, i < st.length → (OrbF (Sp.fn st) d i ∧ (Sp.paint k of (Sp.rounds st d (Sp.per st d))).getD i 0 = (k : Int) ∧ of.getD i 0 = -1) ∨ (¬ OrbF (Sp.fn st) d i ∧ (Sp.paint k of (Sp.rounds st d (Sp.per st d))).getD i 0 = of.getD i 0) := by
    intro i hi
    rw [Sp.paint_get k _ of i hpos (by rw [h.len]; exact hi)]
    by_cases ho : OrbF (Sp.fn st) d i
    · left
      refine ⟨ho, ?_, ?_⟩
      · rw [if_pos ((hp.mem_rounds hd _).2 ⟨i, rfl, ho⟩)]
      · have e : of.getD i 0 = of.getD d 0 := by obtain ⟨m, rfl⟩ := ho; exact h.orb hp hd m
        rcases h.bd d hd with e1 | e1
        · rw [e, e1]
        · omega
    · right
      refine ⟨ho, ?_⟩
      rw [if_neg (fun hm => by
        obtain ⟨j, e, o⟩ := (hp.mem_rounds hd _).1 hm
        have : i = j := by omega
        exact ho (this ▸ o))]
  have hdd := hget d hd
  have hdk : (Sp.paint k of (Sp.rounds st d (Sp.per st d))).getD d 0 = (k : Int) := by
    rcases hdd with e | e
    · exact e.2.1
    · exact absurd (OrbF.refl _ _) e.1
  refine ⟨by rw [Sp.paint_len]; exact h.len, fun i hi => ?_, fun i hi => ?_, fun i hi => ?_, fun i j hi hj hn e => ?_, fun i hi c c0 c1 => ?_, fun c hc => ?_⟩
  · rcases hget i hi with ⟨-, e, -⟩ | ⟨-, e⟩
    · right; rw [e]; omega
    · rw [e]; rcases h.bd i hi with e1 | e1
      · exact .inl e1
      · exact .inr ⟨e1.1, by omega⟩
  · rcases Nat.lt_or_ge i d with h1 | h1
    · rcases hget i (by omega) with ⟨-, e, -⟩ | ⟨-, e⟩
      · rw [e]; omega
      · rw [e]; exact h.done i h1
    · rw [show i = d by omega, hdk]; omega
  · have hfi := hp.fnP.mp i hi
    rcases hget i hi with ⟨o, e, -⟩ | ⟨o, e⟩
    · rcases hget _ hfi with ⟨-, e', -⟩ | ⟨o', -⟩
      · rw [e, e']
      · exact absurd (o.trans (OrbF.one _ i)) o'
    · rcases hget _ hfi with ⟨o', -, -⟩ | ⟨-, e'⟩
      · exact absurd (o'.trans (hp.sym hi (OrbF.one _ i))) o
      · rw [e, e']; exact h.inv i hi
  · rcases hget i hi with ⟨o, e1, -⟩ | ⟨o, e1⟩ <;> rcases hget j hj with ⟨o', e2, -⟩ | ⟨o', e2⟩
    · exact (hp.sym hd o).trans o'
    · rw [e1, e2] at e
      rcases h.bd j hj with e3 | e3 <;> omega
    · rw [e1, e2] at e
      rcases h.bd i hi with e3 | e3 <;> omega
    · rw [e1, e2] at e
      rw [e1] at hn
      exact h.sep i j hi hj hn e
  · rcases Nat.lt_or_ge i d with h1 | h1
    · rcases hget i (by omega) with ⟨-, -, e⟩ | ⟨-, e⟩
      · have := h.done i h1; omega
      · rw [e] at c1
        obtain ⟨j, h2, h3⟩ := h.rg i h1 c c0 c1
        refine ⟨j, h2, ?_⟩
        rcases hget j (by omega) with ⟨-, -, e'⟩ | ⟨-, e'⟩
        · omega
        · rw [e', h3]
    · rw [show i = d by omega] at c1 ⊢
      rw [hdk] at c1
      obtain ⟨j, h2, h3⟩ := h.on c.toNat (by omega)
      refine ⟨j, h2, ?_⟩
      rcases hget j (by omega) with ⟨-, -, e'⟩ | ⟨-, e'⟩
      · omega
      · rw [e', h3]; omega
  · by_cases hk : c = k
    · exact ⟨d, by omega, by rw [hdk, hk]⟩
    · obtain ⟨i, h1, h2⟩ := h.on c (by omega)
      refine ⟨i, by omega, ?_⟩
      rcases hget i (by omega) with ⟨-, -, e'⟩ | ⟨-, e'⟩
      · omega
      · rw [e', h2]
theorem Sp.faces2Go_st {st : List Int} (hp : Sp.Perm st) : ∀ f d of k, d + f = st.length → Sp.FSt st d of k → Sp.FSt st st.length (Sp.faces2Go st f d of k).1 (Sp.faces2Go st f d of k).2
  | 0, d, of, k, hd, h => by rw [show st.length = d by omega] ; exact h
  | f + 1, d, of, k, hd, h => by
    rw [Sp.faces2Go]
    by_cases h0 : 0 ≤ of.getD d 0
    · rw [if_pos h0]
      exact Sp.faces2Go_st hp f (d + 1) of k (by omega) (h.old (by omega) h0)
    · rw [if_neg h0]
      exact Sp.faces2Go_st hp f (d + 1) _ (k + 1) (by omega) (h.new hp (by omega) h0)
/-- What the reference's Faces tells: labels numbered by their first ones, that tell the rounds apart. -/
theorem Sp.faces2_st {q : Sp.Net} (hp : Sp.Perm q.next) (hl : q.next.length = q.tail.length) (hev : q.tail.length % 2 = 0) : Sp.FSt (Sp.behindL q.next) (Sp.behindL q.next).length (Sp.faces2 q).1 (Sp.faces2 q).2 := by
  have hb := hp.behind (by rw [hl]; exact hev)
  have hlb : (Sp.behindL q.next).length = q.tail.length := by rw [Sp.behindL_len, hl]
  unfold Sp.faces2
  refine Sp.faces2Go_st hb _ 0 _ 0 (by rw [hlb]; omega) ?_
  rw [← hlb]
  exact Sp.FSt.first _ hb
theorem Sp.FSt.num {st : List Int} {of : List Int} {k : Nat} (h : Sp.FSt st st.length of k) : Sp.Num of k := by
  refine ⟨⟨fun i hi => h.done i (by rw [← h.len]; exact hi), fun i hi => h.rg i (by rw [← h.len]; exact hi)⟩, fun i hi => ?_, fun c hc => ?_⟩
  · rw [h.len] at hi
    have := h.done i hi
    rcases h.bd i hi with e | e <;> omega
  · obtain ⟨i, h1, h2⟩ := h.on c hc
    exact ⟨i, by rw [h.len]; exact h1, h2⟩
theorem Sp.FSt.cls {st : List Int} {of : List Int} {k : Nat} (h : Sp.FSt st st.length of k) : Cls st.length (Sp.fn st) (fun i => (of.getD i 0).toNat) k := by
  have hb : ∀ i, i < st.length → 0 ≤ of.getD i 0 ∧ of.getD i 0 < (k : Int) := fun i hi => by
    have := h.done i hi
    rcases h.bd i hi with e | e <;> omega
  refine ⟨fun i hi => ?_, fun c hc => ?_, fun i hi => ?_, fun i j hi hj e => ?_⟩
  · have := hb i hi
    show (of.getD i 0).toNat < k
    omega
  · obtain ⟨i, h1, h2⟩ := h.on c hc
    exact ⟨i, h1, by show (of.getD i 0).toNat = c; omega⟩
  · show (of.getD (Sp.fn st i) 0).toNat = (of.getD i 0).toNat
    rw [h.inv i hi]
  · have e' : (of.getD i 0).toNat = (of.getD j 0).toNat := e
    have h1 := hb i hi
    have h2 := hb j hj
    exact h.sep i j hi hj h1.1 (by omega)
end Go.Proofs.Ytcdpgiklmonabaa


