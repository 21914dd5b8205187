/- The law RotKnown, walked. -/
import Derived.Test.YtnkkgeammohemabS20
namespace Go.Proofs.Ytnkkgeammohemab
open Go Go.RowKit

set_option maxRecDepth 100000 in
set_option maxHeartbeats 4000000 in
theorem rotKnown_any (a : Int) (w : World) :
    Calls Try.prog 3 #[.int .i64 a] w fun e w' => e = .returned (.bool true) ∧ Below w.heap.size w w' := by
  obtain ⟨P, hP⟩ : ∃ P : Ending → World → Prop, P = fun e w' => e = .returned (.bool true) ∧ Below w.heap.size w w' := ⟨_, rfl⟩
  rw [← hP]
  have HP := hide hP
  clear hP
  go_enter Try.func3, Try.ntmps3
  go_wp2_with fail
  go_at_call 9
  refine (known2_any w).mono ?_
  rintro e w2 ⟨rfl, hb2⟩
  have Hb2 := hide hb2
  clear hb2
  go_wp2_with fail
  go_at_call 10
  refine (within2_any a 14 _ (by decide) (by decide)).mono ?_
  rintro e w3 ⟨rfl, hw3⟩
  have hw : w3 = ((allocs w2 knRows).alloc (.cells (knV w2.heap.size).toArray 25)).alloc (.cells (knE.map (Value.int .i64)).toArray 27) := hw3
  clear hw3
  obtain ⟨hbw, hsw, hnet⟩ := kn_net w2 w3 hw
  obtain ⟨k, hk⟩ : ∃ k : Nat, a % 14 = (k : Int) := ⟨(a % 14).toNat, by omega⟩
  have hk14 : k < 14 := by omega
  rw [hk]
  obtain ⟨q, ta, tc, na, nc, ca, cc, e0, e1, e2, e3, e4, hnetI, hchk, hlo, hhi⟩ := hnet k hk14
  obtain ⟨B1, hB1⟩ : ∃ B1, B1 = w2.heap.size + 1 + 1 + 1 + 1 + 1 + 1 + 1 + 1 + 1 + 1 + 1 + 1 + 1 + 1 + 1 + 1 + 1 + 1 + 1 + 1 + 1 + 1 + 1 + 1 + 1 + 1 + 1 + 1 + 1 + 1 := ⟨_, rfl⟩
  have HX : Hid (∀ w', Below w3.heap.size w3 w' → w'.cell? ⟨B1, k * 4, none⟩ = some (.int .i64 q.n) ∧ w'.cell? ⟨B1, k * 4 + 1, none⟩ = some (.slice ta q.tail.length tc) ∧ w'.cell? ⟨B1, k * 4 + 2, none⟩ = some (.slice na q.next.length nc) ∧ w'.cell? ⟨B1, k * 4 + 3, none⟩ = some (.slice ca q.cap.length cc) ∧ w'.cell? ⟨B1 + 1, k, none⟩ = some (.int .i64 (knE.getD k 0))) := by
    refine hide fun w' hb => ?_
    obtain ⟨c1, c2⟩ := kn_cells w2 w3 hw w' hb
    rw [hB1]
    exact ⟨(c1 _).trans e0, (c1 _).trans e1, (c1 _).trans e2, (c1 _).trans e3, (c2 _).trans e4⟩
  rw [← hB1]
  have HB3 : Hid (Below w.heap.size w w3) := hide ((unhide Hb2).trans (hbw.mono (unhide Hb2).size))
  have HC := hide (fun w' (hb : Below w3.heap.size w3 w') => check_any q _ _ _ _ w' (hnetI w' hb) hlo hhi)
  rw [hchk] at HC
  have hkI : (k : Int) < 14 := by omega
  have h0k : (0 : Int) ≤ (k : Int) := by omega
  generalize knE.getD k 0 = er at *
  clear hw hk hnet hB1 e0 e1 e2 e3 e4 hnetI hchk hlo hhi hbw hsw Hb2
  have hb3 : Below w3.heap.size w3 w3 := Below.refl _ _
  have herr : (er == er) = true := beq_self_eq_true _
  go_wp2
  go_region_held3 (fun w' => w'.cell? ⟨B1, k * 4, none⟩ = some (.int .i64 q.n) ∧ w'.cell? ⟨B1, k * 4 + 1, none⟩ = some (.slice ta q.tail.length tc) ∧ w'.cell? ⟨B1, k * 4 + 2, none⟩ = some (.slice na q.next.length nc) ∧ w'.cell? ⟨B1, k * 4 + 3, none⟩ = some (.slice ca q.cap.length cc) ∧ w'.cell? ⟨B1 + 1, k, none⟩ = some (.int .i64 er))
    (first
      | exact unhide HX _ hb4
      | exact unhide HX _ hb3.drew)
    (first
      | (go_at_call 11
         refine (unhide HC _ hb3.drew).mono ?_
         rintro e w4 ⟨rfl, hb4'⟩
         have hb4 : Below w3.heap.size w3 w4 := hb3.drew.trans hb4'))
  all_goals
    go_wp2
    rw [unhide HP]
    exact ⟨by rfl, (unhide HB3).trans (hb4.mono (unhide HB3).size)⟩
end Go.Proofs.Ytnkkgeammohemab


