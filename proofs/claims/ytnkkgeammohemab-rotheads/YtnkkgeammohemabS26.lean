/- The law RotHeads, walked. -/
import Derived.Test.YtnkkgeammohemabS19
namespace Go.Proofs.Ytnkkgeammohemab
open Go Go.RowKit

theorem Sp.plane_ok (ns : List Int) : Sp.PlaneQ (Sp.plane ns) 24 := by
  have h := Sp.planeN_ok ns (min ns.length 24)
  exact ⟨h.ev, by have := h.le; unfold Sp.plane; omega, h.n0, by have := h.n1; unfold Sp.plane; omega, h.nx, h.cp, h.pm, h.tb, h.cb, h.tn⟩
theorem Ints.allD {w : World} {v : Value} {l : List Int} (h : Ints w v l) : ∃ (a : Option Addr) (c : Nat), v = .slice a l.length c ∧ l.length ≤ c ∧ c ≤ maxLen ∧ Hid (∀ k, k < l.length → ∃ b o, a = some ⟨b, o, none⟩ ∧ b < w.heap.size ∧ ∀ w', Below w.heap.size w w' → w'.cell? ⟨b, o + k, none⟩ = some (.int .i64 (l.getD k 0))) := by
  obtain ⟨a, c, e, h1, h2, h3⟩ := h.all
  refine ⟨a, c, e, h1, h2, hide fun k hk => ?_⟩
  obtain ⟨b, o, e1, e2, e3⟩ := unhide h3 k hk
  exact ⟨b, o, e1, e2, fun w' hb => by rw [Sp.getD_eq _ _ hk]; exact e3 w' hb⟩
set_option maxRecDepth 100000 in
set_option maxHeartbeats 4000000 in
theorem rotHeads_any (ns : List Int) (x : Value) (d : Int) (w : World) (hx : Ints w x ns) :
    Calls Try.prog 4 #[x, .int .i64 d] w fun e w' => e = .returned (.bool true) ∧ Below w.heap.size w w' := by
  obtain ⟨a, c, rfl, hc, hm⟩ := hx.form
  have HPL := hide (fun w' (hb : Below w.heap.size w w') => plane_any ns (.slice a ns.length c) w' (hx.below hb))
  have HOK := hide (Sp.plane_ok ns)
  generalize Sp.plane ns = q at *
  generalize ns.length = n at *
  clear hx
  obtain ⟨P, hP⟩ : ∃ P : Ending → World → Prop, P = fun e w' => e = .returned (.bool true) ∧ Below w.heap.size w w' := ⟨_, rfl⟩
  rw [← hP]
  have HP := hide hP
  clear hP
  go_enter Try.func4, Try.ntmps4
  go_wp2_with fail
  go_at_call 9
  refine (known2_any w).mono ?_
  rintro e w2 ⟨rfl, hb2⟩
  have Hb2 := hide hb2
  clear hb2
  go_wp2_with fail
  go_at_call 12
  refine (unhide HPL _ (unhide Hb2)).mono ?_
  clear HPL
  rintro e w3 ⟨v, tv, nv, cv, rfl, hnv, hb3⟩
  have Hb3 := hide ((unhide Hb2).trans (hb3.mono (unhide Hb2).size))
  have HN := hide hnv.netI
  have hval := hnv.val
  subst hval
  obtain ⟨ta, tc, rfl, htc, htm, HT⟩ := hnv.netI.tail.allD
  obtain ⟨na, nc, rfl, -, -⟩ := hnv.netI.next.form
  obtain ⟨ca, cc, rfl, -, -⟩ := hnv.netI.cap.form
  clear hnv hb3 Hb2
  have HBX := hide (box_new w3 q.n (.slice ta q.tail.length tc) (.slice na q.next.length nc) (.slice ca q.cap.length cc))
  have HB4 : Hid (∀ w', Below (w3.heap.size + 1) (w3.alloc (.cells #[.int .i64 q.n, .slice ta q.tail.length tc, .slice na q.next.length nc, .slice ca q.cap.length cc] 25)) w' → Below w3.heap.size w3 w') := hide fun w' hb => ((Below.refl _ w3).alloc (Nat.le_refl _) _).trans (hb.mono (by omega))
  have hs4 : (w3.alloc (.cells #[.int .i64 q.n, .slice ta q.tail.length tc, .slice na q.next.length nc, .slice ca q.cap.length cc] 25)).heap.size = w3.heap.size + 1 := by simp
  have Hs4 := hide hs4
  clear hs4
  generalize hln : q.tail.length = ln at *
  have Hln := hide hln
  clear hln
  have HH : Hid (∀ (y : Nat) w', y < ln → Below (w3.heap.size + 1) (w3.alloc (.cells #[.int .i64 q.n, .slice ta ln tc, .slice na q.next.length nc, .slice ca q.cap.length cc] 25)) w' → Calls Try.prog 13 #[.agg #[.int .i64 q.n, .slice ta ln tc, .slice na q.next.length nc, .slice ca q.cap.length cc], .int .i64 (y : Int)] w' fun e w'' => e = .returned (.int .i64 (q.tail.getD (Sp.oth y) 0)) ∧ Below (w3.heap.size + 1) (w3.alloc (.cells #[.int .i64 q.n, .slice ta ln tc, .slice na q.next.length nc, .slice ca q.cap.length cc] 25)) w'') := by
    refine hide fun y w' hy hb => ?_
    have hb3 := unhide HB4 w' hb
    have h := head_any' q _ _ _ _ y w' ⟨rfl, (unhide HN).tail.below hb3, (unhide HN).next.below hb3, (unhide HN).cap.below hb3⟩ (by rw [unhide Hln]; exact hy) (unhide HOK).ev (by have := (unhide HOK).le; omega)
    refine h.mono fun e w'' ⟨h1, h2⟩ => ⟨h1, hb.trans (h2.mono ?_)⟩
    have := hb.size
    rw [unhide Hs4] at this
    exact this
  have hb4 : Below (w3.heap.size + 1) (w3.alloc (.cells #[.int .i64 q.n, .slice ta ln tc, .slice na q.next.length nc, .slice ca q.cap.length cc] 25)) (w3.alloc (.cells #[.int .i64 q.n, .slice ta ln tc, .slice na q.next.length nc, .slice ca q.cap.length cc] 25)) := Below.refl _ _
  by_cases hz : ln = 0
  · subst hz
    go_wp2
    rw [unhide HP]
    exact ⟨by rfl, (unhide Hb3).trans ((unhide HB4 _ hb4).mono (unhide Hb3).size)⟩
  · have hzI : ¬ (ln : Int) = 0 := by omega
    have hzB : ((ln : Int) == 0) = false := beq_eq_false_iff_ne.2 hzI
    have hl48 : ln ≤ 48 := by have := (unhide HOK).le; rw [unhide Hln] at this; exact this
    go_wp2_with fail
    go_at_call 10
    refine (within2_any d ln _ (by omega) (by omega)).mono ?_
    rintro e w5 ⟨rfl, rfl⟩
    have hd0 : 0 ≤ d % (ln : Int) := Int.emod_nonneg _ hzI
    have hd1 : d % (ln : Int) < ln := Int.emod_lt_of_pos _ (by omega)
    obtain ⟨y, hy⟩ : ∃ y : Nat, d % (ln : Int) = (y : Int) := ⟨(d % (ln : Int)).toNat, by omega⟩
    have hyl : y < ln := by omega
    rw [hy]
    clear hd0 hd1 hy
    have hol : Sp.oth y < ln := oth_lt hyl (by rw [← unhide Hln]; exact (unhide HOK).ev)
    have hoo := oth_oth y
    have hxo : bits .xor .i64 (y : Int) 1 = ((Sp.oth y : Nat) : Int) := xor_oth ⟨y, by omega⟩
    have H1 := hide (fun w' => unhide HH y w' hyl)
    have H2 := hide (fun w' => unhide HH (Sp.oth y) w' hol)
    rw [hoo] at H2
    obtain ⟨b, o, rfl, -, hc1⟩ := unhide HT y hyl
    obtain ⟨b', o', e', -, hc2⟩ := unhide HT (Sp.oth y) hol
    injection e' with e'
    injection e' with e1 e2
    subst e1 e2
    have HX : Hid (∀ w', Below (w3.heap.size + 1) (w3.alloc (.cells #[.int .i64 q.n, .slice (some ⟨b, o, none⟩) ln tc, .slice na q.next.length nc, .slice ca q.cap.length cc] 25)) w' → w'.cell? ⟨w3.heap.size, 0, none⟩ = some (.int .i64 q.n) ∧ w'.cell? ⟨w3.heap.size, 1, none⟩ = some (.slice (some ⟨b, o, none⟩) ln tc) ∧ w'.cell? ⟨w3.heap.size, 2, none⟩ = some (.slice na q.next.length nc) ∧ w'.cell? ⟨w3.heap.size, 3, none⟩ = some (.slice ca q.cap.length cc) ∧ w'.cell? ⟨b, o + y, none⟩ = some (.int .i64 (q.tail.getD y 0)) ∧ w'.cell? ⟨b, o + Sp.oth y, none⟩ = some (.int .i64 (q.tail.getD (Sp.oth y) 0))) := by
      refine hide fun w' hb => ?_
      obtain ⟨k0, k1, k2, k3, -⟩ := unhide HBX w' hb
      refine ⟨k0, k1, k2, k3, ?_, ?_⟩
      · exact hc1 _ (unhide HB4 w' hb)
      · exact hc2 _ (unhide HB4 w' hb)
    clear hc1 hc2 hoo HH HBX
    generalize q.tail.getD y 0 = f1 at *
    generalize q.tail.getD (Sp.oth y) 0 = f2 at *
    generalize hoy : Sp.oth y = oy at *
    clear hoy
    have hyI : (y : Int) < (ln : Int) := by omega
    have hoI : (oy : Int) < (ln : Int) := by omega
    generalize w3.alloc (.cells #[.int .i64 q.n, .slice (some ⟨b, o, none⟩) ln tc, .slice na q.next.length nc, .slice ca q.cap.length cc] 25) = W4 at *
    have hf1 : (f1 == f1) = true := beq_self_eq_true _
    have hf2 : (f2 == f2) = true := beq_self_eq_true _
    go_wp2
    go_region_held3 (fun w' => w'.cell? ⟨w3.heap.size, 0, none⟩ = some (.int .i64 q.n) ∧ w'.cell? ⟨w3.heap.size, 1, none⟩ = some (.slice (some ⟨b, o, none⟩) ln tc) ∧ w'.cell? ⟨w3.heap.size, 2, none⟩ = some (.slice na q.next.length nc) ∧ w'.cell? ⟨w3.heap.size, 3, none⟩ = some (.slice ca q.cap.length cc) ∧ w'.cell? ⟨b, o + y, none⟩ = some (.int .i64 f1) ∧ w'.cell? ⟨b, o + oy, none⟩ = some (.int .i64 f2))
      (first
        | exact unhide HX _ hb7
        | exact unhide HX _ hb6
        | exact unhide HX _ hb4.drew)
      (first
        | (go_at_call 13
           refine (unhide H2 _ hb6).mono ?_
           rintro e w7 ⟨rfl, hb7⟩)
        | (go_at_call 13
           refine (unhide H1 _ hb4.drew).mono ?_
           rintro e w6 ⟨rfl, hb6⟩))
    all_goals
      go_wp2
      rw [unhide HP]
      exact ⟨by rfl, (unhide Hb3).trans ((unhide HB4 _ hb7).mono (unhide Hb3).size)⟩
end Go.Proofs.Ytnkkgeammohemab


