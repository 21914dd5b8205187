/- What the proof needs, part 9. -/
import Derived.Test.YtggjpglakocilabL8
/- Package path: round. -/
namespace Go.Proofs.Ytggjpglakocilab
open Go Go.RowKit

set_option maxRecDepth 100000 in
set_option maxHeartbeats 8000000 in
theorem round_any6 (n : Nat) (L : List Sp.Arc) (D Y : Nat → Int) (pn : Nat → Nat) (x : Nat) (lv : Value) (gd gb : Nat) (w0 w : World) (hl : ArcsI w0 lv L) (h0 : Below w0.heap.size w0 w) (hy : RowAt w gb n Y) (hA : Sp.Ago L n D Y pn) (hx : x < n) (hp : n ≤ pn x) (hn : n ≤ 60) :
    Calls Try.prog 19 #[.agg #[lv, .slice (some ⟨gd, 0, none⟩) n n, .slice (some ⟨gb, 0, none⟩) n n], .int .i64 (x : Int)] w fun e w' => ∃ rv q a, e = .returned rv ∧ Below w.heap.size w w' ∧ a = Sp.itb L Y n x ∧ 0 < q ∧ q ≤ n ∧ Sp.itb L Y q a = a ∧ (∀ j, Sp.itb L Y j a < n ∧ Y (Sp.itb L Y j a) ≠ -1) ∧ (∀ j, 0 < j → j < q → Sp.itb L Y j a ≠ a) ∧ Sp.smb L Y q a < 0 ∧ OwnI w' w.heap.size rv ((List.range q).map fun i => Y (Sp.itb L Y (q - 1 - i) a)) := by
  obtain ⟨q, hq0, hqn, hqa, hga, hqm, hsm⟩ := hA.round hx hp
  obtain ⟨a, ha⟩ : ∃ a, Sp.itb L Y n x = a := ⟨_, rfl⟩
  rw [ha] at hqa hga hqm hsm
  have hgbl := hy.lt
  obtain ⟨la, lc, rfl, -, -, HL0⟩ := hl.all
  obtain ⟨W1, hW1⟩ : ∃ W1, W1 = w.alloc (.cells #[.slice la L.length lc, .slice (some ⟨gd, 0, none⟩) n n, .slice (some ⟨gb, 0, none⟩) n n] 43) := ⟨_, rfl⟩
  have hb1 : Below w.heap.size w W1 := by rw [hW1]; exact (Below.refl _ w).alloc (Nat.le_refl _) _
  have hs1 : W1.heap.size = w.heap.size + 1 := by rw [hW1]; simp
  have ht := trail_new w (.slice la L.length lc) (.slice (some ⟨gd, 0, none⟩) n n) (.slice (some ⟨gb, 0, none⟩) n n)
  rw [← hW1] at ht
  -- what may be read at a place
  have HV : Hid (∀ v, v < n → Y v ≠ -1 → ∃ (k b o : Nat), Y v = (k : Int) ∧ k < L.length ∧ la = some ⟨b, o, none⟩ ∧ Sp.bk L Y v < n ∧ ∀ w', Below W1.heap.size W1 w' → w'.cell? ⟨w.heap.size, 0, none⟩ = some (.slice la L.length lc) ∧ w'.cell? ⟨w.heap.size, 2, none⟩ = some (.slice (some ⟨gb, 0, none⟩) n n) ∧ w'.cell? ⟨gb, v, none⟩ = some (.int .i64 (k : Int)) ∧ w'.cell? ⟨b, o + k * 3, none⟩ = some (.int .i64 ((Sp.bk L Y v : Nat) : Int))) := hide fun v hv hyv => by
    obtain ⟨-, h2, -, -, k, h5, h6⟩ := hA.arc hv hyv
    obtain ⟨b, o, e1, e2, e3⟩ := unhide HL0 k h6
    refine ⟨k, b, o, h5, h6, e1, h2, fun w' hb => ?_⟩
    have hbw : Below w.heap.size w w' := hb1.trans (hb.mono hb1.size)
    have hc := (hy.below hbw).cell hv
    rw [h5] at hc
    have e4 := (e3 w' (h0.trans (hbw.mono h0.size))).1
    have e5 : Sp.bk L Y v = (L.getD k Sp.arc0).f := by unfold Sp.bk; rw [h5, Int.toNat_natCast]
    rw [← e5] at e4
    exact ⟨(hb.cell (p := ⟨w.heap.size, 0, none⟩) (by show w.heap.size < _; omega)).trans ht.1, (hb.cell (p := ⟨w.heap.size, 2, none⟩) (by show w.heap.size < _; omega)).trans ht.2.2, hc, e4⟩
  have HB2 : Hid (∀ w', Below W1.heap.size W1 w' → w'.cell? ⟨w.heap.size, 2, none⟩ = some (.slice (some ⟨gb, 0, none⟩) n n) ∧ Below w.heap.size w w') := hide fun w' hb => ⟨(hb.cell (p := ⟨w.heap.size, 2, none⟩) (by show w.heap.size < _; omega)).trans ht.2.2, hb1.trans (hb.mono hb1.size)⟩
  have HBk : Hid (∀ m, m < n → Sp.itb L Y m x < n ∧ Y (Sp.itb L Y m x) ≠ -1) := hide fun m hm => by
    obtain ⟨h1, h2⟩ := hA.back hx m (by omega)
    exact ⟨h1, hA.ne h1 (by omega)⟩
  have HGa := hide hga
  have HQm := hide hqm
  have HEq := hide (And.intro hqa (And.intro hsm ha))
  have HS1 := hide hs1
  obtain ⟨P, hP⟩ : ∃ P : Ending → World → Prop, P = fun e w' => ∃ rv q a, e = .returned rv ∧ Below w.heap.size w w' ∧ a = Sp.itb L Y n x ∧ 0 < q ∧ q ≤ n ∧ Sp.itb L Y q a = a ∧ (∀ j, Sp.itb L Y j a < n ∧ Y (Sp.itb L Y j a) ≠ -1) ∧ (∀ j, 0 < j → j < q → Sp.itb L Y j a ≠ a) ∧ Sp.smb L Y q a < 0 ∧ OwnI w' w.heap.size rv ((List.range q).map fun i => Y (Sp.itb L Y (q - 1 - i) a)) := ⟨_, rfl⟩
  rw [← hP]
  have HP := hide hP
  have y2 := (unhide HB2 W1 (Below.refl _ _)).1
  clear hP hl h0 hy hA hp HL0 hqa hga hqm hsm ha hb1 ht hs1
  subst hW1
  go_enter Try.func19, Try.ntmps19
  go_wp2
  generalize w.alloc (.cells #[.slice la L.length lc, .slice (some ⟨gd, 0, none⟩) n n, .slice (some ⟨gb, 0, none⟩) n n] 43) = W1 at *
  go_loopg [1, 10] n (fun g s1 s10 wr => ∃ m : Nat, m + g = n ∧ s1 = .int .i64 ((Sp.itb L Y m x : Nat) : Int) ∧ s10 = .int .i64 (m : Int) ∧ Hid (Below W1.heap.size W1 wr))
  case atStart => exact ⟨0, by omega, rfl, rfl, hide (Below.refl _ _)⟩
  case round =>
    clear y2
    obtain ⟨m, hmg, rfl, rfl, HB⟩ := hrel
    cases gk with
    | succ g' =>
      have hm : m < n := by omega
      have hmI : (m : Int) < (n : Int) := by omega
      obtain ⟨hvn, hvy⟩ := unhide HBk m hm
      obtain ⟨k, b, o, hk1, hk2, rfl, hbn, hcs⟩ := unhide HV _ hvn hvy
      obtain ⟨z0, z2, c1, c2⟩ := hcs wr (unhide HB)
      clear hcs
      have hkI : (k : Int) < (L.length : Int) := by omega
      have hvI : ((Sp.itb L Y m x : Nat) : Int) < (n : Int) := by omega
      have hnx : Sp.bk L Y (Sp.itb L Y m x) = Sp.itb L Y (m + 1) x := rfl
      rw [hnx] at c2
      generalize Sp.itb L Y m x = v at *
      have HB3 : Hid (∀ nq, Below W1.heap.size W1 (wr.drewN nq)) := hide fun nq => below_dn (unhide HB) nq
      clear hk1 hvy hnx HB hbn
      go_wp2_with fail
      go_quiet (fail)
      go_wp2
      go_roundg g'
      case rel => exact ⟨m + 1, by omega, rfl, by go_num, hide (unhide HB3 _)⟩
      case measure => omega
    | zero =>
      obtain rfl : m = n := by omega
      have hmm : ¬ (m : Int) < (m : Int) := by omega
      rw [(unhide HEq).2.2]
      obtain ⟨han, hay⟩ : a < m ∧ Y a ≠ -1 := unhide HGa 0
      obtain ⟨k, b, o, hk1, hk2, rfl, hbn, hcs⟩ := unhide HV a han hay
      obtain ⟨z0, z2, c1, c2⟩ := hcs wr (unhide HB)
      have haI : (a : Int) < (m : Int) := by omega
      have hkI : (k : Int) < (L.length : Int) := by omega
      obtain ⟨wA, hwA⟩ : ∃ wA, wA = wr.alloc (.cells #[.int .i64 (k : Int)] 3) := ⟨_, rfl⟩
      obtain ⟨gA, hgA⟩ : ∃ gA, gA = wr.heap.size := ⟨_, rfl⟩
      have hbA : Below W1.heap.size W1 wA := by rw [hwA]; exact (unhide HB).alloc (unhide HB).size _
      have hoA : OwnI wA W1.heap.size (.slice (some ⟨gA, 0, none⟩) 1 1) [(k : Int)] := by rw [hwA]; exact own_lit wr _ _ 1 [(k : Int)] hgA.symm rfl (unhide HB).size (by simp)
      have y1 : wA.cell? ⟨gA, 0, none⟩ = some (.int .i64 (k : Int)) := own_cell hoA 0 (by simp)
      obtain ⟨a0, a2, a3, a4⟩ := hcs wA hbA
      have HS : Hid ((∀ nq, Below W1.heap.size W1 (wA.drewN nq)) ∧ (∀ nq, OwnI (wA.drewN nq) W1.heap.size (.slice (some ⟨gA, 0, none⟩) 1 1) ((List.range 1).map fun j => Y (Sp.itb L Y j a)))) := hide ⟨fun nq => below_dn hbA nq, fun nq => by
        show OwnI (wA.drewN nq) _ _ [Y a]
        rw [hk1]; exact own_dn hoA ⟨nq, rfl⟩⟩
      have hnx : Sp.bk L Y a = Sp.itb L Y 1 a := rfl
      rw [hnx] at a4 c2
      clear HB hbA hoA hcs hk1 hbn hnx hay hmg
      go_wp2
      rw [← hwA, ← hgA]
      clear hwA hgA z0 z2 c1 c2
      go_quiet (fail)
      go_wp2
      clear y1 a0 a2 a3 a4 hkI hmm
      go_loopg [5, 6] (q - 1) (fun g s5 s6 wq => ∃ (i c5 : Nat) (a5 : Option Addr), 0 < i ∧ i + g = q ∧ s5 = .slice a5 i c5 ∧ s6 = .int .i64 ((Sp.itb L Y i a : Nat) : Int) ∧ Hid (Below W1.heap.size W1 wq ∧ OwnI wq W1.heap.size (.slice a5 i c5) ((List.range i).map fun j => Y (Sp.itb L Y j a))))
      case atStart => exact ⟨1, 1, _, by omega, by omega, rfl, rfl, hide ⟨(unhide HS).1 _, (unhide HS).2 _⟩⟩
      case round =>
        clear HS
        obtain ⟨i, c5, a5, hi0, hig, rfl, rfl, HI⟩ := hrel
        cases gk with
        | succ g' =>
          obtain ⟨hvn, hvy⟩ := unhide HGa i
          obtain ⟨k', b', o', e1, e2, e3, e4, hcs⟩ := unhide HV _ hvn hvy
          cases e3
          obtain ⟨z0, z2, c1, c2⟩ := hcs wr (unhide HI).1
          have hne := unhide HQm i hi0 (by omega)
          have hneI : ¬ ((Sp.itb L Y i a : Nat) : Int) = (a : Int) := by omega
          have hbb : (((Sp.itb L Y i a : Nat) : Int) != (a : Int)) = true := bne_iff_ne.2 hneI
          have hvI : ((Sp.itb L Y i a : Nat) : Int) < (m : Int) := by omega
          have hkI : (k' : Int) < (L.length : Int) := by omega
          have HLs : Hid (((List.range (i + 1)).map fun j => Y (Sp.itb L Y j a)) = ((List.range i).map fun j => Y (Sp.itb L Y j a)) ++ [(k' : Int)]) := hide (by rw [List.range_succ, List.map_append, ← e1]; rfl)
          have HLen : Hid (((List.range i).map fun j => Y (Sp.itb L Y j a)).length = i) := hide (by simp)
          have hnx : Sp.bk L Y (Sp.itb L Y i a) = Sp.itb L Y (i + 1) a := rfl
          have HC := hide hcs
          clear e1 hvy hne e4 z0 c2
          obtain ⟨v2, hv2⟩ : ∃ v2, Sp.itb L Y (i + 1) a = v2 := ⟨_, rfl⟩
          rw [hnx, hv2] at HC
          have HV2 := hide hv2
          clear hv2
          generalize Sp.itb L Y i a = v at *
          clear hcs hnx
          go_wp2_with (at_builtin; refine wpList_app (w := wr.alloc (.cells #[.int .i64 (k' : Int)] 3)) rfl _ _ rfl W1.heap.size _ _ _ [(k' : Int)] rfl rfl (World.ownsRow.alloc (unhide HI).2 _) (OwnI.ints (own_lit wr 0 _ 1 [(k' : Int)] rfl rfl (Nat.zero_le _) (by simp))) (i + 1) (by rw [unhide HLen]; simp) (by omega) (by have := (unhide HI).1.size; simp; omega) ?_)
          intro a6 c6 w6 hown6 hb6 hg6
          have HI6 : Hid (Below W1.heap.size W1 w6 ∧ OwnI w6 W1.heap.size (.slice a6 (i + 1) c6) ((List.range (i + 1)).map fun j => Y (Sp.itb L Y j a))) := hide ⟨((unhide HI).1.alloc (unhide HI).1.size _).trans hb6, by rw [unhide HLs]; exact hown6⟩
          obtain ⟨y0, y1, y2, y3⟩ := unhide HC w6 (unhide HI6).1
          clear hown6 hb6 hg6 HC HI z2 c1 HLs HLen hbb hneI
          go_wp2
          go_quiet (fail)
          go_wp2
          go_roundg g'
          case rel => exact ⟨i + 1, c6, a6, by omega, by omega, rfl, by rw [unhide HV2], hide ⟨below_dn (unhide HI6).1 _, own_dn (unhide HI6).2 ⟨_, rfl⟩⟩⟩
          case measure => omega
        | zero =>
          obtain rfl : i = q := by omega
          rw [(unhide HEq).1]
          have hbb : ((a : Int) != (a : Int)) = false := by simp
          obtain ⟨g, rfl⟩ : ∃ g, a5 = some ⟨g, 0, none⟩ := by
            rcases (unhide HI).2.2 with ⟨e, h⟩ | ⟨g, cap, cur, e, -⟩
            · exfalso; injection e with _ e2; omega
            · injection e with e1; exact ⟨g, e1⟩
          have HR := hide (reverse_any i c5 g W1.heap.size (fun j => Y (Sp.itb L Y j a)) wr hi0 (by omega) (unhide HI).2)
          go_wp2_with fail
          go_at_call 33
          refine (unhide HR).mono ?_
          rintro e w3 ⟨rfl, hb3, ho3⟩
          have HB3 := hide (unhide HB2 w3 ((unhide HI).1.trans hb3)).2
          have HO3 := hide (own_base ho3 (B' := w.heap.size) (by rw [unhide HS1]; omega))
          clear hb3 ho3 HI HR
          go_wp2
          rw [unhide HP]
          exact ⟨_, i, a, rfl, unhide HB3, (unhide HEq).2.2.symm, hi0, by omega, (unhide HEq).1, unhide HGa, unhide HQm, (unhide HEq).2.1, unhide HO3⟩
end Go.Proofs.Ytggjpglakocilab


/- Package path: Any where no row of lengths is: a round is told. (gen_a25.py makes this from A12.) -/
namespace Go.Proofs.Ytggjpglakocilab
open Go Go.RowKit

/-- Before the first pass. -/
theorem Sp.Pas.zero {L : List Sp.Arc} {n : Nat} {D Y : Nat → Int} {clock : Nat} (h : Sp.Pas L n 0 0 D Y (fun _ => 0) (fun _ => 0) clock) : Sp.Pas L n (0 + 1) 0 D Y (fun _ => 0) (fun _ => 0) clock :=
  ⟨h.tr, fun _ => by omega, h.num, fun m _ hp => by omega, fun m hm => by omega⟩
set_option maxRecDepth 100000 in
set_option maxHeartbeats 8000000 in
theorem any_no (N : Nat) (L : List Sp.Arc) (s : Nat) (lv : Value) (w : World) (hl : ArcsI w lv L) (hS : Sp.Snd N L) (hs : s < N) (hN : N ≤ 60) (hex : ∀ k, k < N → ¬ Sp.still L (Sp.pk L s k)) :
    Calls Try.prog 10 #[.int .i64 (N : Int), lv, .int .i64 (s : Int)] w fun e w' => ∃ rv q a Y pn, e = .returned (.tuple #[.slice none 0 0, rv, .bool false]) ∧ Below w.heap.size w w' ∧ Sp.Ago L N (Sp.pk L s N) Y pn ∧ 0 < q ∧ q ≤ N ∧ Sp.itb L Y q a = a ∧ (∀ j, Sp.itb L Y j a < N ∧ Y (Sp.itb L Y j a) ≠ -1) ∧ (∀ j, 0 < j → j < q → Sp.itb L Y j a ≠ a) ∧ Sp.smb L Y q a < 0 ∧ OwnI w' w.heap.size rv ((List.range q).map fun i => Y (Sp.itb L Y (q - 1 - i) a)) := by
  have hsI : (s : Int) < (N : Int) := by omega
  obtain ⟨W1, hW1⟩ : ∃ W1, W1 = w.alloc (.cells #[.int .i64 (s : Int)] 3) := ⟨_, rfl⟩
  have hb1 : Below w.heap.size w W1 := by rw [hW1]; exact (Below.refl _ w).alloc (Nat.le_refl _) _
  have hI1 : Ints W1 (.slice (some ⟨w.heap.size, 0, none⟩) 1 1) [(s : Int)] := by rw [hW1]; exact OwnI.ints (own_lit w 0 _ 1 [(s : Int)] rfl rfl (Nat.zero_le _) (by simp))
  have HC1 := hide (psound_yes N L [(s : Int)] lv _ W1 (hl.below hb1) hI1 (by simp) (by omega) hS (by simp; omega))
  have HB1 := hide (And.intro hb1 (show w.heap.size ≤ W1.heap.size by rw [hW1]; simp))
  obtain ⟨la, lc, rfl, -⟩ := hl.form
  have HC2 : Hid (∀ w', Calls Try.prog 17 #[.int .i64 (N : Int), .slice la L.length lc, .int .i64 (s : Int)] w' fun e w'' => ∃ gd gb, e = .returned (.agg #[.slice la L.length lc, .slice (some ⟨gd, 0, none⟩) N N, .slice (some ⟨gb, 0, none⟩) N N]) ∧ w'.heap.size ≤ gd ∧ w'.heap.size ≤ gb ∧ gd ≠ gb ∧ RowAt w'' gd N (Sp.d0 1152921504606846976 s) ∧ RowAt w'' gb N (fun _ => -1) ∧ Below w'.heap.size w' w'') := hide fun w' => trailFrom_any N s _ w' ⟨_, _, _, rfl⟩ hN hs
  have HPs : Hid (∀ (w' : World) (k : Nat) (Y : Nat → Int) (gd gb : Nat), k < N → Below w.heap.size w w' → RowAt w' gd N (Sp.pk L s k) → RowAt w' gb N Y → w.heap.size ≤ gd → w.heap.size ≤ gb → gd ≠ gb → Calls Try.prog 18 #[.agg #[.slice la L.length lc, .slice (some ⟨gd, 0, none⟩) N N, .slice (some ⟨gb, 0, none⟩) N N]] w' fun e w'' => e = .returned (.int .i64 (Sp.pq L (Sp.pk L s k) Y L.length).2.2) ∧ RowAt w'' gd N (Sp.pk L s (k + 1)) ∧ RowAt w'' gb N (Sp.pq L (Sp.pk L s k) Y L.length).2.1 ∧ Bt (fun b => b = gd ∨ b = gb) w' w'') := hide fun w' k Y gd gb hk hb hd hy h1 h2 h3 => by
    have h := pass_any N L (Sp.pk L s k) Y _ gd gb w w' _ hl hb hS hd hy h1 h2 h3 (by omega) (Sp.pk_small (by omega) hS.few) (Sp.pk_bnd hS k)
    rw [Sp.pk_succ] at h
    exact h
  have HSt := hide hex
  have HPs2 : Hid (∀ k Y, k < N → (∃ tm pn clock, Sp.Pas L N (k + 1) 0 (Sp.pk L s k) Y tm pn clock) → ∃ x : Nat, (Sp.pq L (Sp.pk L s k) Y L.length).2.2 = (x : Int) ∧ x < N ∧ ∃ tm pn clock, Sp.Pas L N (k + 1) L.length (Sp.pk L s (k + 1)) (Sp.pq L (Sp.pk L s k) Y L.length).2.1 tm pn clock ∧ pn x = k + 1) := hide fun k Y hk h => by
    obtain ⟨tm, pn, clock, h1, h2⟩ := Sp.Pas.pass (L := L) (n := N) (K := k + 1) (D := Sp.pk L s k) (Y := Y) (fun i hi v hv => by
      have hb := Sp.Bnd.pq Y hS (Int.mul_nonneg (Int.natCast_nonneg _) (by decide)) (Sp.pk_bnd (s := s) hS k) i (by omega) v hv
      have hf := hS.few
      have h1 : k * L.length ≤ 60 * L.length := Nat.mul_le_mul_right _ (by omega)
      generalize k * L.length = x at *
      rcases hb with h | h
      · exact .inl h
      · exact .inr (by omega)) (fun a ha => ⟨(hS.at_ a ha).1, (hS.at_ a ha).2.1, (hS.at_ a ha).2.2.2⟩) L.length (Nat.le_refl _) h
    rcases h2 with h2 | ⟨x, h2, h3, h4⟩
    · exact absurd ((Sp.pq_stop L _ Y).1 h2) (hex k hk)
    · rw [Sp.pk_succ] at h1
      exact ⟨x, h2, h3, tm, pn, clock, h1, h4⟩
  have HRd : Hid (∀ (w' : World) (D Y : Nat → Int) (pn : Nat → Nat) (x gd gb : Nat), Below w.heap.size w w' → RowAt w' gb N Y → Sp.Ago L N D Y pn → x < N → N ≤ pn x → Calls Try.prog 19 #[.agg #[.slice la L.length lc, .slice (some ⟨gd, 0, none⟩) N N, .slice (some ⟨gb, 0, none⟩) N N], .int .i64 (x : Int)] w' fun e w'' => ∃ rv q a, e = .returned rv ∧ Below w'.heap.size w' w'' ∧ a = Sp.itb L Y N x ∧ 0 < q ∧ q ≤ N ∧ Sp.itb L Y q a = a ∧ (∀ j, Sp.itb L Y j a < N ∧ Y (Sp.itb L Y j a) ≠ -1) ∧ (∀ j, 0 < j → j < q → Sp.itb L Y j a ≠ a) ∧ Sp.smb L Y q a < 0 ∧ OwnI w'' w'.heap.size rv ((List.range q).map fun i => Y (Sp.itb L Y (q - 1 - i) a))) := hide fun w' D Y pn x gd gb hb hy hA hx hp => round_any6 N L D Y pn x _ gd gb w w' hl hb hy hA hx hp hN
  have HAg : Hid (∀ k Y tm pn clock, Sp.Pas L N k L.length (Sp.pk L s k) Y tm pn clock → Sp.Ago L N (Sp.pk L s k) Y pn) := hide fun k Y tm pn clock h => ⟨⟨tm, clock, h.tr⟩, fun a ha => ⟨(hS.at_ a ha).1, (hS.at_ a ha).2.1⟩, h.num⟩
  have HPq : Hid (∀ k Y, (Sp.pq L (Sp.pk L s k) Y L.length).2.2 = -1 ↔ Sp.still L (Sp.pk L s k)) := hide fun k Y => Sp.pq_stop L _ Y
  obtain ⟨P, hP⟩ : ∃ P : Ending → World → Prop, P = fun e w' => ∃ rv q a Y pn, e = .returned (.tuple #[.slice none 0 0, rv, .bool false]) ∧ Below w.heap.size w w' ∧ Sp.Ago L N (Sp.pk L s N) Y pn ∧ 0 < q ∧ q ≤ N ∧ Sp.itb L Y q a = a ∧ (∀ j, Sp.itb L Y j a < N ∧ Y (Sp.itb L Y j a) ≠ -1) ∧ (∀ j, 0 < j → j < q → Sp.itb L Y j a ≠ a) ∧ Sp.smb L Y q a < 0 ∧ OwnI w' w.heap.size rv ((List.range q).map fun i => Y (Sp.itb L Y (q - 1 - i) a)) := ⟨_, rfl⟩
  rw [← hP]
  have HP := hide hP
  clear hP hl hS hb1 hI1 hex
  subst hW1
  go_enter Try.func10, Try.ntmps10
  go_wp2_with fail
  go_at_call 16
  generalize w.alloc (.cells #[.int .i64 (s : Int)] 3) = W1 at *
  refine (unhide HC1).mono ?_
  rintro e w2 ⟨rfl, hb2⟩
  have HB2 := hide ((unhide HB1).1.trans (hb2.mono (unhide HB1).2))
  clear hb2 HC1 HB1
  go_wp2_with fail
  go_at_call 17
  refine (unhide HC2 w2).mono ?_
  rintro e w3 ⟨gd, gb, rfl, hgd, hgb, hne, hd3, hy3, hb3⟩
  have hgd' : w.heap.size ≤ gd := Nat.le_trans (unhide HB2).size hgd
  have hgb' : w.heap.size ≤ gb := Nat.le_trans (unhide HB2).size hgb
  have hgdl := hd3.lt
  have hgbl := hy3.lt
  obtain ⟨W4, hW4⟩ : ∃ W4, W4 = w3.alloc (.cells #[.slice la L.length lc, .slice (some ⟨gd, 0, none⟩) N N, .slice (some ⟨gb, 0, none⟩) N N] 43) := ⟨_, rfl⟩
  have hB4 : Below w.heap.size w W4 := by
    rw [hW4]
    have h := (unhide HB2).trans (hb3.mono (unhide HB2).size)
    exact h.alloc h.size _
  have hx := trail_new w3 (.slice la L.length lc) (.slice (some ⟨gd, 0, none⟩) N N) (.slice (some ⟨gb, 0, none⟩) N N)
  rw [← hW4] at hx
  have hs4 : W4.heap.size = w3.heap.size + 1 := by rw [hW4]; simp
  have HX : Hid (∀ w', Bt (fun b => b = gd ∨ b = gb) W4 w' → w'.cell? ⟨w3.heap.size, 0, none⟩ = some (.slice la L.length lc) ∧ w'.cell? ⟨w3.heap.size, 1, none⟩ = some (.slice (some ⟨gd, 0, none⟩) N N) ∧ w'.cell? ⟨w3.heap.size, 2, none⟩ = some (.slice (some ⟨gb, 0, none⟩) N N)) := hide fun w' hb =>
    ⟨(hb.cell (a := ⟨w3.heap.size, 0, none⟩) (by show w3.heap.size < _; omega) (by show ¬ (w3.heap.size = gd ∨ w3.heap.size = gb); omega)).trans hx.1, (hb.cell (a := ⟨w3.heap.size, 1, none⟩) (by show w3.heap.size < _; omega) (by show ¬ (w3.heap.size = gd ∨ w3.heap.size = gb); omega)).trans hx.2.1, (hb.cell (a := ⟨w3.heap.size, 2, none⟩) (by show w3.heap.size < _; omega) (by show ¬ (w3.heap.size = gd ∨ w3.heap.size = gb); omega)).trans hx.2.2⟩
  have HI0 : Hid (Bt (fun b => b = gd ∨ b = gb) W4 W4 ∧ RowAt W4 gd N (Sp.pk L s 0) ∧ RowAt W4 gb N (fun _ => -1)) := hide ⟨Bt.refl _ _, by rw [hW4]; exact hd3.alloc _, by rw [hW4]; exact hy3.alloc _⟩
  have HB4 : Hid (∀ w', Bt (fun b => b = gd ∨ b = gb) W4 w' → Below w.heap.size w w') := hide fun w' hb => hB4.trans (hb.below (B := w.heap.size) (fun b hb => by rcases hb with rfl | rfl <;> assumption) hB4.size)
  clear hd3 hy3 hb3 hB4 hx hs4 HB2 HC2
  go_wp2
  rw [← hW4]
  clear hW4
  go_loopg [10, 22] N (fun g s10 s22 wr => ∃ (k : Nat) (Y : Nat → Int) (z : Int), k + g = N ∧ s10 = .int .i64 z ∧ s22 = .int .i64 (k : Int) ∧ Hid ((∃ tm pn clock, Sp.Pas L N (k + 1) 0 (Sp.pk L s k) Y tm pn clock) ∧ (k = 0 ∨ ∃ x : Nat, z = (x : Int) ∧ x < N ∧ ∃ pn, Sp.Ago L N (Sp.pk L s k) Y pn ∧ pn x = k)) ∧ Hid (Bt (fun b => b = gd ∨ b = gb) W4 wr ∧ RowAt wr gd N (Sp.pk L s k) ∧ RowAt wr gb N Y))
  case atStart => exact ⟨0, _, 0, by omega, rfl, rfl, hide ⟨⟨_, _, _, (Sp.Pas.start L N s).zero⟩, .inl rfl⟩, HI0⟩
  case round =>
    clear HI0
    obtain ⟨k, Y, z, hkg, rfl, rfl, HN, HI⟩ := hrel
    cases gk with
    | zero =>
      obtain rfl : k = N := by omega
      have hkI : ¬ (k : Int) < (k : Int) := by omega
      obtain ⟨x, rfl, hxN, HA⟩ : ∃ x : Nat, z = (x : Int) ∧ x < k ∧ Hid (∃ pn, Sp.Ago L k (Sp.pk L s k) Y pn ∧ pn x = k) := by
        rcases (unhide HN).2 with h | ⟨x, h1, h2, h3⟩
        · omega
        · exact ⟨x, h1, h2, hide h3⟩
      obtain ⟨x0, x1, x2⟩ := unhide HX wr (unhide HI).1
      have HCr := hide fun pn (h : Sp.Ago L k (Sp.pk L s k) Y pn ∧ pn x = k) => unhide HRd wr _ Y pn x gd gb (unhide HB4 _ (unhide HI).1) (unhide HI).2.2 h.1 hxN (by rw [h.2]; exact Nat.le_refl _)
      obtain ⟨pn, hpn⟩ := unhide HA
      have HCq := hide (unhide HCr pn hpn)
      have HAg2 := hide hpn.1
      have HBw := hide (unhide HB4 _ (unhide HI).1)
      clear HCr HA hpn HN HI HPs HPs2 HSt HAg HRd HPq HX HB4
      go_wp2_with fail
      go_at_call 19
      refine (unhide HCq).mono ?_
      rintro e w5 ⟨rv, q, a, rfl, hb5, -, h1, h2, h3, h4, h5, h6, h7⟩
      have HF := hide (And.intro h4 (And.intro h5 h6))
      have HO := hide (own_base h7 (unhide HBw).size)
      have HB5 := hide ((unhide HBw).trans (hb5.mono (unhide HBw).size))
      obtain ⟨ra, rc, hrv, -, -⟩ := h7.ints.form
      rw [List.length_map, List.length_range] at hrv
      have HE := hide h3
      clear h3 h4 h5 h6 h7 hb5 HCq HBw
      subst hrv
      go_wp2
      refine bodyPost_ret (v := .tuple #[.slice none 0 0, .slice ra q rc, .bool false]) (by simp [results, Try.results10, go_sem]) rfl ?_
      rw [unhide HP]
      exact ⟨_, q, a, Y, pn, rfl, unhide HB5, unhide HAg2, h1, h2, unhide HE, (unhide HF).1, (unhide HF).2.1, (unhide HF).2.2, unhide HO⟩
    | succ g' =>
      have hkN : k < N := by omega
      have hkI : (k : Int) < (N : Int) := by omega
      obtain ⟨x0, x1, x2⟩ := unhide HX wr (unhide HI).1
      have HCp := hide (unhide HPs wr k Y gd gb hkN (unhide HB4 _ (unhide HI).1) (unhide HI).2.1 (unhide HI).2.2 hgd' hgb' hne)
      obtain ⟨x, hxe, hxN, HQ⟩ := unhide HPs2 k Y hkN (unhide HN).1
      have HN2 : Hid ((∃ tm pn clock, Sp.Pas L N (k + 1 + 1) 0 (Sp.pk L s (k + 1)) (Sp.pq L (Sp.pk L s k) Y L.length).2.1 tm pn clock) ∧ (k + 1 = 0 ∨ ∃ x' : Nat, (x : Int) = (x' : Int) ∧ x' < N ∧ ∃ pn, Sp.Ago L N (Sp.pk L s (k + 1)) (Sp.pq L (Sp.pk L s k) Y L.length).2.1 pn ∧ pn x' = k + 1)) := hide (by
        obtain ⟨tm, pn, clock, h1, h2⟩ := HQ
        exact ⟨⟨tm, pn, clock, h1.next⟩, .inr ⟨x, rfl, hxN, pn, unhide HAg _ _ tm pn clock h1, h2⟩⟩)
      rw [hxe] at HCp
      clear HQ hxe HN
      generalize (Sp.pq L (Sp.pk L s k) Y L.length).2.1 = Y2 at *
      go_wp2_with fail
      go_at_call 18
      refine (unhide HCp).mono ?_
      rintro e w5 ⟨rfl, hd5, hy5, hb5⟩
      have HI5 := hide (And.intro ((unhide HI).1.trans hb5) (And.intro hd5 hy5))
      clear hd5 hy5 hb5 HI HCp x0 x1 x2
      have hst : ¬ (x : Int) = -1 := by omega
      have hshb : ((x : Int) == (-1 : Int)) = false := beq_eq_false_iff_ne.2 hst
      go_wp2
      go_roundg g'
      case rel => exact ⟨k + 1, Y2, (x : Int), by omega, rfl, by go_num, HN2, HI5⟩
      case measure => omega
end Go.Proofs.Ytggjpglakocilab


/- Every pass shortens a way: then a round below 0 is reached, and no row of lengths is (P601). -/
namespace Go.Proofs.Ytggjpglakocilab
open Go Go.RowKit

theorem Sp.pas_all {N s : Nat} {L : List Sp.Arc} (hS : Sp.Snd N L) (hN : N ≤ 60) (hex : ∀ k, k < N → ¬ Sp.still L (Sp.pk L s k)) : ∀ k, k ≤ N → ∃ Y, (∃ tm pn clock, Sp.Pas L N (k + 1) 0 (Sp.pk L s k) Y tm pn clock) ∧ (k = 0 ∨ ∃ x : Nat, x < N ∧ ∃ pn, Sp.Ago L N (Sp.pk L s k) Y pn ∧ pn x = k)
  | 0, _ => ⟨_, ⟨_, _, _, (Sp.Pas.start L N s).zero⟩, .inl rfl⟩
  | k + 1, hk => by
    obtain ⟨Y, h, -⟩ := Sp.pas_all hS hN hex k (by omega)
    obtain ⟨tm, pn, clock, h1, h2⟩ := Sp.Pas.pass (L := L) (n := N) (K := k + 1) (D := Sp.pk L s k) (Y := Y) (fun i hi v hv => by
      have hb := Sp.Bnd.pq Y hS (Int.mul_nonneg (Int.natCast_nonneg _) (by decide)) (Sp.pk_bnd (s := s) hS k) i (by omega) v hv
      have hf := hS.few
      have h1 : k * L.length ≤ 60 * L.length := Nat.mul_le_mul_right _ (by omega)
      generalize k * L.length = x at *
      rcases hb with h | h
      · exact .inl h
      · exact .inr (by omega)) (fun a ha => ⟨(hS.at_ a ha).1, (hS.at_ a ha).2.1, (hS.at_ a ha).2.2.2⟩) L.length (Nat.le_refl _) h
    rcases h2 with h2 | ⟨x, -, h3, h4⟩
    · exact absurd ((Sp.pq_stop L _ Y).1 h2) (hex k (by omega))
    · rw [Sp.pk_succ] at h1
      exact ⟨_, ⟨_, _, _, h1.next⟩, .inr ⟨x, h3, pn, ⟨⟨tm, clock, h1.tr⟩, fun a ha => ⟨(hS.at_ a ha).1, (hS.at_ a ha).2.1⟩, h1.num⟩, h4⟩⟩
/-- Along the arcs back no row of lengths rises by more than they are long. -/
theorem Sp.Short.back {N s : Nat} {L : List Sp.Arc} {D D0 Y : Nat → Int} {pn : Nat → Nat} (hD : Sp.Short 1152921504606846976 L s N D) (hA : Sp.Ago L N D0 Y pn) (hr : ∀ v, v < N → D0 v ≠ 1152921504606846976 → D v ≠ 1152921504606846976) :
    ∀ m a, (∀ j, Sp.itb L Y j a < N ∧ Y (Sp.itb L Y j a) ≠ -1) → D a ≤ D (Sp.itb L Y m a) + Sp.smb L Y m a
  | 0, a, _ => by show D a ≤ D a + 0; omega
  | m + 1, a, h => by
    have ih := Sp.Short.back hD hA hr m (Sp.bk L Y a) (fun j => by rw [← Sp.itb_succ]; exact h (j + 1))
    obtain ⟨h1, h2, h3, -, k, h5, h6⟩ := hA.arc (h 0).1 (h 0).2
    have h7 := (hD.arc _ (Sp.arc_mem h6) (by
      have e : (L.getD k Sp.arc0).f = Sp.bk L Y a := by unfold Sp.bk; rw [show Y a = (k : Int) from h5, Int.toNat_natCast]
      rw [e]; exact hr _ h2 h3)).2
    have e : (Y a).toNat = k := by rw [show Y a = (k : Int) from h5, Int.toNat_natCast]
    have h1' : (L.getD (Y a).toNat Sp.arc0).t = a := h1
    rw [e] at h1'
    rw [h1'] at h7
    rw [Sp.itb_succ]
    show D a ≤ _ + ((L.getD (Y a).toNat Sp.arc0).l + Sp.smb L Y m (Sp.bk L Y a))
    have e2 : (L.getD k Sp.arc0).f = Sp.bk L Y a := by unfold Sp.bk; rw [e]
    rw [e2] at h7
    rw [e]; omega
theorem Sp.no_short {N s : Nat} {L : List Sp.Arc} (hS : Sp.Snd N L) (hs : s < N) (hN : N ≤ 60) (hex : ∀ k, k < N → ¬ Sp.still L (Sp.pk L s k)) : ¬ ∃ D, Sp.Short 1152921504606846976 L s N D := by
  rintro ⟨D, hD⟩
  obtain ⟨Y, -, h | ⟨x, hx, pn, hA, hp⟩⟩ := Sp.pas_all hS hN hex N (Nat.le_refl _)
  · omega
  · obtain ⟨q, h1, h2, h3, h4, -, h6⟩ := hA.round hx (by omega)
    have hr : ∀ v, v < N → Sp.pk L s N v ≠ 1152921504606846976 → D v ≠ 1152921504606846976 := fun v hv hne => by
      obtain ⟨m, hw⟩ := (Sp.Att.ps (L := L) (n := N) (by decide) (fun a ha => (hS.at_ a ha).1) (Sp.att0 (s := s) (by decide)) N).att v hv hne
      exact (hD.low (by decide) m v _ hw).1
    have h7 := Sp.Short.back hD hA hr q _ h4
    rw [h3] at h7
    omega
theorem Sp.pk_out {N s v : Nat} {L : List Sp.Arc} (hS : Sp.Snd N L) (hs : s < N) (hv : N ≤ v) : ∀ k, Sp.pk L s k v = 1152921504606846976
  | 0 => by
    show Sp.d0 _ s v = _
    unfold Sp.d0; rw [if_neg (by omega)]
  | k + 1 => by
    rw [← Sp.pk_succ L s k (fun _ => 0)]
    have h : ∀ i, i ≤ L.length → (Sp.pq L (Sp.pk L s k) (fun _ => 0) i).1 v = 1152921504606846976 := by
      intro i
      induction i with
      | zero => exact fun _ => Sp.pk_out hS hs hv k
      | succ i ih =>
        intro hi
        have ht := (hS.at_ _ (Sp.arc_mem (show i < L.length by omega))).2.1
        rw [Sp.pq]
        split
        · show Sp.upd _ _ _ v = _
          rw [Sp.upd_other _ _ (by omega)]; exact ih (by omega)
        · exact ih (by omega)
    exact h _ (Nat.le_refl _)
/-- A row of lengths is, one of small numbers; or every pass shortens a way, and none is. -/
theorem Sp.pk_case {N s : Nat} {L : List Sp.Arc} (hS : Sp.Snd N L) (hs : s < N) (hN : N ≤ 60) : (∃ D, Sp.Short 1152921504606846976 L s N D ∧ ∀ v, D v ≠ 1152921504606846976 → D v < 1152921504606846976) ∨ ((∀ k, k < N → ¬ Sp.still L (Sp.pk L s k)) ∧ ¬ ∃ D, Sp.Short 1152921504606846976 L s N D) := by
  by_cases h : ∀ k, k < N → ¬ Sp.still L (Sp.pk L s k)
  · exact .inr ⟨h, Sp.no_short hS hs hN h⟩
  · refine .inl ?_
    obtain ⟨k, hk⟩ := Classical.not_forall.1 h
    obtain ⟨hk1, hk2⟩ := Classical.not_imp.1 hk
    refine ⟨_, Sp.pk_short hS hs (by omega) (Classical.not_not.1 hk2), fun v hne => ?_⟩
    by_cases hv : v < N
    · have hb := (Sp.pk_bnd (s := s) hS k v hv).resolve_left hne
      have h1 := Sp.pk_small (k := k) (m := L.length) (by omega) hS.few
      omega
    · exact absurd (Sp.pk_out hS hs (by omega) k) hne
end Go.Proofs.Ytggjpglakocilab


/- What any arcs reach; the arcs of a round, told backwards (P601: the reference's Round). -/
namespace Go.Proofs.Ytggjpglakocilab
open Go Go.RowKit

/-- A row of truths that no arc leads out of. -/
def Sp.clo (L : List Sp.Arc) (s : Nat) (B : Nat → Bool) : Prop := B s = true ∧ ∀ k, k < L.length → B (L.getD k Sp.arc0).f = true → B (L.getD k Sp.arc0).t = true
theorem Sp.clo.wk {L : List Sp.Arc} {s : Nat} {B : Nat → Bool} (h : Sp.clo L s B) : ∀ m v x, Sp.Wk L s m v x → B v = true
  | 0, v, x, hw => by obtain ⟨rfl, -⟩ := hw; exact h.1
  | m + 1, v, x, hw => by
    obtain ⟨a, ha, rfl, hw⟩ := hw
    have ih := Sp.clo.wk h m a.f _ hw
    obtain ⟨k, hk, e⟩ := List.getElem_of_mem ha
    have e2 : L.getD k Sp.arc0 = a := by rw [List.getD_eq_getElem?_getD, List.getElem?_eq_getElem hk, e]; rfl
    have := h.2 k hk
    rw [e2] at this
    exact this ih
/-- How long the first m arcs of a row are together. -/
def Sp.smK (L : List Sp.Arc) (K : Nat → Nat) : Nat → Int
  | 0 => 0
  | m + 1 => Sp.smK L K m + (L.getD (K m) Sp.arc0).l
/-- A row of arcs is a round below 0. -/
structure Sp.Rnd (L : List Sp.Arc) (n s q : Nat) (K : Nat → Nat) : Prop where
  pos : 0 < q
  few : q ≤ n
  at_ : ∀ i, i < q → K i < L.length
  on : ∀ i, i < q → (L.getD (K i) Sp.arc0).t = (L.getD (K ((i + 1) % q)) Sp.arc0).f
  apart : ∀ i j, i < j → j < q → (L.getD (K i) Sp.arc0).f ≠ (L.getD (K j) Sp.arc0).f
  sum : Sp.smK L K q < 0
  att : ∃ m x, Sp.Wk L s m (L.getD (K 0) Sp.arc0).f x
theorem Sp.smb_K {L : List Sp.Arc} {Y : Nat → Int} {q a : Nat} : ∀ i, i ≤ q → Sp.smK L (fun i => (Y (Sp.itb L Y (q - 1 - i) a)).toNat) i = Sp.smb L Y i (Sp.itb L Y (q - i) a)
  | 0, _ => rfl
  | i + 1, hi => by
    rw [Sp.smK, Sp.smb_K i (by omega)]
    show _ = (L.getD (Y (Sp.itb L Y (q - (i + 1)) a)).toNat Sp.arc0).l + Sp.smb L Y i (Sp.bk L Y (Sp.itb L Y (q - (i + 1)) a))
    have e : Sp.bk L Y (Sp.itb L Y (q - (i + 1)) a) = Sp.itb L Y (q - i) a := by
      rw [show q - i = (q - (i + 1)) + 1 by omega]; rfl
    rw [e, show q - (i + 1) = q - 1 - i by omega]
    omega
/-- The arcs told backwards are a round. -/
theorem Sp.Ago.rnd {L : List Sp.Arc} {n s q a : Nat} {D Y : Nat → Int} {pn : Nat → Nat} (h : Sp.Ago L n D Y pn) (hq0 : 0 < q) (hqn : q ≤ n) (hqa : Sp.itb L Y q a = a) (hg : ∀ j, Sp.itb L Y j a < n ∧ Y (Sp.itb L Y j a) ≠ -1) (hm : ∀ j, 0 < j → j < q → Sp.itb L Y j a ≠ a) (hs : Sp.smb L Y q a < 0) (hat : ∀ v, v < n → D v ≠ 1152921504606846976 → ∃ m x, Sp.Wk L s m v x) :
    Sp.Rnd L n s q (fun i => (Y (Sp.itb L Y (q - 1 - i) a)).toNat) ∧ ∀ i, i < q → Y (Sp.itb L Y (q - 1 - i) a) = (((Y (Sp.itb L Y (q - 1 - i) a)).toNat : Nat) : Int) := by
  have hA := fun j => h.arc (hg j).1 (hg j).2
  have hf : ∀ i, i < q → (L.getD (Y (Sp.itb L Y (q - 1 - i) a)).toNat Sp.arc0).f = Sp.itb L Y (q - i) a := fun i hi => by
    rw [show q - i = (q - 1 - i) + 1 by omega]; rfl
  have hap : ∀ i j, i < j → j ≤ q → 0 < i → Sp.itb L Y i a ≠ Sp.itb L Y j a := fun i j hij hj hi e => by
    have h1 : Sp.itb L Y (q - j + i) a = Sp.itb L Y (q - j + j) a := by rw [Sp.itb_add, Sp.itb_add, e]
    rw [show q - j + j = q by omega, hqa] at h1
    exact hm (q - j + i) (by omega) (by omega) h1
  refine ⟨⟨hq0, hqn, fun i hi => ?_, fun i hi => ?_, fun i j hij hj => ?_, ?_, ?_⟩, fun i hi => ?_⟩
  · obtain ⟨-, -, -, -, k, h5, h6⟩ := hA (q - 1 - i)
    show (Y _).toNat < _
    rw [h5]; omega
  · show (L.getD (Y (Sp.itb L Y (q - 1 - i) a)).toNat Sp.arc0).t = (L.getD (Y (Sp.itb L Y (q - 1 - (i + 1) % q) a)).toNat Sp.arc0).f
    rw [(hA (q - 1 - i)).1]
    by_cases e : i + 1 = q
    · rw [e, Nat.mod_self, hf 0 hq0, show q - 0 = q from rfl, hqa, show q - 1 - i = 0 by omega]; rfl
    · rw [Nat.mod_eq_of_lt (by omega), hf (i + 1) (by omega), show q - 1 - i = q - (i + 1) by omega]
  · show (L.getD (Y (Sp.itb L Y (q - 1 - i) a)).toNat Sp.arc0).f ≠ (L.getD (Y (Sp.itb L Y (q - 1 - j) a)).toNat Sp.arc0).f
    rw [hf i (by omega), hf j hj]
    exact fun e => hap (q - j) (q - i) (by omega) (by omega) (by omega) e.symm
  · rw [Sp.smb_K q (Nat.le_refl _), Nat.sub_self]; exact hs
  · show ∃ m x, Sp.Wk L s m (L.getD (Y (Sp.itb L Y (q - 1 - 0) a)).toNat Sp.arc0).f x
    have h2 := hA (q - 1)
    exact hat _ h2.2.1 h2.2.2.1
  · obtain ⟨-, -, -, -, k, h5, -⟩ := hA (q - 1 - i)
    rw [h5, Int.toNat_natCast]
/-- An arc leads out of what is known: it is known as well; fewer are unknown. -/
def Sp.updB (z : Nat → Bool) (j : Nat) (v : Bool) : Nat → Bool := fun k => if k = j then v else z k
end Go.Proofs.Ytggjpglakocilab


/- A row of truths in a block of its own, as a function; make([]bool, n). -/
namespace Go.Proofs.Ytggjpglakocilab
open Go Go.RowKit

def RowB (w : World) (b n : Nat) (z : Nat → Bool) : Prop := ∃ c, w.heap[b]? = some (.cells c 4) ∧ c.size = n ∧ ∀ j, j < n → c[j]? = some (.bool (z j))
theorem RowB.lt {w : World} {b n : Nat} {z : Nat → Bool} (h : RowB w b n z) : b < w.heap.size := by
  obtain ⟨c, hc, -⟩ := h
  exact (Array.getElem?_eq_some_iff.1 hc).1
theorem RowB.cell {w : World} {b n : Nat} {z : Nat → Bool} (h : RowB w b n z) {j : Nat} (hj : j < n) : w.cell? ⟨b, j, none⟩ = some (.bool (z j)) := by
  obtain ⟨c, hc, -, hz⟩ := h
  simp only [World.cell?, hc]
  exact hz j hj
theorem RowB.frozen {w : World} {b n : Nat} {z : Nat → Bool} (h : RowB w b n z) (j : Nat) (s : Option Nat) : w.frozen? ⟨b, j, s⟩ = false := by
  obtain ⟨c, hc, -⟩ := h
  simp only [World.frozen?, hc]
  simp
theorem RowB.of_block {w w' : World} {b n : Nat} {z : Nat → Bool} (h : RowB w b n z) (e : w'.heap[b]? = w.heap[b]?) : RowB w' b n z := by
  obtain ⟨c, hc, h1⟩ := h
  exact ⟨c, by rw [e]; exact hc, h1⟩
theorem RowB.set {w : World} {b n : Nat} {z : Nat → Bool} (h : RowB w b n z) (j : Nat) (v : Bool) : RowB (w.setCell ⟨b, j, none⟩ (.bool v)) b n (Sp.updB z j v) := by
  obtain ⟨c, hc, hs, hz⟩ := h
  refine ⟨c.setIfInBounds j (.bool v), ?_, by simpa using hs, fun k hk => ?_⟩
  · simp only [World.setCell, Array.getElem?_modify, if_pos, hc]
    rfl
  · rw [Array.getElem?_setIfInBounds]
    unfold Sp.updB
    by_cases hjk : j = k
    · rw [if_pos hjk, if_pos (by omega), if_pos hjk.symm]
    · rw [if_neg hjk, hz k hk, if_neg (fun e => hjk e.symm)]
theorem RowB.below {w w' : World} {b n : Nat} {z : Nat → Bool} (h : RowB w b n z) (hb : Below w.heap.size w w') : RowB w' b n z := h.of_block (hb.block b h.lt)
theorem RowB.congr {w : World} {b n : Nat} {z z' : Nat → Bool} (h : RowB w b n z) (e : ∀ j, j < n → z j = z' j) : RowB w b n z' := by
  obtain ⟨c, hc, hs, hz⟩ := h
  exact ⟨c, hc, hs, fun j hj => by rw [← e j hj]; exact hz j hj⟩
theorem RowB.of_rep {w : World} {B b n : Nat} {x : Bool} (h : OwnB w B (.slice (some ⟨b, 0, none⟩) n n) (List.replicate n x)) : RowB w b n (fun _ => x) ∧ B ≤ b := by
  unfold OwnB at h
  obtain ⟨h1, ⟨h2, -⟩ | ⟨g', cap, cur, e, hg, hh, hnc, hcm, hsz, htk⟩⟩ := h
  · cases h2
  · injection e with e1 e2 e3
    injection e1 with e1
    injection e1 with e1 _
    subst e1
    rw [List.length_replicate] at hnc htk
    refine ⟨⟨cur, hh, by omega, fun j hj => ?_⟩, hg⟩
    have e4 : cur.toList = (List.replicate n x).map Value.bool := by
      rw [← htk, List.take_of_length_le]
      simp; omega
    rw [← Array.getElem?_toList, e4, List.getElem?_map, List.getElem?_replicate, if_pos hj]; rfl
end Go.Proofs.Ytggjpglakocilab


/- The law PathFrom, walked. -/
namespace Go.Proofs.Ytggjpglakocilab
open Go Go.RowKit

theorem Sp.Short.pos {L : List Sp.Arc} {s n : Nat} {D : Nat → Int} (h : Sp.Short 1152921504606846976 L s n D) (hp : ∀ a ∈ L, 0 ≤ a.l) {v : Nat} (hv : v < n) : 0 ≤ D v := by
  have hw : ∀ m v x, Sp.Wk L s m v x → 0 ≤ x := by
    intro m
    induction m with
    | zero => intro v x hw; have := hw.2; omega
    | succ m ih =>
      intro v x hw
      obtain ⟨a, ha, -, hw⟩ := hw
      have := ih _ _ hw
      have := hp a ha
      omega
  by_cases h1 : D v = 1152921504606846976
  · rw [h1]; decide
  · obtain ⟨m, hm⟩ := h.att v hv h1
    exact hw m v _ hm
end Go.Proofs.Ytggjpglakocilab


/- The law PathAny, walked. -/
namespace Go.Proofs.Ytggjpglakocilab
open Go Go.RowKit

theorem Sp.pk_att {N s : Nat} {L : List Sp.Arc} (hS : Sp.Snd N L) (k : Nat) : ∀ v, v < N → Sp.pk L s k v ≠ 1152921504606846976 → ∃ m x, Sp.Wk L s m v x := fun v hv hne => by
  obtain ⟨m, hw⟩ := (Sp.Att.ps (L := L) (n := N) (by decide) (fun a ha => (hS.at_ a ha).1) (Sp.att0 (s := s) (by decide)) k).att v hv hne
  exact ⟨m, _, hw⟩
/-- Any where no row is: a round is told. -/
theorem any_rnd (N : Nat) (L : List Sp.Arc) (s : Nat) (lv : Value) (w : World) (hl : ArcsI w lv L) (hS : Sp.Snd N L) (hs : s < N) (hN : N ≤ 60) (hex : ∀ k, k < N → ¬ Sp.still L (Sp.pk L s k)) :
    Calls Try.prog 10 #[.int .i64 (N : Int), lv, .int .i64 (s : Int)] w fun e w' => ∃ rv q K, e = .returned (.tuple #[.slice none 0 0, rv, .bool false]) ∧ Below w.heap.size w w' ∧ Sp.Rnd L N s q K ∧ Ints w' rv ((List.range q).map fun i => ((K i : Nat) : Int)) := by
  refine (any_no N L s lv w hl hS hs hN hex).mono ?_
  rintro e w' ⟨rv, q, a, Y, pn, rfl, hb, hA, h1, h2, h3, h4, h5, h6, h7⟩
  obtain ⟨g1, g2⟩ := hA.rnd h1 h2 h3 h4 h5 h6 (Sp.pk_att hS N)
  refine ⟨rv, q, _, rfl, hb, g1, ?_⟩
  have e1 : ((List.range q).map fun i => (((Y (Sp.itb L Y (q - 1 - i) a)).toNat : Nat) : Int)) = ((List.range q).map fun i => Y (Sp.itb L Y (q - 1 - i) a)) := List.map_congr_left fun i hi => (g2 i (List.mem_range.1 hi)).symm
  rw [e1]; exact OwnI.ints h7
end Go.Proofs.Ytggjpglakocilab


/- A round below 0 that can't be reached, and one arc that can reach it (P601: PathRounds). -/
namespace Go.Proofs.Ytggjpglakocilab
open Go Go.RowKit

theorem Sp.rnd_ex {N s : Nat} {L : List Sp.Arc} (hS : Sp.Snd N L) (hN : N ≤ 60) (hN0 : 0 < N) (hex : ∀ k, k < N → ¬ Sp.still L (Sp.pk L s k)) : ∃ q K, Sp.Rnd L N s q K := by
  obtain ⟨Y, -, h | ⟨x, hx, pn, hA, hp⟩⟩ := Sp.pas_all hS hN hex N (Nat.le_refl _)
  · omega
  · obtain ⟨q, h1, h2, h3, h4, h5, h6⟩ := hA.round hx (by omega)
    exact ⟨q, _, (hA.rnd h1 h2 h3 h4 h5 h6 (Sp.pk_att hS N)).1⟩
theorem Sp.smK_pos {L : List Sp.Arc} {K : Nat → Nat} : ∀ q, (∀ i, i < q → 0 ≤ (L.getD (K i) Sp.arc0).l) → 0 ≤ Sp.smK L K q
  | 0, _ => Int.le_refl _
  | q + 1, h => by
    have h1 := Sp.smK_pos q (fun i hi => h i (by omega))
    have h2 := h q (by omega)
    unfold Sp.smK; omega
/-- The arcs with a round apart, and with one arc that leads there. -/
def Sp.rl1 (L : List Sp.Arc) (n : Nat) (a : Int) : List Sp.Arc := L ++ [⟨n, n + 1, 3⟩, ⟨n + 1, n, -3 - a⟩]
def Sp.rl2 (L : List Sp.Arc) (n p : Nat) (a : Int) : List Sp.Arc := Sp.rl1 L n a ++ [⟨0, p, 100⟩]
theorem Sp.rl1_len (L : List Sp.Arc) (n : Nat) (a : Int) : (Sp.rl1 L n a).length = L.length + 2 := by unfold Sp.rl1; simp
theorem Sp.rl2_len (L : List Sp.Arc) (n p : Nat) (a : Int) : (Sp.rl2 L n p a).length = L.length + 3 := by unfold Sp.rl2; rw [List.length_append, Sp.rl1_len]; rfl
theorem Sp.rl1_at (L : List Sp.Arc) (n : Nat) (a : Int) {j : Nat} (hj : j < (Sp.rl1 L n a).length) : (j < L.length ∧ (Sp.rl1 L n a).getD j Sp.arc0 = L.getD j Sp.arc0) ∨ (j = L.length ∧ (Sp.rl1 L n a).getD j Sp.arc0 = ⟨n, n + 1, 3⟩) ∨ (j = L.length + 1 ∧ (Sp.rl1 L n a).getD j Sp.arc0 = ⟨n + 1, n, -3 - a⟩) := by
  rw [Sp.rl1_len] at hj
  unfold Sp.rl1
  simp only [List.getD_eq_getElem?_getD]
  by_cases h : j < L.length
  · left
    rw [List.getElem?_append_left h]; exact ⟨h, rfl⟩
  · right
    rw [List.getElem?_append_right (by omega)]
    by_cases h2 : j = L.length
    · left; subst h2; simp
    · right
      obtain rfl : j = L.length + 1 := by omega
      refine ⟨rfl, ?_⟩
      rw [show L.length + 1 - L.length = 1 by omega]; rfl
theorem Sp.rl2_at (L : List Sp.Arc) (n p : Nat) (a : Int) {j : Nat} (hj : j < (Sp.rl2 L n p a).length) : (j < L.length ∧ (Sp.rl2 L n p a).getD j Sp.arc0 = L.getD j Sp.arc0) ∨ (j = L.length ∧ (Sp.rl2 L n p a).getD j Sp.arc0 = ⟨n, n + 1, 3⟩) ∨ (j = L.length + 1 ∧ (Sp.rl2 L n p a).getD j Sp.arc0 = ⟨n + 1, n, -3 - a⟩) ∨ (j = L.length + 2 ∧ (Sp.rl2 L n p a).getD j Sp.arc0 = ⟨0, p, 100⟩) := by
  rw [Sp.rl2_len] at hj
  have h1 := Sp.rl1_len L n a
  by_cases h : j < L.length + 2
  · have e : (Sp.rl2 L n p a).getD j Sp.arc0 = (Sp.rl1 L n a).getD j Sp.arc0 := by
      unfold Sp.rl2
      simp only [List.getD_eq_getElem?_getD]
      rw [List.getElem?_append_left (by omega)]
    rw [e]
    rcases Sp.rl1_at L n a (j := j) (by omega) with h2 | h2 | h2
    · exact .inl h2
    · exact .inr (.inl h2)
    · exact .inr (.inr (.inl h2))
  · obtain rfl : j = L.length + 2 := by omega
    refine .inr (.inr (.inr ⟨rfl, ?_⟩))
    unfold Sp.rl2
    simp only [List.getD_eq_getElem?_getD]
    rw [List.getElem?_append_right (by omega), h1, Nat.sub_self]; rfl
theorem Sp.rl1_snd {L : List Sp.Arc} {n : Nat} {a : Int} (hS : Sp.Snd n L) (hl : L.length ≤ 50) (h0 : 0 < a) (h9 : a ≤ 9) : Sp.Snd (n + 2) (Sp.rl1 L n a) := by
  refine ⟨by rw [Sp.rl1_len]; omega, fun x hx => ?_⟩
  unfold Sp.rl1 at hx
  rcases List.mem_append.1 hx with h | h
  · have := hS.at_ x h
    exact ⟨by omega, by omega, this.2.2⟩
  · simp only [List.mem_cons, List.not_mem_nil, or_false] at h
    rcases h with rfl | rfl
    · exact ⟨by show n < _; omega, by show n + 1 < _; omega, by show -1099511627776 ≤ (3 : Int); omega, by show (3 : Int) ≤ _; omega⟩
    · exact ⟨by show n + 1 < _; omega, by show n < _; omega, by show _ ≤ -3 - a; omega, by show -3 - a ≤ _; omega⟩
theorem Sp.rl2_snd {L : List Sp.Arc} {n p : Nat} {a : Int} (hS : Sp.Snd n L) (hl : L.length ≤ 50) (h0 : 0 < a) (h9 : a ≤ 9) (hp : p < n + 2) : Sp.Snd (n + 2) (Sp.rl2 L n p a) := by
  have h1 := Sp.rl1_snd hS hl h0 h9
  refine ⟨by rw [Sp.rl2_len]; omega, fun x hx => ?_⟩
  unfold Sp.rl2 at hx
  rcases List.mem_append.1 hx with h | h
  · exact h1.at_ x h
  · simp only [List.mem_cons, List.not_mem_nil, or_false] at h
    subst h
    exact ⟨by show 0 < _; omega, hp, by show -1099511627776 ≤ (100 : Int); omega, by show (100 : Int) ≤ _; omega⟩
/-- No way leads out of the first n places. -/
theorem Sp.rl1_wk {L : List Sp.Arc} {n : Nat} {a : Int} (hL : ∀ x ∈ L, x.f < n ∧ x.t < n) (hn : 0 < n) : ∀ m v x, Sp.Wk (Sp.rl1 L n a) 0 m v x → v < n
  | 0, v, x, hw => by obtain ⟨rfl, -⟩ := hw; exact hn
  | m + 1, v, x, hw => by
    obtain ⟨b, hb, rfl, hw⟩ := hw
    have ih := Sp.rl1_wk hL hn m b.f _ hw
    unfold Sp.rl1 at hb
    rcases List.mem_append.1 hb with h | h
    · exact (hL b h).2
    · simp only [List.mem_cons, List.not_mem_nil, or_false] at h
      rcases h with rfl | rfl
      · have : n < n := ih; omega
      · have : n + 1 < n := ih; omega
theorem Sp.rl1_no {L : List Sp.Arc} {n q : Nat} {a : Int} {K : Nat → Nat} (hL : ∀ x ∈ L, x.f < n ∧ x.t < n) (hp : ∀ x ∈ L, 0 ≤ x.l) (hn : 0 < n) : ¬ Sp.Rnd (Sp.rl1 L n a) (n + 2) 0 q K := fun h => by
  have hf : ∀ i, i < q → ((Sp.rl1 L n a).getD (K i) Sp.arc0).f < n := by
    intro i
    induction i with
    | zero =>
      intro _
      obtain ⟨m, x, hw⟩ := h.att
      exact Sp.rl1_wk hL hn m _ x hw
    | succ i ih =>
      intro hi
      have h1 := ih (by omega)
      have h2 := h.on i (by omega)
      rw [Nat.mod_eq_of_lt hi] at h2
      rw [← h2]
      rcases Sp.rl1_at L n a (h.at_ i (by omega)) with ⟨h3, h4⟩ | ⟨h3, h4⟩ | ⟨h3, h4⟩
      · rw [h4]; exact (hL _ (Sp.arc_mem h3)).2
      · rw [h4] at h1; have : n < n := h1; omega
      · rw [h4] at h1; have : n + 1 < n := h1; omega
  have hs := Sp.smK_pos (L := Sp.rl1 L n a) (K := K) q (fun i hi => by
    have h1 := hf i hi
    rcases Sp.rl1_at L n a (h.at_ i hi) with ⟨h3, h4⟩ | ⟨h3, h4⟩ | ⟨h3, h4⟩
    · rw [h4]; exact hp _ (Sp.arc_mem h3)
    · rw [h4] at h1; have : n < n := h1; omega
    · rw [h4] at h1; have : n + 1 < n := h1; omega)
  have := h.sum
  omega
theorem Sp.rl1_far {L : List Sp.Arc} {n : Nat} {a : Int} {D : Nat → Int} (hL : ∀ x ∈ L, x.f < n ∧ x.t < n) (hn : 0 < n) (hD : Sp.Short 1152921504606846976 (Sp.rl1 L n a) 0 (n + 2) D) : ∀ v, n ≤ v → v < n + 2 → D v = 1152921504606846976 := fun v h1 h2 => by
  by_cases e : D v = 1152921504606846976
  · exact e
  · obtain ⟨m, hw⟩ := hD.att v h2 e
    have := Sp.rl1_wk hL hn m v _ hw
    omega
theorem Sp.rl2_no {L : List Sp.Arc} {n p : Nat} {a : Int} {D : Nat → Int} (ha : 0 < a) (hp : p = n ∨ p = n + 1) : ¬ Sp.Short 1152921504606846976 (Sp.rl2 L n p a) 0 (n + 2) D := fun h => by
  have h1 := h.arc ⟨0, p, 100⟩ (by unfold Sp.rl2; simp) (by show D 0 ≠ _; rw [h.src]; decide)
  have h2 := h.arc ⟨n, n + 1, 3⟩ (by unfold Sp.rl2 Sp.rl1; simp)
  have h3 := h.arc ⟨n + 1, n, -3 - a⟩ (by unfold Sp.rl2 Sp.rl1; simp)
  have h1' : D p ≠ 1152921504606846976 := h1.1
  have h2' : D n ≠ 1152921504606846976 → D (n + 1) ≠ 1152921504606846976 ∧ D (n + 1) ≤ D n + 3 := h2
  have h3' : D (n + 1) ≠ 1152921504606846976 → D n ≠ 1152921504606846976 ∧ D n ≤ D (n + 1) + (-3 - a) := h3
  rcases hp with rfl | rfl
  · obtain ⟨h4, h5⟩ := h2' h1'
    obtain ⟨-, h6⟩ := h3' h4
    omega
  · obtain ⟨h4, h5⟩ := h3' h1'
    obtain ⟨-, h6⟩ := h2' h4
    omega
theorem Sp.rl2_two {L : List Sp.Arc} {n q p : Nat} {a : Int} {K : Nat → Nat} (hL : ∀ x ∈ L, x.f < n ∧ x.t < n) (hp : ∀ x ∈ L, 0 ≤ x.l) (hn : 0 < n) (h : Sp.Rnd (Sp.rl2 L n p a) (n + 2) 0 q K) : q = 2 ∧ ((K 0 = L.length ∧ K 1 = L.length + 1) ∨ (K 0 = L.length + 1 ∧ K 1 = L.length)) := by
  have hq := h.pos
  -- one arc is below 0
  obtain ⟨i, hi, hKi⟩ : ∃ i, i < q ∧ K i = L.length + 1 := by
    rcases Classical.em (∃ i, i < q ∧ K i = L.length + 1) with h1 | h1
    · exact h1
    · exfalso
      have hs := Sp.smK_pos (L := Sp.rl2 L n p a) (K := K) q (fun i hi => by
        rcases Sp.rl2_at L n p a (h.at_ i hi) with ⟨h3, h4⟩ | ⟨h3, h4⟩ | ⟨h3, h4⟩ | ⟨h3, h4⟩
        · rw [h4]; exact hp _ (Sp.arc_mem h3)
        · rw [h4]; show (0 : Int) ≤ 3; omega
        · exact absurd ⟨i, hi, h3⟩ h1
        · rw [h4]; show (0 : Int) ≤ 100; omega)
      have := h.sum
      omega
  -- what begins at n, at n + 1
  have hN : ∀ i, i < q → ((Sp.rl2 L n p a).getD (K i) Sp.arc0).f = n → K i = L.length ∧ ((Sp.rl2 L n p a).getD (K i) Sp.arc0).t = n + 1 := fun i hi e => by
    rcases Sp.rl2_at L n p a (h.at_ i hi) with ⟨h3, h4⟩ | ⟨h3, h4⟩ | ⟨h3, h4⟩ | ⟨h3, h4⟩
    · rw [h4] at e; have := (hL _ (Sp.arc_mem h3)).1; omega
    · rw [h4]; exact ⟨h3, rfl⟩
    · rw [h4] at e; have : n + 1 = n := e; omega
    · rw [h4] at e; have : 0 = n := e; omega
  have hN1 : ∀ i, i < q → ((Sp.rl2 L n p a).getD (K i) Sp.arc0).f = n + 1 → K i = L.length + 1 ∧ ((Sp.rl2 L n p a).getD (K i) Sp.arc0).t = n := fun i hi e => by
    rcases Sp.rl2_at L n p a (h.at_ i hi) with ⟨h3, h4⟩ | ⟨h3, h4⟩ | ⟨h3, h4⟩ | ⟨h3, h4⟩
    · rw [h4] at e; have := (hL _ (Sp.arc_mem h3)).1; omega
    · rw [h4] at e; have : n = n + 1 := e; omega
    · rw [h4]; exact ⟨h3, rfl⟩
    · rw [h4] at e; have : 0 = n + 1 := e; omega
  have hfi : ((Sp.rl2 L n p a).getD (K i) Sp.arc0).f = n + 1 ∧ ((Sp.rl2 L n p a).getD (K i) Sp.arc0).t = n := by
    rcases Sp.rl2_at L n p a (h.at_ i hi) with ⟨h3, h4⟩ | ⟨h3, h4⟩ | ⟨h3, h4⟩ | ⟨h3, h4⟩
    · omega
    · omega
    · rw [h4]; exact ⟨rfl, rfl⟩
    · omega
  have hj : (i + 1) % q < q := Nat.mod_lt _ hq
  have h1 := h.on i hi
  rw [hfi.2] at h1
  obtain ⟨h2, h3⟩ := hN _ hj h1.symm
  have hk : ((i + 1) % q + 1) % q < q := Nat.mod_lt _ hq
  have h4 := h.on _ hj
  rw [h3] at h4
  obtain ⟨h5, -⟩ := hN1 _ hk h4.symm
  have hij : (i + 1) % q ≠ i := fun e => by rw [e] at h2; omega
  have hki : ((i + 1) % q + 1) % q = i := by
    have e : ((Sp.rl2 L n p a).getD (K (((i + 1) % q + 1) % q)) Sp.arc0).f = ((Sp.rl2 L n p a).getD (K i) Sp.arc0).f := by rw [h5, hKi]
    rcases Nat.lt_trichotomy (((i + 1) % q + 1) % q) i with hl | hl | hl
    · exact absurd e (h.apart _ _ hl hi)
    · exact hl
    · exact absurd e.symm (h.apart _ _ hl hk)
  have hq2 : q = 2 := by
    by_cases e1 : i + 1 = q
    · rw [e1, Nat.mod_self] at hki hij
      by_cases e2 : 0 + 1 = q
      · omega
      · rw [Nat.mod_eq_of_lt (by omega)] at hki; omega
    · have e3 : (i + 1) % q = i + 1 := Nat.mod_eq_of_lt (by omega)
      rw [e3] at hki
      by_cases e2 : i + 1 + 1 = q
      · rw [e2, Nat.mod_self] at hki; omega
      · rw [Nat.mod_eq_of_lt (by omega)] at hki; omega
  subst hq2
  refine ⟨rfl, ?_⟩
  have hi2 : i = 0 ∨ i = 1 := by omega
  rcases hi2 with rfl | rfl
  · exact .inr ⟨hKi, h2⟩
  · exact .inl ⟨h2, hKi⟩
end Go.Proofs.Ytggjpglakocilab


/- The law PathMore, walked. -/
namespace Go.Proofs.Ytggjpglakocilab
open Go Go.RowKit

theorem Sp.Wk.mono {L L' : List Sp.Arc} (h : ∀ a ∈ L, a ∈ L') {s : Nat} : ∀ m v x, Sp.Wk L s m v x → Sp.Wk L' s m v x
  | 0, _, _, hw => hw
  | m + 1, v, x, hw => by
    obtain ⟨a, ha, e, hw⟩ := hw
    exact ⟨a, h a ha, e, Sp.Wk.mono h m _ _ hw⟩
theorem Sp.Short.congr {L L' : List Sp.Arc} {s n : Nat} {D : Nat → Int} (h : Sp.Short 1152921504606846976 L s n D) (hm : ∀ a, a ∈ L ↔ a ∈ L') : Sp.Short 1152921504606846976 L' s n D :=
  ⟨h.src, fun a ha => h.arc a ((hm a).2 ha), fun v hv hne => by obtain ⟨m, hk⟩ := h.att v hv hne; exact ⟨m, Sp.Wk.mono (fun a ha => (hm a).1 ha) m _ _ hk⟩⟩
/-- With more arcs no way is longer. -/
theorem Sp.Short.more {L L' : List Sp.Arc} {s n : Nat} {D E : Nat → Int} (h : Sp.Short 1152921504606846976 L s n D) (k : Sp.Short 1152921504606846976 L' s n E) (hm : ∀ a ∈ L, a ∈ L') (hE : ∀ v, v < n → E v ≠ 1152921504606846976 → E v < 1152921504606846976) {v : Nat} (hv : v < n) : E v ≤ D v := by
  by_cases e : D v = 1152921504606846976
  · by_cases e2 : E v = 1152921504606846976
    · rw [e, e2]; exact Int.le_refl _
    · have := hE v hv e2; omega
  · obtain ⟨m, hk⟩ := h.att v hv e
    exact (k.low (by decide) m v _ (Sp.Wk.mono hm m _ _ hk)).2
theorem ArcsI.take {w : World} {a : Option Addr} {n c k : Nat} {L : List Sp.Arc} (h : ArcsI w (.slice a n c) L) (hk : k ≤ L.length) : ArcsI w (.slice a k c) (L.take k) := by
  obtain ⟨a', c', e, h1, h2, h3⟩ := h
  injection e with e1 e2 e3
  subst e1 e3
  have hl : (L.take k).length = k := by rw [List.length_take]; omega
  refine ⟨a, c, by rw [hl], by omega, h2, fun j u hj => ?_⟩
  rw [Sp.cells3_take, List.getElem?_take] at hj
  split at hj
  · exact h3 j u hj
  · cases hj
theorem ArcsI.drop {w : World} {a : Option Addr} {n c k : Nat} {L : List Sp.Arc} (h : ArcsI w (.slice a n c) L) (hk : k ≤ L.length) : ArcsI w (sliced a k n c 3) (L.drop k) := by
  obtain ⟨a', c', e, h1, h2, h3⟩ := h
  injection e with e1 e2 e3
  subst e1 e2 e3
  unfold sliced
  refine ⟨_, _, by rw [List.length_drop], by rw [List.length_drop]; omega, by omega, fun j u hj => ?_⟩
  have hlt : j < (Sp.cells3 (L.drop k)).length := (List.getElem?_eq_some_iff.1 hj).1
  rw [Sp.cells3_len, List.length_drop] at hlt
  rw [Sp.cells3_drop, List.getElem?_drop] at hj
  obtain ⟨b, o, e1, e2, e3⟩ := h3 _ _ hj
  rw [if_neg (by omega), e1]
  refine ⟨b, o + k * 3, ?_, e2, by rw [Nat.add_assoc]; exact e3⟩
  simp only [Option.map_some, Addr.add]
  split
  · rename_i h0; rw [h0, Nat.add_zero]
  · rfl
end Go.Proofs.Ytggjpglakocilab


