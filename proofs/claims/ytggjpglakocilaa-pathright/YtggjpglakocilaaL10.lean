/- What the proof needs, part 10. -/
import Derived.Test.YtggjpglakocilaaL9
/- Package path: round. -/
namespace Go.Proofs.Ytggjpglakocilaa
open Go Go.RowKit

set_option maxRecDepth 100000 in
set_option maxHeartbeats 8000000 in
theorem round_any6 (n : Nat) (L : List Sp.Arc) (D Y : Nat → Int) (pn : Nat → Nat) (x : Nat) (lv : Value) (gd gb : Nat) (w0 w : World) (hl : ArcsI w0 lv L) (h0 : Below w0.heap.size w0 w) (hy : RowAt w gb n Y) (hA : Sp.Ago L n D Y pn) (hx : x < n) (hp : n ≤ pn x) (hn : n ≤ 60) :
    Calls Try.prog 29 #[.agg #[lv, .slice (some ⟨gd, 0, none⟩) n n, .slice (some ⟨gb, 0, none⟩) n n], .int .i64 (x : Int)] w fun e w' => ∃ rv q a, e = .returned rv ∧ Below w.heap.size w w' ∧ a = Sp.itb L Y n x ∧ 0 < q ∧ q ≤ n ∧ Sp.itb L Y q a = a ∧ (∀ j, Sp.itb L Y j a < n ∧ Y (Sp.itb L Y j a) ≠ -1) ∧ (∀ j, 0 < j → j < q → Sp.itb L Y j a ≠ a) ∧ Sp.smb L Y q a < 0 ∧ OwnI w' w.heap.size rv ((List.range q).map fun i => Y (Sp.itb L Y (q - 1 - i) a)) := by
  obtain ⟨q, hq0, hqn, hqa, hga, hqm, hsm⟩ := hA.round hx hp
  obtain ⟨a, ha⟩ : ∃ a, Sp.itb L Y n x = a := ⟨_, rfl⟩
  rw [ha] at hqa hga hqm hsm
  have hgbl := hy.lt
  obtain ⟨la, lc, rfl, -, -, HL0⟩ := hl.all
  obtain ⟨W1, hW1⟩ : ∃ W1, W1 = w.alloc (.cells #[.slice la L.length lc, .slice (some ⟨gd, 0, none⟩) n n, .slice (some ⟨gb, 0, none⟩) n n] 48) := ⟨_, rfl⟩
  have hb1 : Below w.heap.size w W1 := by rw [hW1]; exact (Below.refl _ w).alloc (Nat.le_refl _) _
  have hs1 : W1.heap.size = w.heap.size + 1 := by rw [hW1]; simp
  have ht := trail_new w (.slice la L.length lc) (.slice (some ⟨gd, 0, none⟩) n n) (.slice (some ⟨gb, 0, none⟩) n n)
  rw [← hW1] at ht
  -- what may be read at a place
  have HV : Hid (∀ v, v < n → Y v ≠ -1 → ∃ (k b o : Nat), Y v = (k : Int) ∧ k < L.length ∧ la = some ⟨b, o, none⟩ ∧ Sp.bk L Y v < n ∧ ∀ w', Below W1.heap.size W1 w' → w'.cell? ⟨w.heap.size, 0, none⟩ = some (.slice la L.length lc) ∧ w'.cell? ⟨w.heap.size, 2, none⟩ = some (.slice (some ⟨gb, 0, none⟩) n n) ∧ w'.cell? ⟨gb, v, none⟩ = some (.int .i64 (k : Int)) ∧ w'.cell? ⟨b, o + k * 3, none⟩ = some (.int .i64 ((Sp.bk L Y v : Nat) : Int))) := hide fun v hv hyv => by
    obtain ⟨-, h2, -, -, k, h5, h6⟩ := hA.arc hv hyv
    obtain ⟨b, o, e1, e2, e3⟩ := unhide HL0 k h6
    refine ⟨k, b, o, h5, h6, e1, h2, fun w' hb => ?_⟩
    have hbw : Below w.heap.size w w' := hb1.trans (hb.mono hb1.size)
    have hc := (hy.below hbw).cell hv
    rw [h5] at hc
    have e4 := (e3 w' (h0.trans (hbw.mono h0.size))).1
    have e5 : Sp.bk L Y v = (L.getD k Sp.arc0).f := by unfold Sp.bk; rw [h5, Int.toNat_natCast]
    rw [← e5] at e4
    exact ⟨(hb.cell (p := ⟨w.heap.size, 0, none⟩) (by show w.heap.size < _; omega)).trans ht.1, (hb.cell (p := ⟨w.heap.size, 2, none⟩) (by show w.heap.size < _; omega)).trans ht.2.2, hc, e4⟩
  have HB2 : Hid (∀ w', Below W1.heap.size W1 w' → w'.cell? ⟨w.heap.size, 2, none⟩ = some (.slice (some ⟨gb, 0, none⟩) n n) ∧ Below w.heap.size w w') := hide fun w' hb => ⟨(hb.cell (p := ⟨w.heap.size, 2, none⟩) (by show w.heap.size < _; omega)).trans ht.2.2, hb1.trans (hb.mono hb1.size)⟩
  have HBk : Hid (∀ m, m < n → Sp.itb L Y m x < n ∧ Y (Sp.itb L Y m x) ≠ -1) := hide fun m hm => by
    obtain ⟨h1, h2⟩ := hA.back hx m (by omega)
    exact ⟨h1, hA.ne h1 (by omega)⟩
  have HGa := hide hga
  have HQm := hide hqm
  have HEq := hide (And.intro hqa (And.intro hsm ha))
  have HS1 := hide hs1
  obtain ⟨P, hP⟩ : ∃ P : Ending → World → Prop, P = fun e w' => ∃ rv q a, e = .returned rv ∧ Below w.heap.size w w' ∧ a = Sp.itb L Y n x ∧ 0 < q ∧ q ≤ n ∧ Sp.itb L Y q a = a ∧ (∀ j, Sp.itb L Y j a < n ∧ Y (Sp.itb L Y j a) ≠ -1) ∧ (∀ j, 0 < j → j < q → Sp.itb L Y j a ≠ a) ∧ Sp.smb L Y q a < 0 ∧ OwnI w' w.heap.size rv ((List.range q).map fun i => Y (Sp.itb L Y (q - 1 - i) a)) := ⟨_, rfl⟩
  rw [← hP]
  have HP := hide hP
  have y2 := (unhide HB2 W1 (Below.refl _ _)).1
  clear hP hl h0 hy hA hp HL0 hqa hga hqm hsm ha hb1 ht hs1
  subst hW1
  go_enter Try.func29, Try.ntmps29
  go_wp2
  generalize w.alloc (.cells #[.slice la L.length lc, .slice (some ⟨gd, 0, none⟩) n n, .slice (some ⟨gb, 0, none⟩) n n] 48) = W1 at *
  go_loopg [1, 10] n (fun g s1 s10 wr => ∃ m : Nat, m + g = n ∧ s1 = .int .i64 ((Sp.itb L Y m x : Nat) : Int) ∧ s10 = .int .i64 (m : Int) ∧ Hid (Below W1.heap.size W1 wr))
  case atStart => exact ⟨0, by omega, rfl, rfl, hide (Below.refl _ _)⟩
  case round =>
    clear y2
    obtain ⟨m, hmg, rfl, rfl, HB⟩ := hrel
    cases gk with
    | succ g' =>
      have hm : m < n := by omega
      have hmI : (m : Int) < (n : Int) := by omega
      obtain ⟨hvn, hvy⟩ := unhide HBk m hm
      obtain ⟨k, b, o, hk1, hk2, rfl, hbn, hcs⟩ := unhide HV _ hvn hvy
      obtain ⟨z0, z2, c1, c2⟩ := hcs wr (unhide HB)
      clear hcs
      have hkI : (k : Int) < (L.length : Int) := by omega
      have hvI : ((Sp.itb L Y m x : Nat) : Int) < (n : Int) := by omega
      have hnx : Sp.bk L Y (Sp.itb L Y m x) = Sp.itb L Y (m + 1) x := rfl
      rw [hnx] at c2
      generalize Sp.itb L Y m x = v at *
      have HB3 : Hid (∀ nq, Below W1.heap.size W1 (wr.drewN nq)) := hide fun nq => below_dn (unhide HB) nq
      clear hk1 hvy hnx HB hbn
      go_wp2_with fail
      go_quiet (fail)
      go_wp2
      go_roundg g'
      case rel => exact ⟨m + 1, by omega, rfl, by go_num, hide (unhide HB3 _)⟩
      case measure => omega
    | zero =>
      obtain rfl : m = n := by omega
      have hmm : ¬ (m : Int) < (m : Int) := by omega
      rw [(unhide HEq).2.2]
      obtain ⟨han, hay⟩ : a < m ∧ Y a ≠ -1 := unhide HGa 0
      obtain ⟨k, b, o, hk1, hk2, rfl, hbn, hcs⟩ := unhide HV a han hay
      obtain ⟨z0, z2, c1, c2⟩ := hcs wr (unhide HB)
      have haI : (a : Int) < (m : Int) := by omega
      have hkI : (k : Int) < (L.length : Int) := by omega
      obtain ⟨wA, hwA⟩ : ∃ wA, wA = wr.alloc (.cells #[.int .i64 (k : Int)] 3) := ⟨_, rfl⟩
      obtain ⟨gA, hgA⟩ : ∃ gA, gA = wr.heap.size := ⟨_, rfl⟩
      have hbA : Below W1.heap.size W1 wA := by rw [hwA]; exact (unhide HB).alloc (unhide HB).size _
      have hoA : OwnI wA W1.heap.size (.slice (some ⟨gA, 0, none⟩) 1 1) [(k : Int)] := by rw [hwA]; exact own_lit wr _ _ 1 [(k : Int)] hgA.symm rfl (unhide HB).size (by simp)
      have y1 : wA.cell? ⟨gA, 0, none⟩ = some (.int .i64 (k : Int)) := own_cell hoA 0 (by simp)
      obtain ⟨a0, a2, a3, a4⟩ := hcs wA hbA
      have HS : Hid ((∀ nq, Below W1.heap.size W1 (wA.drewN nq)) ∧ (∀ nq, OwnI (wA.drewN nq) W1.heap.size (.slice (some ⟨gA, 0, none⟩) 1 1) ((List.range 1).map fun j => Y (Sp.itb L Y j a)))) := hide ⟨fun nq => below_dn hbA nq, fun nq => by
        show OwnI (wA.drewN nq) _ _ [Y a]
        rw [hk1]; exact own_dn hoA ⟨nq, rfl⟩⟩
      have hnx : Sp.bk L Y a = Sp.itb L Y 1 a := rfl
      rw [hnx] at a4 c2
      clear HB hbA hoA hcs hk1 hbn hnx hay hmg
      go_wp2
      rw [← hwA, ← hgA]
      clear hwA hgA z0 z2 c1 c2
      go_quiet (fail)
      go_wp2
      clear y1 a0 a2 a3 a4 hkI hmm
      go_loopg [5, 6] (q - 1) (fun g s5 s6 wq => ∃ (i c5 : Nat) (a5 : Option Addr), 0 < i ∧ i + g = q ∧ s5 = .slice a5 i c5 ∧ s6 = .int .i64 ((Sp.itb L Y i a : Nat) : Int) ∧ Hid (Below W1.heap.size W1 wq ∧ OwnI wq W1.heap.size (.slice a5 i c5) ((List.range i).map fun j => Y (Sp.itb L Y j a))))
      case atStart => exact ⟨1, 1, _, by omega, by omega, rfl, rfl, hide ⟨(unhide HS).1 _, (unhide HS).2 _⟩⟩
      case round =>
        clear HS
        obtain ⟨i, c5, a5, hi0, hig, rfl, rfl, HI⟩ := hrel
        cases gk with
        | succ g' =>
          obtain ⟨hvn, hvy⟩ := unhide HGa i
          obtain ⟨k', b', o', e1, e2, e3, e4, hcs⟩ := unhide HV _ hvn hvy
          cases e3
          obtain ⟨z0, z2, c1, c2⟩ := hcs wr (unhide HI).1
          have hne := unhide HQm i hi0 (by omega)
          have hneI : ¬ ((Sp.itb L Y i a : Nat) : Int) = (a : Int) := by omega
          have hbb : (((Sp.itb L Y i a : Nat) : Int) != (a : Int)) = true := bne_iff_ne.2 hneI
          have hvI : ((Sp.itb L Y i a : Nat) : Int) < (m : Int) := by omega
          have hkI : (k' : Int) < (L.length : Int) := by omega
          have HLs : Hid (((List.range (i + 1)).map fun j => Y (Sp.itb L Y j a)) = ((List.range i).map fun j => Y (Sp.itb L Y j a)) ++ [(k' : Int)]) := hide (by rw [List.range_succ, List.map_append, ← e1]; rfl)
          have HLen : Hid (((List.range i).map fun j => Y (Sp.itb L Y j a)).length = i) := hide (by simp)
          have hnx : Sp.bk L Y (Sp.itb L Y i a) = Sp.itb L Y (i + 1) a := rfl
          have HC := hide hcs
          clear e1 hvy hne e4 z0 c2
          obtain ⟨v2, hv2⟩ : ∃ v2, Sp.itb L Y (i + 1) a = v2 := ⟨_, rfl⟩
          rw [hnx, hv2] at HC
          have HV2 := hide hv2
          clear hv2
          generalize Sp.itb L Y i a = v at *
          clear hcs hnx
          go_wp2_with (at_builtin; refine wpList_app (w := wr.alloc (.cells #[.int .i64 (k' : Int)] 3)) rfl _ _ rfl W1.heap.size _ _ _ [(k' : Int)] rfl rfl (World.ownsRow.alloc (unhide HI).2 _) (OwnI.ints (own_lit wr 0 _ 1 [(k' : Int)] rfl rfl (Nat.zero_le _) (by simp))) (i + 1) (by rw [unhide HLen]; simp) (by omega) (by have := (unhide HI).1.size; simp; omega) ?_)
          intro a6 c6 w6 hown6 hb6 hg6
          have HI6 : Hid (Below W1.heap.size W1 w6 ∧ OwnI w6 W1.heap.size (.slice a6 (i + 1) c6) ((List.range (i + 1)).map fun j => Y (Sp.itb L Y j a))) := hide ⟨((unhide HI).1.alloc (unhide HI).1.size _).trans hb6, by rw [unhide HLs]; exact hown6⟩
          obtain ⟨y0, y1, y2, y3⟩ := unhide HC w6 (unhide HI6).1
          clear hown6 hb6 hg6 HC HI z2 c1 HLs HLen hbb hneI
          go_wp2
          go_quiet (fail)
          go_wp2
          go_roundg g'
          case rel => exact ⟨i + 1, c6, a6, by omega, by omega, rfl, by rw [unhide HV2], hide ⟨below_dn (unhide HI6).1 _, own_dn (unhide HI6).2 ⟨_, rfl⟩⟩⟩
          case measure => omega
        | zero =>
          obtain rfl : i = q := by omega
          rw [(unhide HEq).1]
          have hbb : ((a : Int) != (a : Int)) = false := by simp
          obtain ⟨g, rfl⟩ : ∃ g, a5 = some ⟨g, 0, none⟩ := by
            rcases (unhide HI).2.2 with ⟨e, h⟩ | ⟨g, cap, cur, e, -⟩
            · exfalso; injection e with _ e2; omega
            · injection e with e1; exact ⟨g, e1⟩
          have HR := hide (reverse_any i c5 g W1.heap.size (fun j => Y (Sp.itb L Y j a)) wr hi0 (by omega) (unhide HI).2)
          go_wp2_with fail
          go_at_call 48
          refine (unhide HR).mono ?_
          rintro e w3 ⟨rfl, hb3, ho3⟩
          have HB3 := hide (unhide HB2 w3 ((unhide HI).1.trans hb3)).2
          have HO3 := hide (own_base ho3 (B' := w.heap.size) (by rw [unhide HS1]; omega))
          clear hb3 ho3 HI HR
          go_wp2
          rw [unhide HP]
          exact ⟨_, i, a, rfl, unhide HB3, (unhide HEq).2.2.symm, hi0, by omega, (unhide HEq).1, unhide HGa, unhide HQm, (unhide HEq).2.1, unhide HO3⟩
end Go.Proofs.Ytggjpglakocilaa


/- Package path: Any where no row of lengths is: a round is told. (gen_a25.py makes this from A12.) -/
namespace Go.Proofs.Ytggjpglakocilaa
open Go Go.RowKit

/-- Before the first pass. -/
theorem Sp.Pas.zero {L : List Sp.Arc} {n : Nat} {D Y : Nat → Int} {clock : Nat} (h : Sp.Pas L n 0 0 D Y (fun _ => 0) (fun _ => 0) clock) : Sp.Pas L n (0 + 1) 0 D Y (fun _ => 0) (fun _ => 0) clock :=
  ⟨h.tr, fun _ => by omega, h.num, fun m _ hp => by omega, fun m hm => by omega⟩
set_option maxRecDepth 100000 in
set_option maxHeartbeats 8000000 in
theorem any_no (N : Nat) (L : List Sp.Arc) (s : Nat) (lv : Value) (w : World) (hl : ArcsI w lv L) (hS : Sp.Snd N L) (hs : s < N) (hN : N ≤ 60) (hex : ∀ k, k < N → ¬ Sp.still L (Sp.pk L s k)) :
    Calls Try.prog 16 #[.int .i64 (N : Int), lv, .int .i64 (s : Int)] w fun e w' => ∃ rv q a Y pn, e = .returned (.tuple #[.slice none 0 0, rv, .bool false]) ∧ Below w.heap.size w w' ∧ Sp.Ago L N (Sp.pk L s N) Y pn ∧ 0 < q ∧ q ≤ N ∧ Sp.itb L Y q a = a ∧ (∀ j, Sp.itb L Y j a < N ∧ Y (Sp.itb L Y j a) ≠ -1) ∧ (∀ j, 0 < j → j < q → Sp.itb L Y j a ≠ a) ∧ Sp.smb L Y q a < 0 ∧ OwnI w' w.heap.size rv ((List.range q).map fun i => Y (Sp.itb L Y (q - 1 - i) a)) := by
  have hsI : (s : Int) < (N : Int) := by omega
  obtain ⟨W1, hW1⟩ : ∃ W1, W1 = w.alloc (.cells #[.int .i64 (s : Int)] 3) := ⟨_, rfl⟩
  have hb1 : Below w.heap.size w W1 := by rw [hW1]; exact (Below.refl _ w).alloc (Nat.le_refl _) _
  have hI1 : Ints W1 (.slice (some ⟨w.heap.size, 0, none⟩) 1 1) [(s : Int)] := by rw [hW1]; exact OwnI.ints (own_lit w 0 _ 1 [(s : Int)] rfl rfl (Nat.zero_le _) (by simp))
  have HC1 := hide (psound_yes N L [(s : Int)] lv _ W1 (hl.below hb1) hI1 (by simp) (by omega) hS (by simp; omega))
  have HB1 := hide (And.intro hb1 (show w.heap.size ≤ W1.heap.size by rw [hW1]; simp))
  obtain ⟨la, lc, rfl, -⟩ := hl.form
  have HC2 : Hid (∀ w', Calls Try.prog 27 #[.int .i64 (N : Int), .slice la L.length lc, .int .i64 (s : Int)] w' fun e w'' => ∃ gd gb, e = .returned (.agg #[.slice la L.length lc, .slice (some ⟨gd, 0, none⟩) N N, .slice (some ⟨gb, 0, none⟩) N N]) ∧ w'.heap.size ≤ gd ∧ w'.heap.size ≤ gb ∧ gd ≠ gb ∧ RowAt w'' gd N (Sp.d0 1152921504606846976 s) ∧ RowAt w'' gb N (fun _ => -1) ∧ Below w'.heap.size w' w'') := hide fun w' => trailFrom_any N s _ w' ⟨_, _, _, rfl⟩ hN hs
  have HPs : Hid (∀ (w' : World) (k : Nat) (Y : Nat → Int) (gd gb : Nat), k < N → Below w.heap.size w w' → RowAt w' gd N (Sp.pk L s k) → RowAt w' gb N Y → w.heap.size ≤ gd → w.heap.size ≤ gb → gd ≠ gb → Calls Try.prog 28 #[.agg #[.slice la L.length lc, .slice (some ⟨gd, 0, none⟩) N N, .slice (some ⟨gb, 0, none⟩) N N]] w' fun e w'' => e = .returned (.int .i64 (Sp.pq L (Sp.pk L s k) Y L.length).2.2) ∧ RowAt w'' gd N (Sp.pk L s (k + 1)) ∧ RowAt w'' gb N (Sp.pq L (Sp.pk L s k) Y L.length).2.1 ∧ Bt (fun b => b = gd ∨ b = gb) w' w'') := hide fun w' k Y gd gb hk hb hd hy h1 h2 h3 => by
    have h := pass_any N L (Sp.pk L s k) Y _ gd gb w w' _ hl hb hS hd hy h1 h2 h3 (by omega) (Sp.pk_small (by omega) hS.few) (Sp.pk_bnd hS k)
    rw [Sp.pk_succ] at h
    exact h
  have HSt := hide hex
  have HPs2 : Hid (∀ k Y, k < N → (∃ tm pn clock, Sp.Pas L N (k + 1) 0 (Sp.pk L s k) Y tm pn clock) → ∃ x : Nat, (Sp.pq L (Sp.pk L s k) Y L.length).2.2 = (x : Int) ∧ x < N ∧ ∃ tm pn clock, Sp.Pas L N (k + 1) L.length (Sp.pk L s (k + 1)) (Sp.pq L (Sp.pk L s k) Y L.length).2.1 tm pn clock ∧ pn x = k + 1) := hide fun k Y hk h => by
    obtain ⟨tm, pn, clock, h1, h2⟩ := Sp.Pas.pass (L := L) (n := N) (K := k + 1) (D := Sp.pk L s k) (Y := Y) (fun i hi v hv => by
      have hb := Sp.Bnd.pq Y hS (Int.mul_nonneg (Int.natCast_nonneg _) (by decide)) (Sp.pk_bnd (s := s) hS k) i (by omega) v hv
      have hf := hS.few
      have h1 : k * L.length ≤ 60 * L.length := Nat.mul_le_mul_right _ (by omega)
      generalize k * L.length = x at *
      rcases hb with h | h
      · exact .inl h
      · exact .inr (by omega)) (fun a ha => ⟨(hS.at_ a ha).1, (hS.at_ a ha).2.1, (hS.at_ a ha).2.2.2⟩) L.length (Nat.le_refl _) h
    rcases h2 with h2 | ⟨x, h2, h3, h4⟩
    · exact absurd ((Sp.pq_stop L _ Y).1 h2) (hex k hk)
    · rw [Sp.pk_succ] at h1
      exact ⟨x, h2, h3, tm, pn, clock, h1, h4⟩
  have HRd : Hid (∀ (w' : World) (D Y : Nat → Int) (pn : Nat → Nat) (x gd gb : Nat), Below w.heap.size w w' → RowAt w' gb N Y → Sp.Ago L N D Y pn → x < N → N ≤ pn x → Calls Try.prog 29 #[.agg #[.slice la L.length lc, .slice (some ⟨gd, 0, none⟩) N N, .slice (some ⟨gb, 0, none⟩) N N], .int .i64 (x : Int)] w' fun e w'' => ∃ rv q a, e = .returned rv ∧ Below w'.heap.size w' w'' ∧ a = Sp.itb L Y N x ∧ 0 < q ∧ q ≤ N ∧ Sp.itb L Y q a = a ∧ (∀ j, Sp.itb L Y j a < N ∧ Y (Sp.itb L Y j a) ≠ -1) ∧ (∀ j, 0 < j → j < q → Sp.itb L Y j a ≠ a) ∧ Sp.smb L Y q a < 0 ∧ OwnI w'' w'.heap.size rv ((List.range q).map fun i => Y (Sp.itb L Y (q - 1 - i) a))) := hide fun w' D Y pn x gd gb hb hy hA hx hp => round_any6 N L D Y pn x _ gd gb w w' hl hb hy hA hx hp hN
  have HAg : Hid (∀ k Y tm pn clock, Sp.Pas L N k L.length (Sp.pk L s k) Y tm pn clock → Sp.Ago L N (Sp.pk L s k) Y pn) := hide fun k Y tm pn clock h => ⟨⟨tm, clock, h.tr⟩, fun a ha => ⟨(hS.at_ a ha).1, (hS.at_ a ha).2.1⟩, h.num⟩
  have HPq : Hid (∀ k Y, (Sp.pq L (Sp.pk L s k) Y L.length).2.2 = -1 ↔ Sp.still L (Sp.pk L s k)) := hide fun k Y => Sp.pq_stop L _ Y
  obtain ⟨P, hP⟩ : ∃ P : Ending → World → Prop, P = fun e w' => ∃ rv q a Y pn, e = .returned (.tuple #[.slice none 0 0, rv, .bool false]) ∧ Below w.heap.size w w' ∧ Sp.Ago L N (Sp.pk L s N) Y pn ∧ 0 < q ∧ q ≤ N ∧ Sp.itb L Y q a = a ∧ (∀ j, Sp.itb L Y j a < N ∧ Y (Sp.itb L Y j a) ≠ -1) ∧ (∀ j, 0 < j → j < q → Sp.itb L Y j a ≠ a) ∧ Sp.smb L Y q a < 0 ∧ OwnI w' w.heap.size rv ((List.range q).map fun i => Y (Sp.itb L Y (q - 1 - i) a)) := ⟨_, rfl⟩
  rw [← hP]
  have HP := hide hP
  clear hP hl hS hb1 hI1 hex
  subst hW1
  go_enter Try.func16, Try.ntmps16
  go_wp2_with fail
  go_at_call 22
  generalize w.alloc (.cells #[.int .i64 (s : Int)] 3) = W1 at *
  refine (unhide HC1).mono ?_
  rintro e w2 ⟨rfl, hb2⟩
  have HB2 := hide ((unhide HB1).1.trans (hb2.mono (unhide HB1).2))
  clear hb2 HC1 HB1
  go_wp2_with fail
  go_at_call 27
  refine (unhide HC2 w2).mono ?_
  rintro e w3 ⟨gd, gb, rfl, hgd, hgb, hne, hd3, hy3, hb3⟩
  have hgd' : w.heap.size ≤ gd := Nat.le_trans (unhide HB2).size hgd
  have hgb' : w.heap.size ≤ gb := Nat.le_trans (unhide HB2).size hgb
  have hgdl := hd3.lt
  have hgbl := hy3.lt
  obtain ⟨W4, hW4⟩ : ∃ W4, W4 = w3.alloc (.cells #[.slice la L.length lc, .slice (some ⟨gd, 0, none⟩) N N, .slice (some ⟨gb, 0, none⟩) N N] 48) := ⟨_, rfl⟩
  have hB4 : Below w.heap.size w W4 := by
    rw [hW4]
    have h := (unhide HB2).trans (hb3.mono (unhide HB2).size)
    exact h.alloc h.size _
  have hx := trail_new w3 (.slice la L.length lc) (.slice (some ⟨gd, 0, none⟩) N N) (.slice (some ⟨gb, 0, none⟩) N N)
  rw [← hW4] at hx
  have hs4 : W4.heap.size = w3.heap.size + 1 := by rw [hW4]; simp
  have HX : Hid (∀ w', Bt (fun b => b = gd ∨ b = gb) W4 w' → w'.cell? ⟨w3.heap.size, 0, none⟩ = some (.slice la L.length lc) ∧ w'.cell? ⟨w3.heap.size, 1, none⟩ = some (.slice (some ⟨gd, 0, none⟩) N N) ∧ w'.cell? ⟨w3.heap.size, 2, none⟩ = some (.slice (some ⟨gb, 0, none⟩) N N)) := hide fun w' hb =>
    ⟨(hb.cell (a := ⟨w3.heap.size, 0, none⟩) (by show w3.heap.size < _; omega) (by show ¬ (w3.heap.size = gd ∨ w3.heap.size = gb); omega)).trans hx.1, (hb.cell (a := ⟨w3.heap.size, 1, none⟩) (by show w3.heap.size < _; omega) (by show ¬ (w3.heap.size = gd ∨ w3.heap.size = gb); omega)).trans hx.2.1, (hb.cell (a := ⟨w3.heap.size, 2, none⟩) (by show w3.heap.size < _; omega) (by show ¬ (w3.heap.size = gd ∨ w3.heap.size = gb); omega)).trans hx.2.2⟩
  have HI0 : Hid (Bt (fun b => b = gd ∨ b = gb) W4 W4 ∧ RowAt W4 gd N (Sp.pk L s 0) ∧ RowAt W4 gb N (fun _ => -1)) := hide ⟨Bt.refl _ _, by rw [hW4]; exact hd3.alloc _, by rw [hW4]; exact hy3.alloc _⟩
  have HB4 : Hid (∀ w', Bt (fun b => b = gd ∨ b = gb) W4 w' → Below w.heap.size w w') := hide fun w' hb => hB4.trans (hb.below (B := w.heap.size) (fun b hb => by rcases hb with rfl | rfl <;> assumption) hB4.size)
  clear hd3 hy3 hb3 hB4 hx hs4 HB2 HC2
  go_wp2
  rw [← hW4]
  clear hW4
  go_loopg [10, 22] N (fun g s10 s22 wr => ∃ (k : Nat) (Y : Nat → Int) (z : Int), k + g = N ∧ s10 = .int .i64 z ∧ s22 = .int .i64 (k : Int) ∧ Hid ((∃ tm pn clock, Sp.Pas L N (k + 1) 0 (Sp.pk L s k) Y tm pn clock) ∧ (k = 0 ∨ ∃ x : Nat, z = (x : Int) ∧ x < N ∧ ∃ pn, Sp.Ago L N (Sp.pk L s k) Y pn ∧ pn x = k)) ∧ Hid (Bt (fun b => b = gd ∨ b = gb) W4 wr ∧ RowAt wr gd N (Sp.pk L s k) ∧ RowAt wr gb N Y))
  case atStart => exact ⟨0, _, 0, by omega, rfl, rfl, hide ⟨⟨_, _, _, (Sp.Pas.start L N s).zero⟩, .inl rfl⟩, HI0⟩
  case round =>
    clear HI0
    obtain ⟨k, Y, z, hkg, rfl, rfl, HN, HI⟩ := hrel
    cases gk with
    | zero =>
      obtain rfl : k = N := by omega
      have hkI : ¬ (k : Int) < (k : Int) := by omega
      obtain ⟨x, rfl, hxN, HA⟩ : ∃ x : Nat, z = (x : Int) ∧ x < k ∧ Hid (∃ pn, Sp.Ago L k (Sp.pk L s k) Y pn ∧ pn x = k) := by
        rcases (unhide HN).2 with h | ⟨x, h1, h2, h3⟩
        · omega
        · exact ⟨x, h1, h2, hide h3⟩
      obtain ⟨x0, x1, x2⟩ := unhide HX wr (unhide HI).1
      have HCr := hide fun pn (h : Sp.Ago L k (Sp.pk L s k) Y pn ∧ pn x = k) => unhide HRd wr _ Y pn x gd gb (unhide HB4 _ (unhide HI).1) (unhide HI).2.2 h.1 hxN (by rw [h.2]; exact Nat.le_refl _)
      obtain ⟨pn, hpn⟩ := unhide HA
      have HCq := hide (unhide HCr pn hpn)
      have HAg2 := hide hpn.1
      have HBw := hide (unhide HB4 _ (unhide HI).1)
      clear HCr HA hpn HN HI HPs HPs2 HSt HAg HRd HPq HX HB4
      go_wp2_with fail
      go_at_call 29
      refine (unhide HCq).mono ?_
      rintro e w5 ⟨rv, q, a, rfl, hb5, -, h1, h2, h3, h4, h5, h6, h7⟩
      have HF := hide (And.intro h4 (And.intro h5 h6))
      have HO := hide (own_base h7 (unhide HBw).size)
      have HB5 := hide ((unhide HBw).trans (hb5.mono (unhide HBw).size))
      obtain ⟨ra, rc, hrv, -, -⟩ := h7.ints.form
      rw [List.length_map, List.length_range] at hrv
      have HE := hide h3
      clear h3 h4 h5 h6 h7 hb5 HCq HBw
      subst hrv
      go_wp2
      refine bodyPost_ret (v := .tuple #[.slice none 0 0, .slice ra q rc, .bool false]) (by simp [results, Try.results16, go_sem]) rfl ?_
      rw [unhide HP]
      exact ⟨_, q, a, Y, pn, rfl, unhide HB5, unhide HAg2, h1, h2, unhide HE, (unhide HF).1, (unhide HF).2.1, (unhide HF).2.2, unhide HO⟩
    | succ g' =>
      have hkN : k < N := by omega
      have hkI : (k : Int) < (N : Int) := by omega
      obtain ⟨x0, x1, x2⟩ := unhide HX wr (unhide HI).1
      have HCp := hide (unhide HPs wr k Y gd gb hkN (unhide HB4 _ (unhide HI).1) (unhide HI).2.1 (unhide HI).2.2 hgd' hgb' hne)
      obtain ⟨x, hxe, hxN, HQ⟩ := unhide HPs2 k Y hkN (unhide HN).1
      have HN2 : Hid ((∃ tm pn clock, Sp.Pas L N (k + 1 + 1) 0 (Sp.pk L s (k + 1)) (Sp.pq L (Sp.pk L s k) Y L.length).2.1 tm pn clock) ∧ (k + 1 = 0 ∨ ∃ x' : Nat, (x : Int) = (x' : Int) ∧ x' < N ∧ ∃ pn, Sp.Ago L N (Sp.pk L s (k + 1)) (Sp.pq L (Sp.pk L s k) Y L.length).2.1 pn ∧ pn x' = k + 1)) := hide (by
        obtain ⟨tm, pn, clock, h1, h2⟩ := HQ
        exact ⟨⟨tm, pn, clock, h1.next⟩, .inr ⟨x, rfl, hxN, pn, unhide HAg _ _ tm pn clock h1, h2⟩⟩)
      rw [hxe] at HCp
      clear HQ hxe HN
      generalize (Sp.pq L (Sp.pk L s k) Y L.length).2.1 = Y2 at *
      go_wp2_with fail
      go_at_call 28
      refine (unhide HCp).mono ?_
      rintro e w5 ⟨rfl, hd5, hy5, hb5⟩
      have HI5 := hide (And.intro ((unhide HI).1.trans hb5) (And.intro hd5 hy5))
      clear hd5 hy5 hb5 HI HCp x0 x1 x2
      have hst : ¬ (x : Int) = -1 := by omega
      have hshb : ((x : Int) == (-1 : Int)) = false := beq_eq_false_iff_ne.2 hst
      go_wp2
      go_roundg g'
      case rel => exact ⟨k + 1, Y2, (x : Int), by omega, rfl, by go_num, HN2, HI5⟩
      case measure => omega
end Go.Proofs.Ytggjpglakocilaa


/- Package path: Right where no row of lengths is. -/
namespace Go.Proofs.Ytggjpglakocilaa
open Go Go.RowKit

set_option maxRecDepth 100000 in
set_option maxHeartbeats 2000000 in
theorem right_no (N : Nat) (L : List Sp.Arc) (s : Nat) (dv : Value) (lv : Value) (w : World) (hl : ArcsI w lv L) (hd : ∃ a n c, dv = .slice a n c) (hS : Sp.Snd N L) (hs : s < N) (hN : N ≤ 60) (hex : ∀ k, k < N → ¬ Sp.still L (Sp.pk L s k)) :
    Calls Try.prog 15 #[.int .i64 (N : Int), lv, .int .i64 (s : Int), dv] w fun e w' => Below w.heap.size w w' ∧ e = .returned (.bool false) := by
  have HC1 : Hid (Calls Try.prog 16 #[.int .i64 (N : Int), lv, .int .i64 (s : Int)] w fun e w' => ∃ rv, e = .returned (.tuple #[.slice none 0 0, rv, .bool false]) ∧ Below w.heap.size w w') := hide ((any_no N L s lv w hl hS hs hN hex).mono (by
    rintro e w' ⟨rv, q, a, Y, pn, rfl, h, -⟩
    exact ⟨rv, rfl, h⟩))
  obtain ⟨la, lc, rfl, -⟩ := hl.form
  obtain ⟨da, dn, dc, rfl⟩ := hd
  clear hl hS hex
  go_enter Try.func15, Try.ntmps15
  go_wp2_with fail
  go_at_call 16
  refine (unhide HC1).mono ?_
  rintro e w2 ⟨rv, rfl, hb2⟩
  go_wp2
  go_ret
  exact ⟨hb2, rfl⟩
end Go.Proofs.Ytggjpglakocilaa


/- Every pass shortens a way: then a round below 0 is reached, and no row of lengths is (P601). -/
namespace Go.Proofs.Ytggjpglakocilaa
open Go Go.RowKit

theorem Sp.pas_all {N s : Nat} {L : List Sp.Arc} (hS : Sp.Snd N L) (hN : N ≤ 60) (hex : ∀ k, k < N → ¬ Sp.still L (Sp.pk L s k)) : ∀ k, k ≤ N → ∃ Y, (∃ tm pn clock, Sp.Pas L N (k + 1) 0 (Sp.pk L s k) Y tm pn clock) ∧ (k = 0 ∨ ∃ x : Nat, x < N ∧ ∃ pn, Sp.Ago L N (Sp.pk L s k) Y pn ∧ pn x = k)
  | 0, _ => ⟨_, ⟨_, _, _, (Sp.Pas.start L N s).zero⟩, .inl rfl⟩
  | k + 1, hk => by
    obtain ⟨Y, h, -⟩ := Sp.pas_all hS hN hex k (by omega)
    obtain ⟨tm, pn, clock, h1, h2⟩ := Sp.Pas.pass (L := L) (n := N) (K := k + 1) (D := Sp.pk L s k) (Y := Y) (fun i hi v hv => by
      have hb := Sp.Bnd.pq Y hS (Int.mul_nonneg (Int.natCast_nonneg _) (by decide)) (Sp.pk_bnd (s := s) hS k) i (by omega) v hv
      have hf := hS.few
      have h1 : k * L.length ≤ 60 * L.length := Nat.mul_le_mul_right _ (by omega)
      generalize k * L.length = x at *
      rcases hb with h | h
      · exact .inl h
      · exact .inr (by omega)) (fun a ha => ⟨(hS.at_ a ha).1, (hS.at_ a ha).2.1, (hS.at_ a ha).2.2.2⟩) L.length (Nat.le_refl _) h
    rcases h2 with h2 | ⟨x, -, h3, h4⟩
    · exact absurd ((Sp.pq_stop L _ Y).1 h2) (hex k (by omega))
    · rw [Sp.pk_succ] at h1
      exact ⟨_, ⟨_, _, _, h1.next⟩, .inr ⟨x, h3, pn, ⟨⟨tm, clock, h1.tr⟩, fun a ha => ⟨(hS.at_ a ha).1, (hS.at_ a ha).2.1⟩, h1.num⟩, h4⟩⟩
/-- Along the arcs back no row of lengths rises by more than they are long. -/
theorem Sp.Short.back {N s : Nat} {L : List Sp.Arc} {D D0 Y : Nat → Int} {pn : Nat → Nat} (hD : Sp.Short 1152921504606846976 L s N D) (hA : Sp.Ago L N D0 Y pn) (hr : ∀ v, v < N → D0 v ≠ 1152921504606846976 → D v ≠ 1152921504606846976) :
    ∀ m a, (∀ j, Sp.itb L Y j a < N ∧ Y (Sp.itb L Y j a) ≠ -1) → D a ≤ D (Sp.itb L Y m a) + Sp.smb L Y m a
  | 0, a, _ => by show D a ≤ D a + 0; omega
  | m + 1, a, h => by
    have ih := Sp.Short.back hD hA hr m (Sp.bk L Y a) (fun j => by rw [← Sp.itb_succ]; exact h (j + 1))
    obtain ⟨h1, h2, h3, -, k, h5, h6⟩ := hA.arc (h 0).1 (h 0).2
    have h7 := (hD.arc _ (Sp.arc_mem h6) (by
      have e : (L.getD k Sp.arc0).f = Sp.bk L Y a := by unfold Sp.bk; rw [show Y a = (k : Int) from h5, Int.toNat_natCast]
      rw [e]; exact hr _ h2 h3)).2
    have e : (Y a).toNat = k := by rw [show Y a = (k : Int) from h5, Int.toNat_natCast]
    have h1' : (L.getD (Y a).toNat Sp.arc0).t = a := h1
    rw [e] at h1'
    rw [h1'] at h7
    rw [Sp.itb_succ]
    show D a ≤ _ + ((L.getD (Y a).toNat Sp.arc0).l + Sp.smb L Y m (Sp.bk L Y a))
    have e2 : (L.getD k Sp.arc0).f = Sp.bk L Y a := by unfold Sp.bk; rw [e]
    rw [e2] at h7
    rw [e]; omega
theorem Sp.no_short {N s : Nat} {L : List Sp.Arc} (hS : Sp.Snd N L) (hs : s < N) (hN : N ≤ 60) (hex : ∀ k, k < N → ¬ Sp.still L (Sp.pk L s k)) : ¬ ∃ D, Sp.Short 1152921504606846976 L s N D := by
  rintro ⟨D, hD⟩
  obtain ⟨Y, -, h | ⟨x, hx, pn, hA, hp⟩⟩ := Sp.pas_all hS hN hex N (Nat.le_refl _)
  · omega
  · obtain ⟨q, h1, h2, h3, h4, -, h6⟩ := hA.round hx (by omega)
    have hr : ∀ v, v < N → Sp.pk L s N v ≠ 1152921504606846976 → D v ≠ 1152921504606846976 := fun v hv hne => by
      obtain ⟨m, hw⟩ := (Sp.Att.ps (L := L) (n := N) (by decide) (fun a ha => (hS.at_ a ha).1) (Sp.att0 (s := s) (by decide)) N).att v hv hne
      exact (hD.low (by decide) m v _ hw).1
    have h7 := Sp.Short.back hD hA hr q _ h4
    rw [h3] at h7
    omega
theorem Sp.pk_out {N s v : Nat} {L : List Sp.Arc} (hS : Sp.Snd N L) (hs : s < N) (hv : N ≤ v) : ∀ k, Sp.pk L s k v = 1152921504606846976
  | 0 => by
    show Sp.d0 _ s v = _
    unfold Sp.d0; rw [if_neg (by omega)]
  | k + 1 => by
    rw [← Sp.pk_succ L s k (fun _ => 0)]
    have h : ∀ i, i ≤ L.length → (Sp.pq L (Sp.pk L s k) (fun _ => 0) i).1 v = 1152921504606846976 := by
      intro i
      induction i with
      | zero => exact fun _ => Sp.pk_out hS hs hv k
      | succ i ih =>
        intro hi
        have ht := (hS.at_ _ (Sp.arc_mem (show i < L.length by omega))).2.1
        rw [Sp.pq]
        split
        · show Sp.upd _ _ _ v = _
          rw [Sp.upd_other _ _ (by omega)]; exact ih (by omega)
        · exact ih (by omega)
    exact h _ (Nat.le_refl _)
/-- A row of lengths is, one of small numbers; or every pass shortens a way, and none is. -/
theorem Sp.pk_case {N s : Nat} {L : List Sp.Arc} (hS : Sp.Snd N L) (hs : s < N) (hN : N ≤ 60) : (∃ D, Sp.Short 1152921504606846976 L s N D ∧ ∀ v, D v ≠ 1152921504606846976 → D v < 1152921504606846976) ∨ ((∀ k, k < N → ¬ Sp.still L (Sp.pk L s k)) ∧ ¬ ∃ D, Sp.Short 1152921504606846976 L s N D) := by
  by_cases h : ∀ k, k < N → ¬ Sp.still L (Sp.pk L s k)
  · exact .inr ⟨h, Sp.no_short hS hs hN h⟩
  · refine .inl ?_
    obtain ⟨k, hk⟩ := Classical.not_forall.1 h
    obtain ⟨hk1, hk2⟩ := Classical.not_imp.1 hk
    refine ⟨_, Sp.pk_short hS hs (by omega) (Classical.not_not.1 hk2), fun v hne => ?_⟩
    by_cases hv : v < N
    · have hb := (Sp.pk_bnd (s := s) hS k v hv).resolve_left hne
      have h1 := Sp.pk_small (k := k) (m := L.length) (by omega) hS.few
      omega
    · exact absurd (Sp.pk_out hS hs (by omega) k) hne
end Go.Proofs.Ytggjpglakocilaa


/- Package path: Right and the reference's Right are one. -/
namespace Go.Proofs.Ytggjpglakocilaa
open Go Go.RowKit

open Classical in
/-- Are these the lengths of the shortest ways? -/
noncomputable def Sp.rightB (L : List Sp.Arc) (s N : Nat) (l : List Int) : Bool := decide (∃ D, Sp.Short 1152921504606846976 L s N D ∧ l = (List.range N).map D)
theorem Sp.rightB_iff {L : List Sp.Arc} {s N : Nat} {l : List Int} : Sp.rightB L s N l = true ↔ ∃ D, Sp.Short 1152921504606846976 L s N D ∧ l = (List.range N).map D := by
  unfold Sp.rightB; exact @decide_eq_true_iff _ (Classical.propDecidable _)
theorem Sp.rightB_no {L : List Sp.Arc} {s N : Nat} (h : ¬ ∃ D, Sp.Short 1152921504606846976 L s N D) (l : List Int) : Sp.rightB L s N l = false := by
  cases e : Sp.rightB L s N l with
  | false => rfl
  | true =>
    obtain ⟨D, h1, -⟩ := Sp.rightB_iff.1 e
    exact absurd ⟨D, h1⟩ h
theorem Sp.rightB_yes {L : List Sp.Arc} {s N : Nat} {D : Nat → Int} (hD : Sp.Short 1152921504606846976 L s N D) (l : List Int) : decide (l = (List.range N).map D) = Sp.rightB L s N l := by
  by_cases h : l = (List.range N).map D
  · rw [decide_eq_true h, Sp.rightB_iff.2 ⟨D, hD, h⟩]
  · rw [decide_eq_false h]
    cases e : Sp.rightB L s N l with
    | false => rfl
    | true =>
      obtain ⟨D', h1, h2⟩ := Sp.rightB_iff.1 e
      exact absurd (h2.trans (List.map_congr_left fun v hv => Sp.Short.uniq h1 hD (by decide) (List.mem_range.1 hv))) h
theorem right_any6 (N : Nat) (L : List Sp.Arc) (s : Nat) (l : List Int) (lv dv : Value) (w : World) (hl : ArcsI w lv L) (hd : Ints w dv l) (hd2 : l.length ≤ 1000) (hS : Sp.Snd N L) (hs : s < N) (hN : N ≤ 60) :
    Calls Try.prog 15 #[.int .i64 (N : Int), lv, .int .i64 (s : Int), dv] w fun e w' => e = .returned (.bool (Sp.rightB L s N l)) ∧ Below w.heap.size w w' := by
  rcases Sp.pk_case hS hs hN with h | ⟨h1, h2⟩
  · refine (right_yes N L s l lv dv w hl hd hd2 hS hs hN h).mono ?_
    rintro e w' ⟨hb, D, b, rfl, hD, rfl⟩
    exact ⟨by rw [Sp.rightB_yes hD], hb⟩
  · obtain ⟨da, dc, e, -⟩ := hd.form
    refine (right_no N L s dv lv w hl ⟨_, _, _, e⟩ hS hs hN h1).mono ?_
    rintro e w' ⟨hb, rfl⟩
    exact ⟨by rw [Sp.rightB_no h2], hb⟩
set_option maxRecDepth 100000 in
set_option maxHeartbeats 2000000 in
theorem rright_any6 (N : Nat) (L : List Sp.Arc) (s : Nat) (l : List Int) (lv dv : Value) (w : World) (hl : ArcsI w lv L) (hd : Ints w dv l) (hS : Sp.Snd N L) (hs : s < N) (hN : N ≤ 60) :
    Calls Try.prog 19 #[.int .i64 (N : Int), lv, .int .i64 (s : Int), dv] w fun e w' => e = .returned (.bool (Sp.rightB L s N l)) ∧ Below w.heap.size w w' := by
  have HC := hide (rAny_any N L s lv w hl hS hs hN)
  have HD : Hid (∀ w' G (D : Nat → Int), Below w.heap.size w w' → RowAt w' G N D → Calls Try.prog 13 #[.slice (some ⟨G, 0, none⟩) N N, dv] w' fun e w'' => e = .returned (.bool (decide ((List.range N).map D = l))) ∧ Below w'.heap.size w' w'') := hide fun w' G D hb hr => ints6_any _ l _ dv w' (hr.ints (by omega)) (hd.below hb) (by simp; omega)
  have HK := hide (Sp.pk_case hS hs hN)
  obtain ⟨la, lc, rfl, -⟩ := hl.form
  obtain ⟨da, dc, rfl, -⟩ := hd.form
  obtain ⟨P, hP⟩ : ∃ P : Ending → World → Prop, P = fun e w' => e = .returned (.bool (Sp.rightB L s N l)) ∧ Below w.heap.size w w' := ⟨_, rfl⟩
  rw [← hP]
  have HP := hide hP
  clear hP hl hd hS
  go_enter Try.func19, Try.ntmps19
  go_wp2_with fail
  go_at_call 17
  refine (unhide HC).mono ?_
  rintro e w2 ⟨hb2, ⟨G, D, rfl, hG, hr2, hD⟩ | ⟨rfl, hno⟩⟩
  · have HDe := unhide HD w2 G D hb2 hr2
    have e1 : decide ((List.range N).map D = l) = Sp.rightB L s N l := by
      rw [← Sp.rightB_yes hD]
      exact decide_eq_decide.2 ⟨Eq.symm, Eq.symm⟩
    rw [e1] at HDe
    have HDf := hide HDe
    have HQ := hide hb2
    generalize Sp.rightB L s N l = R at *
    clear hr2 hb2 hD HD HDe HC e1
    go_wp2_with fail
    go_at_call 13
    refine (unhide HDf).mono ?_
    rintro e w3 ⟨rfl, hb3⟩
    have HB3 := hide ((unhide HQ).trans (hb3.mono (unhide HQ).size))
    clear hb3 HDf
    go_wp2
    rw [unhide HP]
    exact ⟨rfl, unhide HB3⟩
  · have HQ := hide hb2
    have HR : Hid (Sp.rightB L s N l = false) := hide (by
      rcases unhide HK with h | ⟨-, h⟩
      · exact absurd h hno
      · exact Sp.rightB_no h l)
    clear hb2 hno HC HD HK
    go_wp2
    rw [unhide HP, unhide HR]
    exact ⟨rfl, unhide HQ⟩
end Go.Proofs.Ytggjpglakocilaa


