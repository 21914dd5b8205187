/- What the proof needs, part 12. -/
import Derived.Test.YtnkkgeammohemaaL11
/- The law RotRounds, walked. -/
namespace Go.Proofs.Ytnkkgeammohemaa
open Go Go.RowKit

theorem Ints.cellE {w : World} {b o n c : Nat} {l : List Int} (h : Ints w (.slice (some ⟨b, o, none⟩) n c) l) (k : Nat) (hk : k < l.length) : w.cell? ⟨b, o + k, none⟩ = some (.int .i64 (l.getD k 0)) := by
  obtain ⟨a, c', e, -, -, h3⟩ := h.allD
  injection e with e1 e2 e3
  obtain ⟨b', o', e4, -, h5⟩ := unhide h3 k hk
  rw [← e1] at e4
  injection e4 with e4
  injection e4 with e5 e6
  subst e5 e6
  exact h5 w (Below.refl _ _)
theorem Ints.openE {w : World} {v : Value} {l : List Int} (h : Ints w v l) (hl : 0 < l.length) : ∃ b o c, v = .slice (some ⟨b, o, none⟩) l.length c ∧ l.length ≤ c ∧ c ≤ maxLen := by
  obtain ⟨a, c, e, h1, h2, h3⟩ := h.allD
  obtain ⟨b, o, e4, -, -⟩ := unhide h3 0 hl
  exact ⟨b, o, c, by rw [e, e4], h1, h2⟩
theorem cnt_split (f : Nat → Int) (c : Int) : ∀ n, Sp.cnt (fun i => decide (f i < c + 1)) n = Sp.cnt (fun i => decide (f i < c)) n + Sp.cnt (fun i => decide (f i = c)) n
  | 0 => rfl
  | n + 1 => by
    rw [Sp.cnt_succ, Sp.cnt_succ, Sp.cnt_succ, cnt_split f c n]
    simp only [decide_eq_true_eq]
    split <;> split <;> split <;> omega
theorem cnt_all (p : Nat → Bool) : ∀ n, (∀ i, i < n → p i = true) → Sp.cnt p n = n
  | 0, _ => rfl
  | n + 1, h => by rw [Sp.cnt_succ, cnt_all p n (fun i hi => h i (by omega)), if_pos (h n (by omega))]
theorem cnt_none (p : Nat → Bool) : ∀ n, (∀ i, i < n → p i = false) → Sp.cnt p n = 0
  | 0, _ => rfl
  | n + 1, h => by rw [Sp.cnt_succ, cnt_none p n (fun i hi => h i (by omega)), if_neg (by rw [h n (by omega)]; decide)]
theorem rounds_getE {nx : List Int} (hp : Sp.Perm nx) {x : Nat} (hx : x < nx.length) {i p : Nat} (hi : i < p) : (Sp.rounds nx x p).getD i 0 = ((itf (Sp.fn nx) x i : Nat) : Int) := by
  rw [Sp.getD_eq _ _ (by rw [Sp.rounds_len]; exact hi)]
  simp only [Sp.rounds, List.getElem_map, List.getElem_range]
  exact hp.nth_it hx i
/-- What a face's round is, place by place: its darts bear its label, the least first; each is the next one of the other of the one before. -/
theorem round_face {q : Sp.Net} (hp : Sp.Perm q.next) (hl : q.next.length = q.tail.length) (hev : q.tail.length % 2 = 0) {FL : List Int} {K : Nat} (hst : Sp.FSt (Sp.behindL q.next) (Sp.behindL q.next).length FL K) {x : Nat} (hx : x < q.tail.length) {c : Int} (hc : FL.getD x 0 = c) (hmin : ∀ j, j < x → FL.getD j 0 ≠ c) :
    Sp.per (Sp.behindL q.next) x = Sp.cnt (fun i => decide (FL.getD i 0 = c)) q.tail.length ∧ ∀ i, i < Sp.per (Sp.behindL q.next) x → ∃ z : Nat, (Sp.rounds (Sp.behindL q.next) x (Sp.per (Sp.behindL q.next) x)).getD i 0 = (z : Int) ∧ x ≤ z ∧ z < q.tail.length ∧ FL.getD z 0 = c ∧ q.next.getD (Sp.oth z) 0 = (Sp.rounds (Sp.behindL q.next) x (Sp.per (Sp.behindL q.next) x)).getD ((i + 1) % Sp.per (Sp.behindL q.next) x) 0 := by
  have hb := hp.behind (by rw [hl]; exact hev)
  have hlb : (Sp.behindL q.next).length = q.tail.length := by rw [Sp.behindL_len, hl]
  have hxb : x < (Sp.behindL q.next).length := by rw [hlb]; exact hx
  obtain ⟨p1, p2, p3, p4⟩ := hb.per hxb
  refine ⟨?_, fun i hi => ?_⟩
  · have h := hb.count hst.cls hxb
    rw [h, hlb]
    refine Sp.cnt_congr _ fun i hi => ?_
    have b1 := hst.done i (by rw [hlb]; exact hi)
    have b2 := hst.done x hxb
    rw [decide_eq_decide]
    constructor
    · intro e; omega
    · intro e
      show (FL.getD i 0).toNat = (FL.getD x 0).toNat
      rw [e, hc]
  · have hz : itf (Sp.fn (Sp.behindL q.next)) x i < q.tail.length := by have := hb.fnP.it hxb i; rw [hlb] at this; exact this
    have hlab : FL.getD (itf (Sp.fn (Sp.behindL q.next)) x i) 0 = c := by rw [hst.orb hb hxb i, hc]
    refine ⟨itf (Sp.fn (Sp.behindL q.next)) x i, rounds_getE hb hxb hi, ?_, hz, hlab, ?_⟩
    · rcases Nat.lt_or_ge (itf (Sp.fn (Sp.behindL q.next)) x i) x with h | h
      · exact absurd hlab (hmin _ h)
      · exact h
    · have hm : (i + 1) % Sp.per (Sp.behindL q.next) x < Sp.per (Sp.behindL q.next) x := Nat.mod_lt _ (by omega)
      rw [rounds_getE hb hxb hm]
      have e1 : Sp.nth (Sp.behindL q.next) x (i + 1) = q.next.getD (Sp.oth (itf (Sp.fn (Sp.behindL q.next)) x i)) 0 := by
        show (Sp.behindL q.next).getD (Sp.nth (Sp.behindL q.next) x i).toNat 0 = _
        rw [hb.nth_it hxb, Int.toNat_natCast, Sp.behindL_get _ _ (by rw [hl]; exact hz)]
      rw [← e1, hb.nth_it hxb]
      by_cases h : i + 1 = Sp.per (Sp.behindL q.next) x
      · rw [h, Nat.mod_self]
        have e := hb.nth_it hxb (Sp.per (Sp.behindL q.next) x)
        rw [p3] at e
        exact e.symm
      · rw [Nat.mod_eq_of_lt (by omega)]
set_option maxRecDepth 100000 in
set_option maxHeartbeats 4000000 in
theorem rotRounds_any (ns : List Int) (x : Value) (w : World) (hx : Ints w x ns) :
    Calls Try.prog 7 #[x] w fun e w' => e = .returned (.bool true) ∧ Below w.heap.size w w' := by
  obtain ⟨a, c, rfl, hc, hm⟩ := hx.form
  have HPL := hide (fun w' (hb : Below w.heap.size w w') => plane_any ns (.slice a ns.length c) w' (hx.below hb))
  have HOK := hide (Sp.plane_ok ns)
  have HPP := hide (Sp.plane_plain ns)
  generalize Sp.plane ns = q at *
  generalize ns.length = n at *
  clear hx
  obtain ⟨P, hP⟩ : ∃ P : Ending → World → Prop, P = fun e w' => e = .returned (.bool true) ∧ Below w.heap.size w w' := ⟨_, rfl⟩
  rw [← hP]
  have HP := hide hP
  clear hP
  go_enter Try.func7, Try.ntmps7
  go_wp2_with fail
  go_at_call 9
  refine (known2_any w).mono ?_
  rintro e w2 ⟨rfl, hb2⟩
  have Hb2 := hide hb2
  clear hb2
  go_wp2_with fail
  go_at_call 10
  refine (unhide HPL _ (unhide Hb2)).mono ?_
  clear HPL
  rintro e w3 ⟨v, tv, nv, cv, rfl, hnv, hb3⟩
  have hval := hnv.val
  subst hval
  obtain ⟨ta, tc, rfl, htc, htm, HT⟩ := hnv.netI.tail.allD
  obtain ⟨na, nc, rfl, -, -⟩ := hnv.netI.next.form
  obtain ⟨ca, cc, rfl, -, -⟩ := hnv.netI.cap.form
  obtain ⟨W4, hW4⟩ : ∃ W4, W4 = w3.alloc (.cells #[.int .i64 q.n, .slice ta q.tail.length tc, .slice na q.next.length nc, .slice ca q.cap.length cc] 25) := ⟨_, rfl⟩
  obtain ⟨hBX, hs4, hTR⟩ := boxed ((unhide Hb2).trans (hb3.mono (unhide Hb2).size)) hnv.netI W4 hW4
  have HBX := hide hBX
  have HTR := hide hTR
  have Hs4 := hide hs4
  have HW4 := hide hW4
  clear hnv hb3 Hb2 hBX hTR hs4 hW4
  have hb4 : Below (w3.heap.size + 1) W4 W4 := Below.refl _ _
  have HWK := hide ((unhide HOK).walk (by omega))
  have HFE := hide (Sp.faces_eq (unhide HOK).pm (unhide HOK).nx (unhide HOK).ev)
  have HST := hide (Sp.faces2_st (unhide HOK).pm (unhide HOK).nx (unhide HOK).ev)
  have HFL := hide (Sp.faces2_len q)
  have HF := hide (fun w' (hb : Below (w3.heap.size + 1) W4 w') => faces_any q _ _ _ _ w' (unhide HBX w' hb).2.1 (unhide HWK))
  rw [(unhide HFE).1, (unhide HFE).2] at HF
  have HEu : Hid (0 < q.tail.length → q.n - ((q.tail.length / 2 : Nat) : Int) + (((Sp.faces2 q).2 : Nat) : Int) = 2) := by
    refine hide fun h0 => ?_
    rcases unhide HPP with e | e
    · rw [e] at h0; exact absurd h0 (Nat.lt_irrefl _)
    · obtain ⟨lab, F, hf, hE⟩ := e.2.face
      have hc := (unhide HST).cls
      rw [Sp.behindL_len, (unhide HOK).nx] at hc
      rw [hc.count (unhide HOK).pmB.mp hf]
      exact hE
  have HE0 : Hid (q.tail.length = 0 → q.n = 1 ∧ (Sp.faces2 q).2 = 0) := by
    refine hide fun h0 => ?_
    rcases unhide HPP with e | e
    · exact ⟨by rw [e], by rw [e]; rfl⟩
    · omega
  have HRF := hide (fun (x : Nat) (hx : x < q.tail.length) (c : Int) (hc : (Sp.faces2 q).1.getD x 0 = c) (hm : ∀ j, j < x → (Sp.faces2 q).1.getD j 0 ≠ c) => round_face (unhide HOK).pm (unhide HOK).nx (unhide HOK).ev (unhide HST) hx hc hm)
  have HNM := hide (unhide HST).num
  have HFc := hide (fun (y : Int) w' (hb : Below (w3.heap.size + 1) W4 w') => face_any q _ _ _ _ y w' (unhide HBX w' hb).2.1 (unhide HWK))
  have HRo : Hid (∀ y : Nat, y < q.tail.length → Sp.roundOf (Sp.behindL q.next) y = Sp.rounds (Sp.behindL q.next) y (Sp.per (Sp.behindL q.next) y) ∧ 1 ≤ Sp.per (Sp.behindL q.next) y) := hide fun y hy => ⟨Sp.roundOf_eq ((unhide HOK).pm.behind (by rw [(unhide HOK).nx]; exact (unhide HOK).ev)) (by rw [Sp.behindL_len, (unhide HOK).nx]; exact hy), (((unhide HOK).pm.behind (by rw [(unhide HOK).nx]; exact (unhide HOK).ev)).per (by rw [Sp.behindL_len, (unhide HOK).nx]; exact hy)).1⟩
  generalize (Sp.faces2 q).1 = FL at *
  generalize (Sp.faces2 q).2 = K at *
  generalize Sp.behindL q.next = st at *
  have hl48 : q.tail.length ≤ 48 := (unhide HOK).le
  have hn0 := (unhide HOK).n0
  have hn1 := (unhide HOK).n1
  have HNx := hide (fun w' (hb : Below (w3.heap.size + 1) W4 w') => (unhide HBX w' hb).2.1.next)
  have Hnl : Hid (q.next.length = q.tail.length) := hide (unhide HOK).nx
  have Hev : Hid (q.tail.length % 2 = 0) := hide (unhide HOK).ev
  generalize hln : q.tail.length = ln at *
  have Hln := hide hln
  clear hln HFE HST HPP
  go_wp2_with fail
  rw [← unhide HW4]
  go_at_call 15
  refine (unhide HF W4 hb4).mono ?_
  clear HF
  rintro e w5 ⟨fv, rfl, hf5, hb5⟩
  have Hb5 := hide (unhide HTR _ _ hb4 hb5)
  obtain ⟨fa, fc, rfl, hfc, hfm⟩ := hf5.ints.form
  have HFI := hide hf5.ints
  rw [unhide HFL] at hfc HFI ⊢
  obtain ⟨x0, x1, x2, x3⟩ := (unhide HBX w5 (unhide Hb5)).1
  have hnn : ((ln : Int) != (ln : Int)) = false := by simp
  clear hf5 hb5 hb4
  by_cases hz : ln = 0
  · obtain ⟨e1, e2⟩ := unhide HE0 hz
    have hkk : max K 1 = 1 := by rw [e2]; rfl
    rw [hkk]
    have Hfin := hide (unhide HBX w5 (unhide Hb5)).2.2.1
    rw [e1] at x0 HBX HFc HW4
    clear e1 e2 hkk HEu HE0 x2 x3
    subst hz
    have hd0 : Int.tdiv 0 2 = 0 := rfl
    go_wp2_with fail
    go_loopg [6, 7] 0 (fun g s6 s7 wr => g = 0 ∧ s6 = .int .i64 0 ∧ s7 = .int .i64 0 ∧ wr = w5)
    case atStart => exact ⟨rfl, rfl, rfl, rfl⟩
    case round =>
      obtain ⟨-, rfl, rfl, rfl⟩ := hrel
      go_wp2
      rw [unhide HP]
      exact ⟨by rfl, unhide Hfin⟩
  · have hlp : 0 < ln := by omega
    have hlpI : (0 : Int) < (ln : Int) := by omega
    have hKp : 0 < K := by
      have h1 := (unhide HNM).lt 0 (by rw [unhide HFL]; omega)
      have h2 := (unhide HNM).rg.nn 0 (by rw [unhide HFL]; omega)
      omega
    have hkk : max K 1 = K := by omega
    rw [hkk]
    clear hkk
    obtain ⟨fb, fo, rfl⟩ : ∃ fb fo, fa = some ⟨fb, fo, none⟩ := by
      obtain ⟨b, o, c', e, -⟩ := (unhide HFI).openE (by rw [unhide HFL]; exact hlp)
      injection e with e1
      exact ⟨b, o, e1⟩
    have hE := unhide HEu hlp
    have hK25 : K ≤ 25 := by omega
    have HAb : Hid (Ints w5 (.slice (some ⟨fb, fo, none⟩) ln fc) FL ∧ Below (w3.heap.size + 1) W4 w5) := hide ⟨unhide HFI, unhide Hb5⟩
    have HAd : Hid (∀ wr nq, Hid (Ints wr (.slice (some ⟨fb, fo, none⟩) ln fc) FL ∧ Below (w3.heap.size + 1) W4 wr) → Hid (Ints (World.drewN wr nq) (.slice (some ⟨fb, fo, none⟩) ln fc) FL ∧ Below (w3.heap.size + 1) W4 (World.drewN wr nq))) := hide fun wr nq h => hide ⟨(unhide h).1.below (below_dn (Below.refl _ _) nq), below_dn (unhide h).2 nq⟩
    have HAl : Hid (∀ wr wy, Hid (Ints wr (.slice (some ⟨fb, fo, none⟩) ln fc) FL ∧ Below (w3.heap.size + 1) W4 wr) → Below wr.heap.size wr wy → Hid (Ints wy (.slice (some ⟨fb, fo, none⟩) ln fc) FL ∧ Below (w3.heap.size + 1) W4 wy)) := hide fun wr wy h hb => hide ⟨(unhide h).1.below hb, unhide HTR _ _ (unhide h).2 hb⟩
    have HAc : Hid (∀ wr, Hid (Ints wr (.slice (some ⟨fb, fo, none⟩) ln fc) FL ∧ Below (w3.heap.size + 1) W4 wr) → ∀ k, k < ln → wr.cell? ⟨fb, fo + k, none⟩ = some (.int .i64 (FL.getD k 0))) := hide fun wr h k hk => (unhide h).1.cellE k (by rw [unhide HFL]; exact hk)
    have HNc : Hid (∃ nb no, na = some ⟨nb, no, none⟩ ∧ ∀ wr, Hid (Ints wr (.slice (some ⟨fb, fo, none⟩) ln fc) FL ∧ Below (w3.heap.size + 1) W4 wr) → ∀ k, k < ln → wr.cell? ⟨nb, no + k, none⟩ = some (.int .i64 (q.next.getD k 0))) := by
      have h5 := unhide HNx w5 (unhide Hb5)
      obtain ⟨nb, no, c', e, -⟩ := h5.openE (by rw [unhide Hnl]; exact hlp)
      injection e with e1
      refine hide ⟨nb, no, e1, fun wr h k hk => ?_⟩
      have h6 := unhide HNx wr (unhide h).2
      rw [e1] at h6
      exact h6.cellE k (by rw [unhide Hnl]; exact hk)
    obtain ⟨nb, no, rfl, hNc⟩ := unhide HNc
    have HNc' := hide hNc
    clear HNc hNc HNx HFI Hb5 HEu HE0
    have HC0 : Hid (Sp.cnt (fun i => decide (FL.getD i 0 < ((0 : Nat) : Int))) ln = 0) := hide (cnt_none _ _ fun i hi => decide_eq_false (by have := (unhide HNM).rg.nn i (by rw [unhide HFL]; exact hi); omega))
    have HCK : Hid (Sp.cnt (fun i => decide (FL.getD i 0 < (K : Int))) ln = ln) := hide (cnt_all _ _ fun i hi => decide_eq_true ((unhide HNM).lt i (by rw [unhide HFL]; exact hi)))
    have HCs : Hid (∀ c : Nat, Sp.cnt (fun i => decide (FL.getD i 0 < ((c + 1 : Nat) : Int))) ln = Sp.cnt (fun i => decide (FL.getD i 0 < (c : Int))) ln + Sp.cnt (fun i => decide (FL.getD i 0 = (c : Int))) ln) := hide fun c => cnt_split (fun i => FL.getD i 0) (c : Int) ln
    have HCl : Hid (∀ c : Nat, Sp.cnt (fun i => decide (FL.getD i 0 < (c : Int))) ln ≤ ln) := hide fun c => Sp.cnt_le _ _
    obtain ⟨C, hC⟩ : ∃ C : Nat → Nat, ∀ c : Nat, Sp.cnt (fun i => decide (FL.getD i 0 < (c : Int))) ln = C c := ⟨fun c => Sp.cnt (fun i => decide (FL.getD i 0 < (c : Int))) ln, fun c => rfl⟩
    rw [hC] at HC0 HCK
    have HCs' : Hid (∀ c : Nat, C (c + 1) = C c + Sp.cnt (fun i => decide (FL.getD i 0 = (c : Int))) ln) := hide fun c => by rw [← hC, ← hC]; exact unhide HCs c
    have HCl' : Hid (∀ c, C c ≤ ln) := hide fun c => by rw [← hC]; exact unhide HCl c
    clear hC HCs HCl
    go_wp2_with fail
    go_loopg [6, 7] K (fun g s6 s7 wr => ∃ c : Nat, c + g = K ∧ s7 = .int .i64 (c : Int) ∧ s6 = .int .i64 ((C c : Nat) : Int) ∧ Hid (Ints wr (.slice (some ⟨fb, fo, none⟩) ln fc) FL ∧ Below (w3.heap.size + 1) W4 wr))
    case atStart => exact ⟨0, by omega, rfl, by rw [unhide HC0]; rfl, HAb⟩
    case round =>
      obtain ⟨c, hcg, rfl, rfl, HAr⟩ := hrel
      cases gk with
      | zero =>
        have hce : c = K := by omega
        rw [hce, unhide HCK]
        clear hce hcg HAb
        obtain ⟨x0, x1, x2, x3⟩ := (unhide HBX wr (unhide HAr).2).1
        have Hfin := hide (unhide HBX wr (unhide HAr).2).2.2.1
        obtain ⟨h2, hh2⟩ : ∃ h2 : Nat, ln / 2 = h2 := ⟨_, rfl⟩
        rw [hh2] at hE
        have hd2 : (ln : Int).tdiv 2 = (h2 : Int) := by rw [Int.tdiv_eq_ediv_of_nonneg (by omega)]; omega
        have hwd : IntKind.i64.wrap (h2 : Int) = (h2 : Int) := by rw [IntKind.wrap_i64]; omega
        have hw1 : IntKind.i64.wrap (q.n - (h2 : Int)) = q.n - (h2 : Int) := by rw [IntKind.wrap_i64]; omega
        have hw2 : IntKind.i64.wrap (q.n - (h2 : Int) + (K : Int)) = 2 := by rw [hE]; rfl
        have hll : ((ln : Int) == (ln : Int)) = true := beq_self_eq_true _
        clear HAr x1 x2 x3
        go_wp2
        rw [unhide HP]
        exact ⟨by rfl, unhide Hfin⟩
      | succ g' =>
        have hcK : c < K := by omega
        have hcI : (c : Int) < (K : Int) := by omega
        have hgl : decide ((ln : Int) > 0) = true := decide_eq_true (by omega)
        clear HAb
        go_wp2_with fail
        go_loopg [8] ln (fun g s8 wr' => ∃ i : Nat, i + g = ln ∧ s8 = .int .i64 (i : Int) ∧ wr' = wr ∧ Hid (∀ j, j < i → FL.getD j 0 ≠ (c : Int)))
        case atStart => exact ⟨0, by omega, rfl, rfl, hide fun j hj => by omega⟩
        case round =>
          obtain ⟨i, hig, rfl, rfl, HMin⟩ := hrel
          cases gk with
          | zero =>
            obtain ⟨j, h1, h2⟩ := (unhide HNM).on c hcK
            exact absurd h2 (unhide HMin j (by rw [unhide HFL] at h1; omega))
          | succ g2 =>
            have hil : i < ln := by omega
            have hiI : (i : Int) < (ln : Int) := by omega
            have c1 := unhide HAc wr HAr i hil
            by_cases hf : FL.getD i 0 = (c : Int)
            · rw [hf] at c1
              have HRF1 := hide (unhide HRF i hil (c : Int) hf (unhide HMin))
              have HRo1 := unhide HRo i hil
              have HF1 := hide (unhide HFc (i : Int))
              rw [HRo1.1] at HF1
              have hp1 := HRo1.2
              have HCt := hide ((unhide HCs' c).trans (by rw [← (unhide HRF1).1]))
              have hCb := unhide HCl' (c + 1)
              have HRl : Hid ((Sp.rounds st i (Sp.per st i)).length = Sp.per st i) := hide (Sp.rounds_len _ _ _)
              have HPt := hide (unhide HRF1).2
              generalize Sp.rounds st i (Sp.per st i) = R at *
              generalize hpp : Sp.per st i = p at *
              rw [unhide HCt] at hCb
              generalize hCc : C c = cc0 at *
              have hcc : ((c : Int) != (c : Int)) = false := by simp
              have hine : ((i : Int) == (ln : Int)) = false := beq_eq_false_iff_ne.2 (by omega)
              have hine2 : ¬ (i : Int) = (ln : Int) := by omega
              obtain ⟨x0, x1, x2, x3⟩ := (unhide HBX wr (unhide HAr).2).1
              clear HRo1 HRF1 hf HMin hpp hCc
              go_wp2_with fail
              go_at_call 27
              refine (unhide HF1 wr (unhide HAr).2).mono ?_
              rintro e w6 ⟨rv, rfl, hm6, hb6⟩
              have HA6 := unhide HAl _ _ HAr hb6
              obtain ⟨rb, ro, rc, hrv, hrc, hrm⟩ := hm6.ints.openE (by rw [unhide HRl]; omega)
              rw [unhide HRl] at hrv hrc
              subst hrv
              have HI6 := hide hm6.ints
              clear hm6 hb6 x0 x1 x2 x3 HAr c1 HF1
              have hwc : IntKind.i64.wrap ((cc0 : Int) + (p : Int)) = (cc0 : Int) + (p : Int) := by rw [IntKind.wrap_i64]; omega
              have hp48 : p ≤ 48 := by omega
              go_wp2_with fail
              go_loopg [10] p (fun g s10 wr => ∃ k : Nat, k + g = p ∧ s10 = .int .i64 (k : Int) ∧ Hid (Ints wr (.slice (some ⟨rb, ro, none⟩) p rc) R) ∧ Hid (Ints wr (.slice (some ⟨fb, fo, none⟩) ln fc) FL ∧ Below (w3.heap.size + 1) W4 wr))
              case atStart => exact ⟨0, by omega, rfl, HI6, HA6⟩
              case round =>
                obtain ⟨k, hkg, rfl, HIr, HAr⟩ := hrel
                cases gk with
                | zero =>
                  have hke : k = p := by omega
                  rw [hke]
                  clear hke hkg HI6 HA6
                  go_wp2
                  go_roundg g'
                  case rel => exact ⟨c + 1, by omega, by go_num, by rw [unhide HCt]; go_num, HAr⟩
                  case measure => omega
                | succ g3 =>
                  have hkp : k < p := by omega
                  have hkI : (k : Int) < (p : Int) := by omega
                  obtain ⟨z, e1, e2, e3, e4, e5⟩ := unhide HPt k hkp
                  obtain ⟨j, hj⟩ : ∃ j, (k + 1) % p = j := ⟨_, rfl⟩
                  have hjp : j < p := by rw [← hj]; exact Nat.mod_lt _ (by omega)
                  have hjI : (j : Int) < (p : Int) := by omega
                  have hw1 : IntKind.i64.wrap ((k : Int) + 1) = (k : Int) + 1 := by rw [IntKind.wrap_i64]; omega
                  have htm : ((k : Int) + 1).tmod (p : Int) = (j : Int) := by
                    rw [show (k : Int) + 1 = ((k + 1 : Nat) : Int) by omega, ← Int.ofNat_tmod, hj]
                  have hpz : ¬ (p : Int) = 0 := by omega
                  have hol : Sp.oth z < ln := oth_lt e3 (unhide Hev)
                  have hxo : bits .xor .i64 (z : Int) 1 = ((Sp.oth z : Nat) : Int) := xor_oth ⟨z, by omega⟩
                  have c1 := (unhide HIr).cellE k (by rw [unhide HRl]; exact hkp)
                  have c4 := (unhide HIr).cellE j (by rw [unhide HRl]; exact hjp)
                  have c2 := unhide HAc wr HAr z e3
                  have c3 := unhide HNc' wr HAr (Sp.oth z) hol
                  rw [e1] at c1
                  rw [e4] at c2
                  rw [hj] at e5
                  rw [e5] at c3
                  generalize R.getD j 0 = nz at *
                  generalize Sp.oth z = oz at *
                  have hoI : (oz : Int) < (ln : Int) := by omega
                  have hb0 : decide ((z : Int) < (i : Int)) = false := decide_eq_false (by omega)
                  have hb0' : decide (z < i) = false := decide_eq_false (by omega)
                  have hb0n : ¬ (z : Int) < (i : Int) := by omega
                  have hb0m : ¬ z < i := by omega
                  have hb1 : decide ((ln : Int) ≤ (z : Int)) = false := decide_eq_false (by omega)
                  have hb1' : decide (ln ≤ z) = false := decide_eq_false (by omega)
                  have hb1n : ¬ (ln : Int) ≤ (z : Int) := by omega
                  have hb1m : ¬ ln ≤ z := by omega
                  have hzI2 : (z : Int) < (ln : Int) := by omega
                  have hb3 : (nz != nz) = false := by simp
                  obtain ⟨x0, x1, x2, x3⟩ := (unhide HBX wr (unhide HAr).2).1
                  have HIr2 := hide (fun nq => (unhide HIr).below (below_dn (Below.refl _ _) nq))
                  have HAr2 := hide (fun nq => unhide HAd wr nq HAr)
                  clear e1 e2 e3 e4 e5 hj x0 x1 x3 HI6 HA6 HIr HAr
                  have hnlI : Hid (q.next.length = ln) := Hnl
                  rw [unhide Hnl] at x2
                  go_wp2
                  go_quiet (fail)
                  have HIq := hide (unhide HIr2 nq)
                  have HAq := unhide HAr2 nq
                  clear c1 c2 c3 c4 x2 HIr2 HAr2 hw1 htm hxo
                  generalize wr.drewN nq = wq at *
                  go_wp2
                  go_roundg g3
                  case rel => exact ⟨k + 1, by omega, by go_num, HIq, HAq⟩
                  case measure => omega
            · have hfb : (FL.getD i 0 != (c : Int)) = true := by rw [bne_iff_ne]; exact hf
              have HMin2 : Hid (∀ j, j < i + 1 → FL.getD j 0 ≠ (c : Int)) := hide fun j hj => by
                rcases Nat.lt_or_ge j i with h1 | h1
                · exact unhide HMin j h1
                · rw [show j = i by omega]; exact hf
              clear HMin
              generalize FL.getD i 0 = fi at *
              go_wp2
              go_roundg g2
              case rel => exact ⟨i + 1, by omega, by go_num, rfl, HMin2⟩
              case measure => omega
end Go.Proofs.Ytnkkgeammohemaa


/- What the program's Parts tells: labels numbered by their first ones, that tell the pieces apart. -/
namespace Go.Proofs.Ytnkkgeammohemaa
open Go Go.RowKit

/-- Labels laid so far, by whatever tells places apart. -/
structure Sp.NSt (L : Nat) (E : Nat → Nat → Prop) (d : Nat) (of : List Int) (k : Nat) : Prop where
  len : of.length = L
  bd : ∀ i, i < L → of.getD i 0 = -1 ∨ (0 ≤ of.getD i 0 ∧ of.getD i 0 < (k : Int))
  done : ∀ i, i < d → 0 ≤ of.getD i 0
  inv : ∀ i j, i < L → j < L → E i j → of.getD i 0 = of.getD j 0
  sep : ∀ i j, i < L → j < L → 0 ≤ of.getD i 0 → of.getD i 0 = of.getD j 0 → E i j
  rg : ∀ i, i < d → ∀ c, 0 ≤ c → c < of.getD i 0 → ∃ j, j < i ∧ of.getD j 0 = c
  on : ∀ c : Nat, c < k → ∃ i, i < d ∧ of.getD i 0 = (c : Int)
theorem Sp.NSt.first (L : Nat) (E : Nat → Nat → Prop) : Sp.NSt L E 0 (List.replicate L (-1)) 0 := by
  refine ⟨by simp, fun i hi => .inl (getD_rep _ _ _ hi), fun i hi => by omega, fun i j hi hj _ => by rw [getD_rep _ _ _ hi, getD_rep _ _ _ hj], fun i j hi hj h => ?_, fun i hi => by omega, fun c hc => by omega⟩
  rw [getD_rep _ _ _ hi] at h
  omega
theorem Sp.NSt.old {L : Nat} {E : Nat → Nat → Prop} {d k : Nat} {of : List Int} (h : Sp.NSt L E d of k) (hd : d < L) (h0 : of.getD d 0 ≠ -1) : Sp.NSt L E (d + 1) of k := by
  have h0' : 0 ≤ of.getD d 0 ∧ of.getD d 0 < (k : Int) := by
    rcases h.bd d hd with e | e
    · exact absurd e h0
    · exact e
  refine ⟨h.len, h.bd, fun i hi => ?_, h.inv, h.sep, fun i hi c c0 c1 => ?_, fun c hc => ?_⟩
  · rcases Nat.lt_or_ge i d with h1 | h1
    · exact h.done i h1
    · rw [show i = d by omega]; exact h0'.1
  · rcases Nat.lt_or_ge i d with h1 | h1
    · exact h.rg i h1 c c0 c1
    · rw [show i = d by omega] at c1 ⊢
      obtain ⟨j, h2, h3⟩ := h.on c.toNat (by omega)
      exact ⟨j, h2, by rw [h3]; omega⟩
  · obtain ⟨i, h1, h2⟩ := h.on c hc
    exact ⟨i, by omega, h2⟩
theorem Sp.NSt.new {L : Nat} {E : Nat → Nat → Prop} {d k : Nat} {of of' : List Int} (h : Sp.NSt L E d of k) (hr : ∀ i, E i i) (hs : ∀ i j, i < L → j < L → E i j → E j i) (ht : ∀ i j l, E i j → E j l → E i l) (hd : d < L) (h0 : of.getD d 0 = -1) (hl : of'.length = L)
    (hE : ∀ i, i < L → E d i → of'.getD i 0 = (k : Int)) (hN : ∀ i, i < L → ¬ E d i → of'.getD i 0 = of.getD i 0) : Sp.NSt L E (d + 1) of' (k + 1) := by
  have hget : ∀ i, i < L → (E d i ∧ of'.getD i 0 = (k : Int) ∧ of.getD i 0 = -1) ∨ (¬ E d i ∧ of'.getD i 0 = of.getD i 0) := by
    intro i hi
    by_cases ho : E d i
    · exact .inl ⟨ho, hE i hi ho, by rw [← h.inv d i hd hi ho]; exact h0⟩
    · exact .inr ⟨ho, hN i hi ho⟩
  have hdk : of'.getD d 0 = (k : Int) := hE d hd (hr d)
  refine ⟨hl, fun i hi => ?_, fun i hi => ?_, fun i j hi hj e => ?_, fun i j hi hj hn e => ?_, fun i hi c c0 c1 => ?_, fun c hc => ?_⟩
  · rcases hget i hi with ⟨-, e, -⟩ | ⟨-, e⟩
    · right; rw [e]; omega
    · rw [e]; rcases h.bd i hi with e1 | e1
      · exact .inl e1
      · exact .inr ⟨e1.1, by omega⟩
  · rcases Nat.lt_or_ge i d with h1 | h1
    · rcases hget i (by omega) with ⟨-, e, -⟩ | ⟨-, e⟩
      · rw [e]; omega
      · rw [e]; exact h.done i h1
    · rw [show i = d by omega, hdk]; omega
  · rcases hget i hi with ⟨o, e1, -⟩ | ⟨o, e1⟩ <;> rcases hget j hj with ⟨o', e2, -⟩ | ⟨o', e2⟩
    · rw [e1, e2]
    · exact absurd (ht _ _ _ o e) o'
    · exact absurd (ht _ _ _ o' (hs i j hi hj e)) o
    · rw [e1, e2]; exact h.inv i j hi hj e
  · rcases hget i hi with ⟨o, e1, -⟩ | ⟨o, e1⟩ <;> rcases hget j hj with ⟨o', e2, -⟩ | ⟨o', e2⟩
    · exact ht _ _ _ (hs d i hd hi o) o'
    · rw [e1, e2] at e
      rcases h.bd j hj with e3 | e3 <;> omega
    · rw [e1, e2] at e
      rcases h.bd i hi with e3 | e3 <;> omega
    · rw [e1, e2] at e
      rw [e1] at hn
      exact h.sep i j hi hj hn e
  · rcases Nat.lt_or_ge i d with h1 | h1
    · rcases hget i (by omega) with ⟨-, -, e⟩ | ⟨-, e⟩
      · have := h.done i h1; omega
      · rw [e] at c1
        obtain ⟨j, h2, h3⟩ := h.rg i h1 c c0 c1
        refine ⟨j, h2, ?_⟩
        rcases hget j (by omega) with ⟨-, -, e'⟩ | ⟨-, e'⟩
        · omega
        · rw [e', h3]
    · rw [show i = d by omega] at c1 ⊢
      rw [hdk] at c1
      obtain ⟨j, h2, h3⟩ := h.on c.toNat (by omega)
      refine ⟨j, h2, ?_⟩
      rcases hget j (by omega) with ⟨-, -, e'⟩ | ⟨-, e'⟩
      · omega
      · rw [e', h3]; omega
  · by_cases hk : c = k
    · exact ⟨d, by omega, by rw [hdk, hk]⟩
    · obtain ⟨i, h1, h2⟩ := h.on c (by omega)
      refine ⟨i, by omega, ?_⟩
      rcases hget i (by omega) with ⟨-, -, e'⟩ | ⟨-, e'⟩
      · omega
      · rw [e', h2]
theorem Sp.NSt.num {L : Nat} {E : Nat → Nat → Prop} {of : List Int} {k : Nat} (h : Sp.NSt L E L of k) : Sp.Num of k := by
  refine ⟨⟨fun i hi => h.done i (by rw [← h.len]; exact hi), fun i hi => h.rg i (by rw [← h.len]; exact hi)⟩, fun i hi => ?_, fun c hc => ?_⟩
  · rw [h.len] at hi
    have := h.done i hi
    rcases h.bd i hi with e | e <;> omega
  · obtain ⟨i, h1, h2⟩ := h.on c hc
    exact ⟨i, by rw [h.len]; exact h1, h2⟩
theorem Sp.Reach.trans {tl : List Int} {u v z : Int} (h : Sp.Reach tl u v) (h' : Sp.Reach tl v z) : Sp.Reach tl u z :=
  h'.ind (p := fun z => Sp.Reach tl u z) h (fun _ hd _ ih => ih.step hd)
theorem Sp.Reach.symm {tl : List Int} (hev : tl.length % 2 = 0) {u v : Int} (h : Sp.Reach tl u v) : Sp.Reach tl v u := by
  refine h.ind (p := fun v => Sp.Reach tl v u) (.refl _) (fun d hd _ ih => ?_)
  have ho := oth_lt hd hev
  have h1 : Sp.Reach tl (tl.getD (Sp.oth d) 0) (tl.getD (Sp.oth (Sp.oth d)) 0) := (Sp.Reach.refl _).step ho
  rw [oth_oth] at h1
  exact h1.trans ih
theorem Sp.Reach.bd {tl : List Int} {n : Int} (ht : ∀ x ∈ tl, 0 ≤ x ∧ x < n) (hev : tl.length % 2 = 0) {u v : Int} (hu : 0 ≤ u ∧ u < n) (h : Sp.Reach tl u v) : 0 ≤ v ∧ v < n :=
  h.ind (p := fun v => 0 ≤ v ∧ v < n) hu (fun _ hd _ _ => ht _ (Sp.getD_mem (oth_lt hd hev)))
/-- One piece on the way: who was found. -/
structure Sp.FI (tl of0 : List Int) (N : Nat) (v p : Int) (of fd : List Int) : Prop where
  len : of.length = N
  fit : RFit N fd
  lab : ∀ w : Nat, w < N → of.getD w 0 = if (w : Int) ∈ fd then p else of0.getD w 0
  rch : ∀ x ∈ fd, Sp.Reach tl v x
theorem Sp.FI.stay {tl of0 : List Int} {N : Nat} {v p : Int} {of fd of' fd' : List Int} (h : Sp.FI tl of0 N v p of fd) (h' : Sp.FI tl of0 N v p of' fd') (hp : p ≠ -1) (hs : ∀ x ∈ fd, x ∈ fd') {w : Nat} (hw : w < N) (hn : of.getD w 0 ≠ -1) : of'.getD w 0 ≠ -1 := by
  rw [h'.lab w hw]
  split
  · exact hp
  · rename_i hm
    rw [h.lab w hw, if_neg (fun h2 => hm (hs _ h2))] at hn
    exact hn
theorem Sp.spread_ok {tl of0 : List Int} {N : Nat} {v p : Int} (hp : p ≠ -1) (ht : ∀ x ∈ tl, 0 ≤ x ∧ x < (N : Int)) (hev : tl.length % 2 = 0) (f : Int) :
    ∀ c d of fd, d + c = tl.length → Sp.FI tl of0 N v p of fd → f ∈ fd →
      Sp.FI tl of0 N v p (Sp.spreadGo tl f p c d of fd).1 (Sp.spreadGo tl f p c d of fd).2 ∧ (∃ m, (Sp.spreadGo tl f p c d of fd).2 = fd ++ m) ∧ ∀ d', d ≤ d' → d' < tl.length → tl.getD d' 0 = f → (Sp.spreadGo tl f p c d of fd).1.getD (tl.getD (Sp.oth d') 0).toNat 0 ≠ -1
  | 0, d, of, fd, hd, h, _ => ⟨h, ⟨[], by simp [Sp.spreadGo]⟩, fun d' h1 h2 => by omega⟩
  | c + 1, d, of, fd, hd, h, hf => by
    have hdl : d < tl.length := by omega
    have hh := ht _ (Sp.getD_mem (oth_lt hdl hev))
    have hhN : (tl.getD (Sp.oth d) 0).toNat < N := by omega
    have hcast : (((tl.getD (Sp.oth d) 0).toNat : Nat) : Int) = tl.getD (Sp.oth d) 0 := by omega
    rw [Sp.spreadGo]
    by_cases hc : tl.getD d 0 = f ∧ of.getD (tl.getD (Sp.oth d) 0).toNat 0 = -1
    · rw [if_pos hc]
      have hnm : ¬ tl.getD (Sp.oth d) 0 ∈ fd := fun hm => by
        have e := h.lab _ hhN
        rw [hcast, if_pos hm, hc.2] at e
        exact hp e.symm
      have hfit := h.fit.snoc (tl.getD (Sp.oth d) 0).toNat hhN (by rw [hcast]; exact hnm)
      rw [hcast] at hfit
      have h' : Sp.FI tl of0 N v p (of.set (tl.getD (Sp.oth d) 0).toNat p) (fd ++ [tl.getD (Sp.oth d) 0]) := by
        refine ⟨by rw [List.length_set]; exact h.len, hfit, fun w hw => ?_, fun x hx => ?_⟩
        · rw [getD_set_eq _ _ _ _ (by rw [h.len]; exact hhN)]
          by_cases e : w = (tl.getD (Sp.oth d) 0).toNat
          · rw [if_pos e, if_pos (List.mem_append_right _ (by rw [e, hcast]; simp))]
          · rw [if_neg e, h.lab w hw]
            by_cases hm : (w : Int) ∈ fd
            · rw [if_pos hm, if_pos (List.mem_append_left _ hm)]
            · rw [if_neg hm, if_neg (fun h2 => by
                rcases List.mem_append.1 h2 with h3 | h3
                · exact hm h3
                · rw [List.mem_singleton] at h3
                  omega)]
        · rcases List.mem_append.1 hx with h3 | h3
          · exact h.rch x h3
          · rw [List.mem_singleton] at h3
            rw [h3]
            refine Sp.Reach.step ?_ hdl
            rw [hc.1]
            exact h.rch f hf
      obtain ⟨r1, ⟨m, r2⟩, r3⟩ := Sp.spread_ok hp ht hev f c (d + 1) _ _ (by omega) h' (List.mem_append_left _ hf)
      refine ⟨r1, ⟨[tl.getD (Sp.oth d) 0] ++ m, by rw [r2, List.append_assoc]⟩, fun d' h1 h2 h3 => ?_⟩
      rcases Nat.lt_or_ge d d' with h4 | h4
      · exact r3 d' (by omega) h2 h3
      · rw [show d' = d by omega]
        rw [r1.lab _ hhN, if_pos (by rw [r2, hcast]; exact List.mem_append_left _ (List.mem_append_right _ (by simp)))]
        exact hp
    · rw [if_neg hc]
      obtain ⟨r1, ⟨m, r2⟩, r3⟩ := Sp.spread_ok hp ht hev f c (d + 1) of fd (by omega) h hf
      refine ⟨r1, ⟨m, r2⟩, fun d' h1 h2 h3 => ?_⟩
      rcases Nat.lt_or_ge d d' with h4 | h4
      · exact r3 d' (by omega) h2 h3
      · rw [show d' = d by omega] at h3 ⊢
        exact h.stay r1 hp (fun x hx => by rw [r2]; exact List.mem_append_left _ hx) hhN (fun e => hc ⟨h3, e⟩)
theorem Sp.flood_ok {tl of0 : List Int} {N : Nat} {v p : Int} (hp : p ≠ -1) (ht : ∀ x ∈ tl, 0 ≤ x ∧ x < (N : Int)) (hev : tl.length % 2 = 0) :
    ∀ g i of fd, i + g = N + 1 → i ≤ fd.length → Sp.FI tl of0 N v p of fd → (∀ j, j < i → ∀ d, d < tl.length → tl.getD d 0 = fd.getD j 0 → of.getD (tl.getD (Sp.oth d) 0).toNat 0 ≠ -1) →
      ∃ fd', Sp.FI tl of0 N v p (Sp.floodGo tl p g i of fd) fd' ∧ (∀ x ∈ fd, x ∈ fd') ∧ ∀ x ∈ fd', ∀ d, d < tl.length → tl.getD d 0 = x → (Sp.floodGo tl p g i of fd).getD (tl.getD (Sp.oth d) 0).toNat 0 ≠ -1
  | 0, i, of, fd, hi, hl, h, _ => by have := h.fit.le; omega
  | g + 1, i, of, fd, hi, hl, h, hd => by
    rw [Sp.floodGo]
    by_cases hc : i < fd.length
    · rw [if_pos hc]
      obtain ⟨r1, ⟨m, r2⟩, r3⟩ := Sp.spread_ok hp ht hev (fd.getD i 0) tl.length 0 of fd (by omega) h (Sp.getD_mem hc)
      obtain ⟨fd', s1, s2, s3⟩ := Sp.flood_ok hp ht hev g (i + 1) _ _ (by omega) (by rw [r2, List.length_append]; omega) r1 (fun j hj d hdl e => by
        have hg : (Sp.spreadGo tl (fd.getD i 0) p tl.length 0 of fd).2.getD j 0 = fd.getD j 0 := by
          rw [r2, List.getD_eq_getElem?_getD, List.getElem?_append_left (by omega), ← List.getD_eq_getElem?_getD]
        rw [hg] at e
        rcases Nat.lt_or_ge j i with h1 | h1
        · refine h.stay r1 hp (fun x hx => by rw [r2]; exact List.mem_append_left _ hx) ?_ (hd j h1 d hdl e)
          have := ht _ (Sp.getD_mem (oth_lt hdl hev))
          omega
        · rw [show j = i by omega] at e
          exact r3 d (Nat.zero_le _) hdl e)
      exact ⟨fd', s1, fun x hx => s2 x (by rw [r2]; exact List.mem_append_left _ hx), s3⟩
    · rw [if_neg hc]
      refine ⟨fd, h, fun _ hx => hx, fun x hx d hdl e => ?_⟩
      obtain ⟨j, hj, ej⟩ := List.mem_iff_getElem.1 hx
      exact hd j (by omega) d hdl (by rw [e, Sp.getD_eq _ _ hj, ej])
/-- One piece whole. -/
theorem Sp.flood_all {tl of0 : List Int} {N : Nat} {v : Nat} {p : Int} (hp : p ≠ -1) (ht : ∀ x ∈ tl, 0 ≤ x ∧ x < (N : Int)) (hev : tl.length % 2 = 0) (hl : of0.length = N) (hv : v < N) (h0 : of0.getD v 0 = -1)
    (hin : ∀ i j : Nat, i < N → j < N → Sp.Reach tl i j → of0.getD i 0 = of0.getD j 0) :
    (Sp.floodGo tl p (N + 1) 0 (of0.set v p) [(v : Int)]).length = N ∧ ∀ w : Nat, w < N → (Sp.Reach tl v w → (Sp.floodGo tl p (N + 1) 0 (of0.set v p) [(v : Int)]).getD w 0 = p) ∧ (¬ Sp.Reach tl v w → (Sp.floodGo tl p (N + 1) 0 (of0.set v p) [(v : Int)]).getD w 0 = of0.getD w 0) := by
  have hfi : Sp.FI tl of0 N v p (of0.set v p) [(v : Int)] := by
    refine ⟨by rw [List.length_set]; exact hl, ⟨by simp, fun x hx => by rw [List.mem_singleton] at hx; omega⟩, fun w hw => ?_, fun x hx => by rw [List.mem_singleton] at hx; rw [hx]; exact .refl _⟩
    rw [getD_set_eq _ _ _ _ (by omega)]
    by_cases e : w = v
    · rw [if_pos e, if_pos (by rw [e]; simp)]
    · rw [if_neg e, if_neg (by rw [List.mem_singleton]; omega)]
  obtain ⟨fd', s1, s2, s3⟩ := Sp.flood_ok hp ht hev (N + 1) 0 (of0.set v p) [(v : Int)] (by omega) (by simp) hfi (fun j hj => by omega)
  generalize Sp.floodGo tl p (N + 1) 0 (of0.set v p) [(v : Int)] = R at *
  have hmem : ∀ x, Sp.Reach tl v x → x ∈ fd' := fun x hx => by
    refine hx.ind (p := fun x => x ∈ fd') (s2 _ (by simp)) (fun d hd hr ih => ?_)
    have hb := ht _ (Sp.getD_mem (oth_lt hd hev))
    have hne := s3 _ ih d hd rfl
    have hN : (tl.getD (Sp.oth d) 0).toNat < N := by omega
    have hcast : (((tl.getD (Sp.oth d) 0).toNat : Nat) : Int) = tl.getD (Sp.oth d) 0 := by omega
    rw [s1.lab _ hN, hcast] at hne
    by_cases hm : tl.getD (Sp.oth d) 0 ∈ fd'
    · exact hm
    · rw [if_neg hm] at hne
      have e := hin v _ hv hN (by rw [hcast]; exact hr.step hd)
      exact absurd (by rw [← e]; exact h0) hne
  refine ⟨s1.len, fun w hw => ⟨fun hr => ?_, fun hr => ?_⟩⟩
  · rw [s1.lab w hw, if_pos (hmem _ hr)]
  · rw [s1.lab w hw, if_neg (fun hm => hr (s1.rch _ hm))]
theorem Sp.partsGo_st {tl : List Int} {N : Nat} (ht : ∀ x ∈ tl, 0 ≤ x ∧ x < (N : Int)) (hev : tl.length % 2 = 0) : ∀ c v of p, v + c = N → Sp.NSt N (fun i j => Sp.Reach tl i j) v of p → Sp.NSt N (fun i j => Sp.Reach tl i j) N (Sp.partsGo tl N c v of p).1 (Sp.partsGo tl N c v of p).2
  | 0, v, of, p, hv, h => by have e : N = v := by omega
                             subst e; exact h
  | c + 1, v, of, p, hv, h => by
    rw [Sp.partsGo]
    by_cases h0 : of.getD v 0 = -1
    · rw [if_pos h0]
      obtain ⟨f1, f2⟩ := Sp.flood_all (p := (p : Int)) (by omega) ht hev h.len (show v < N by omega) h0 h.inv
      exact Sp.partsGo_st ht hev c (v + 1) _ (p + 1) (by omega) (h.new (fun i => .refl _) (fun i j _ _ hr => hr.symm hev) (fun i j l h1 h2 => h1.trans h2) (by omega) h0 f1 (fun i hi hr => (f2 i hi).1 hr) (fun i hi hr => (f2 i hi).2 hr))
    · rw [if_neg h0]
      exact Sp.partsGo_st ht hev c (v + 1) of p (by omega) (h.old (by omega) h0)
/-- What Parts tells. -/
theorem Sp.pieces_st {q : Sp.Net} (hn : 0 ≤ q.n) (ht : ∀ x ∈ q.tail, 0 ≤ x ∧ x < q.n) (hev : q.tail.length % 2 = 0) : Sp.NSt q.n.toNat (fun i j => Sp.Reach q.tail i j) q.n.toNat (Sp.pieces q).1 (Sp.pieces q).2 := by
  unfold Sp.pieces
  exact Sp.partsGo_st (fun x hx => by have := ht x hx; omega) hev _ 0 _ 0 (by omega) (Sp.NSt.first _ _)
theorem Sp.pieces_one {q : Sp.Net} (hn : 1 ≤ q.n) (ht : ∀ x ∈ q.tail, 0 ≤ x ∧ x < q.n) (hev : q.tail.length % 2 = 0) (hc : ∀ v, 0 ≤ v → v < q.n → Sp.Reach q.tail 0 v) : (Sp.pieces q).2 = 1 := by
  have h := Sp.pieces_st (by omega) ht hev
  generalize (Sp.pieces q).1 = of at h
  generalize (Sp.pieces q).2 = k at h ⊢
  have e0 : of.getD 0 0 = 0 := by
    have h1 := h.num.rg.nn 0 (by rw [h.len]; omega)
    rcases Int.lt_or_le 0 (of.getD 0 0) with h2 | h2
    · obtain ⟨j, h3, -⟩ := h.num.rg.sm 0 (by rw [h.len]; omega) 0 (Int.le_refl _) h2
      omega
    · omega
  have hpos : 0 < k := by
    have := h.num.lt 0 (by rw [h.len]; omega)
    omega
  rcases Nat.lt_or_ge 1 k with h1 | h1
  · obtain ⟨i, h2, h3⟩ := h.num.on 1 h1
    rw [h.len] at h2
    have h4 := h.inv 0 i (by omega) h2 (hc i (by omega) (by omega))
    omega
  · omega
end Go.Proofs.Ytnkkgeammohemaa


/- A plane net is told so; a plane net turned is plane. -/
namespace Go.Proofs.Ytnkkgeammohemaa
open Go Go.RowKit

def Sp.turnC (tl : List Int) : List (List Int) → List Int → Bool
  | [], _ => true
  | r :: c, bg => if tl.getD (r.getD 0 0).toNat 0 ∈ bg then false
      else if r.all (fun d => tl.getD d.toNat 0 == tl.getD (r.getD 0 0).toNat 0) then Sp.turnC tl c (bg ++ [tl.getD (r.getD 0 0).toNat 0]) else false
theorem Sp.turnGo_cyc (tl : List Int) : ∀ (c : List (List Int)) (a bg : List Int), (∀ r ∈ c, r ≠ []) → Sp.turnGo tl (a ++ c.flatten) (Sp.offs a.length c) bg = Sp.turnC tl c bg
  | [], _, _, _ => rfl
  | r :: c, a, bg, h => by
    have e : a ++ (r :: c).flatten = a ++ (r ++ c.flatten) := by simp
    have hr := h r (by simp)
    have hg : (a ++ (r ++ c.flatten)).getD a.length 0 = r.getD 0 0 := by
      rw [List.getD_eq_getElem?_getD, List.getElem?_append_right (Nat.le_refl _), Nat.sub_self]
      cases r with
      | nil => exact absurd rfl hr
      | cons x r => rfl
    show (if tl.getD ((a ++ (r :: c).flatten).getD a.length 0).toNat 0 ∈ bg then false
      else if (Sp.piece (a ++ (r :: c).flatten) (a.length, a.length + r.length)).all (fun d => tl.getD d.toNat 0 == tl.getD ((a ++ (r :: c).flatten).getD a.length 0).toNat 0) then Sp.turnGo tl (a ++ (r :: c).flatten) (Sp.offs (a.length + r.length) c) (bg ++ [tl.getD ((a ++ (r :: c).flatten).getD a.length 0).toNat 0]) else false) = _
    rw [e, Sp.piece_at, hg]
    have ih := Sp.turnGo_cyc tl c (a ++ r) (bg ++ [tl.getD (r.getD 0 0).toNat 0]) (fun r' hr' => h r' (by simp [hr']))
    rw [List.length_append, List.append_assoc] at ih
    rw [ih]
    rfl
theorem rounds_head {st : List Int} (hp : Sp.Perm st) {d : Nat} (hd : d < st.length) : (Sp.rounds st d (Sp.per st d)).getD 0 0 = (d : Int) ∧ Sp.rounds st d (Sp.per st d) ≠ [] := by
  have h1 := (hp.per hd).1
  constructor
  · rw [Sp.getD_eq _ _ (by rw [Sp.rounds_len]; omega)]
    simp [Sp.rounds, Sp.nth]
  · intro e
    have := congrArg List.length e
    rw [Sp.rounds_len] at this
    simp at this
    omega
theorem Sp.turnC_of {st tl : List Int} (hp : Sp.Perm st) (hT : ∀ i, i < st.length → tl.getD (Sp.fn st i) 0 = tl.getD i 0) (hS : ∀ i j, i < st.length → j < st.length → tl.getD i 0 = tl.getD j 0 → OrbF (Sp.fn st) i j) :
    ∀ f d row bg, d + f = st.length → Sp.Shut st row → (∀ b ∈ bg, ∃ i : Nat, i < st.length ∧ (i : Int) ∈ row ∧ tl.getD i 0 = b) → Sp.turnC tl (Sp.cyc st f d row) bg = true
  | 0, _, _, _, _, _, _ => rfl
  | f + 1, d, row, bg, hd, hs, hb => by
    have hdl : d < st.length := by omega
    rw [Sp.cyc]
    by_cases hm : (d : Int) ∈ row
    · rw [if_pos hm]
      exact Sp.turnC_of hp hT hS f (d + 1) row bg (by omega) hs hb
    · rw [if_neg hm, Sp.turnC, (rounds_head hp hdl).1, Int.toNat_natCast]
      have hnb : ¬ tl.getD d 0 ∈ bg := fun h => by
        obtain ⟨i, h1, h2, h3⟩ := hb _ h
        exact hm (hs.orb hp h1 h2 (hS i d h1 hdl h3))
      have hall : (Sp.rounds st d (Sp.per st d)).all (fun x => tl.getD x.toNat 0 == tl.getD d 0) = true := by
        rw [List.all_eq_true]
        intro x hx
        obtain ⟨j, rfl, m, rfl⟩ := (hp.mem_rounds hdl x).1 hx
        rw [Int.toNat_natCast, beq_iff_eq]
        clear hx
        induction m with
        | zero => rfl
        | succ m ih => exact (hT _ (hp.fnP.it hdl m)).trans ih
      rw [if_neg hnb, if_pos hall]
      refine Sp.turnC_of hp hT hS f (d + 1) _ _ (by omega) (hs.add hp hdl) (fun b hb' => ?_)
      rcases List.mem_append.1 hb' with h1 | h1
      · obtain ⟨i, h2, h3, h4⟩ := hb b h1
        exact ⟨i, h2, List.mem_append_left _ h3, h4⟩
      · rw [List.mem_singleton] at h1
        exact ⟨d, hdl, List.mem_append_right _ ((hp.mem_rounds hdl _).2 ⟨d, rfl, OrbF.refl _ _⟩), h1.symm⟩
theorem Sp.turning_of {q : Sp.Net} (hp : Sp.Perm q.next) (hT : ∀ i, i < q.next.length → q.tail.getD (Sp.fn q.next i) 0 = q.tail.getD i 0) (hS : ∀ i j, i < q.next.length → j < q.next.length → q.tail.getD i 0 = q.tail.getD j 0 → OrbF (Sp.fn q.next) i j) : Sp.turningB q = true := by
  unfold Sp.turningB
  rw [Sp.rndsD_cyc hp, Sp.rnds_cyc hp]
  have h := Sp.turnGo_cyc q.tail (Sp.cycs q.next) [] [] (fun r hr => by
    obtain ⟨e, he, rfl⟩ := Sp.cyc_pos hp _ 0 [] (by omega) r hr
    exact (rounds_head hp he).2)
  rw [List.nil_append] at h
  have h2 := Sp.turnC_of hp hT hS q.next.length 0 [] [] (by omega) (fun i _ h => by simp at h) (fun b hb => by simp at hb)
  show (Sp.turnGo q.tail (Sp.cycs q.next).flatten (Sp.offs ([] : List Int).length (Sp.cycs q.next)) [] && true) = true
  rw [h, Bool.and_true]
  exact h2
theorem toNat_inj' {a b : Int} (ha : 0 ≤ a) (hb : 0 ≤ b) (h : a.toNat = b.toNat) : a = b := by omega
/-- The vertices' rounds, as the program asks for them. -/
theorem Sp.turning_cls {q : Sp.Net} (hp : Sp.Perm q.next) (hl : q.next.length = q.tail.length) (ht : ∀ x ∈ q.tail, 0 ≤ x ∧ x < q.n) (hv : Cls q.tail.length (Sp.fn q.next) (fun i => (q.tail.getD i 0).toNat) q.n.toNat) : Sp.turningB q = true := by
  have hb : ∀ i, i < q.tail.length → 0 ≤ q.tail.getD i 0 := fun i hi => (ht _ (Sp.getD_mem hi)).1
  have hmp : ∀ i, i < q.tail.length → Sp.fn q.next i < q.tail.length := fun i hi => by have := hp.fnP.mp i (by rw [hl]; exact hi); rw [hl] at this; exact this
  refine Sp.turning_of hp (fun i hi => ?_) (fun i j hi hj e => ?_)
  · rw [hl] at hi
    exact toNat_inj' (hb _ (hmp i hi)) (hb i hi) (hv.inv i hi)
  · rw [hl] at hi hj
    exact hv.sep i j hi hj (by show (q.tail.getD i 0).toNat = _; rw [e])
/-- A plane net that has darts is told so. -/
theorem Sp.check_plain {q : Sp.Net} (hw : Sp.walkB q = true) (hn : 1 ≤ q.n) (hp : Sp.Perm q.next) (hc : ∀ x ∈ q.cap, 0 ≤ x ∧ x ≤ 2147483648) (hl0 : 0 < q.tail.length) (h : Sp.Plain q) : Sp.checkI q = 0 := by
  have hq := walkQ hw
  have hw' := hw
  simp only [Sp.walkB, Bool.and_eq_true] at hw'
  obtain ⟨w1, w2, w3⟩ := hw'
  have hheld : Sp.heldB q = true := by
    unfold Sp.heldB Sp.capB
    rw [List.all_eq_true]
    intro x hx
    have := hc x hx
    simp [this]
  have htu := Sp.turning_cls hp hq.nx hq.tb h.vert
  have hpc := Sp.pieces_one hn hq.tb hq.ev h.conn
  obtain ⟨lab, F, hf, hE⟩ := h.face
  have hst := (Sp.faces2_st hp hq.nx hq.ev).cls
  rw [Sp.behindL_len, hq.nx] at hst
  have hmp : ∀ i, i < q.tail.length → Sp.fn (Sp.behindL q.next) i < q.tail.length := fun i hi => by
    have := (hp.behind (by rw [hq.nx]; exact hq.ev)).fnP.mp i (by rw [Sp.behindL_len, hq.nx]; exact hi)
    rw [Sp.behindL_len, hq.nx] at this; exact this
  have hK := hst.count hmp hf
  have hF0 : 0 < F := by have := hf.lt 0 hl0; omega
  have hfn : Sp.facesN q = F := by rw [(Sp.faces_eq hp hq.nx hq.ev).2, hK]; omega
  unfold Sp.checkI
  rw [if_neg (by rw [w1]; decide), if_neg (by rw [w2]; decide), if_neg (by omega), if_neg (by rw [w3]; decide), if_neg (by rw [htu]; decide), if_neg (by rw [hheld]; decide), if_neg (by rw [hpc]; decide), if_neg (by rw [hfn, hE]; decide)]
theorem Sp.check_one : Sp.checkI ⟨1, [], [], []⟩ = 0 := by decide +kernel
theorem Sp.check_plane (ns : List Int) : Sp.checkI (Sp.plane ns) = 0 := by
  have hq := Sp.planeN_ok ns (min ns.length 24)
  rcases Sp.plane_plain ns with e | ⟨h1, h2⟩
  · rw [e]; exact Sp.check_one
  · have hle : (Sp.plane ns).tail.length ≤ 2 * min ns.length 24 := hq.le
    have hn1 : (Sp.plane ns).n ≤ ((min ns.length 24 : Nat) : Int) + 1 := hq.n1
    have hn0 : 1 ≤ (Sp.plane ns).n := hq.n0
    exact Sp.check_plain (walkB_of ⟨by omega, by omega, by omega, hq.ev, hq.nx, hq.cp, fun x hx => hq.pm.bd x hx, hq.tb⟩) hn0 hq.pm hq.cb h1 h2
/-- The net seen from behind. -/
def Sp.seen (q : Sp.Net) : Sp.Net := ⟨q.n, q.tail, Sp.turnL q.next, q.cap⟩
theorem fn_tb {nx : List Int} (hp : Sp.Perm nx) (hev : nx.length % 2 = 0) {x : Nat} (hx : x < nx.length) : Sp.fn (Sp.behindL (Sp.turnL nx)) (Sp.oth (Sp.fn (Sp.behindL nx) x)) = Sp.oth x ∧ Sp.oth (Sp.fn (Sp.behindL nx) x) < nx.length := by
  have ho := oth_lt hx hev
  have h1 : Sp.fn (Sp.behindL nx) x = Sp.fn nx (Sp.oth x) := fn_behind nx x hx
  have h2 := hp.fnP.mp _ ho
  have h3 : Sp.oth (Sp.fn (Sp.behindL nx) x) < nx.length := by rw [h1]; exact oth_lt h2 hev
  refine ⟨?_, h3⟩
  rw [fn_behind _ _ (by rw [Sp.turnL_len]; exact h3), oth_oth, h1, Sp.fn_turn hp ho]
theorem orb_turn {st : List Int} (hp : Sp.Perm st) {g : Nat → Nat} (hg : ∀ x, x < st.length → g (Sp.oth (Sp.fn st x)) = Sp.oth x) {i : Nat} (hi : i < st.length) : ∀ m, OrbF g (Sp.oth (itf (Sp.fn st) i m)) (Sp.oth i)
  | 0 => OrbF.refl _ _
  | m + 1 => OrbF.trans ⟨1, hg _ (hp.fnP.it hi m)⟩ (orb_turn hp hg hi m)
theorem Sp.Plain.seen {q : Sp.Net} (hp : Sp.Perm q.next) (hl : q.next.length = q.tail.length) (hev : q.tail.length % 2 = 0) (h : Sp.Plain q) : Sp.Plain (Sp.seen q) := by
  have hmp : ∀ i, i < q.tail.length → Sp.fn q.next i < q.tail.length := fun i hi => by have := hp.fnP.mp i (by rw [hl]; exact hi); rw [hl] at this; exact this
  have hmpt : ∀ i, i < q.tail.length → Sp.fn (Sp.turnL q.next) i < q.tail.length := fun i hi => by have := hp.turn.fnP.mp i (by rw [Sp.turnL_len, hl]; exact hi); rw [Sp.turnL_len, hl] at this; exact this
  have hback : ∀ i, i < q.tail.length → ∀ m, OrbF (Sp.fn (Sp.turnL q.next)) (itf (Sp.fn q.next) i m) i := by
    intro i hi m
    induction m with
    | zero => exact OrbF.refl _ _
    | succ m ih =>
      have hb : itf (Sp.fn q.next) i m < q.next.length := hp.fnP.it (by rw [hl]; exact hi) m
      exact OrbF.trans ⟨1, Sp.fn_turn hp hb⟩ ih
  refine ⟨?_, ?_, h.conn⟩
  · show Cls q.tail.length (Sp.fn (Sp.turnL q.next)) (fun i => (q.tail.getD i 0).toNat) q.n.toNat
    refine ⟨h.vert.lt, h.vert.on, fun i hi => ?_, fun i j hi hj e => ?_⟩
    · have h1 := h.vert.inv _ (hmpt i hi)
      rw [Sp.fn_turn' hp (by rw [hl]; exact hi)] at h1
      exact h1.symm
    · obtain ⟨m, hm⟩ := h.vert.sep j i hj hi e.symm
      have := hback j hj m
      rw [hm] at this
      exact this
  · obtain ⟨lab, F, hf, hE⟩ := h.face
    have hbp := hp.behind (by rw [hl]; exact hev)
    have hbl : (Sp.behindL q.next).length = q.tail.length := by rw [Sp.behindL_len, hl]
    refine ⟨fun x => lab (Sp.oth x), F, ?_, hE⟩
    show Cls q.tail.length (Sp.fn (Sp.behindL (Sp.turnL q.next))) (fun x => lab (Sp.oth x)) F
    have hg : ∀ x, x < q.tail.length → Sp.fn (Sp.behindL (Sp.turnL q.next)) (Sp.oth (Sp.fn (Sp.behindL q.next) x)) = Sp.oth x := fun x hx => (fn_tb hp (by rw [hl]; exact hev) (by rw [hl]; exact hx)).1
    refine ⟨fun i hi => hf.lt _ (oth_lt hi hev), fun c hc => ?_, fun i hi => ?_, fun i j hi hj e => ?_⟩
    · obtain ⟨i, h1, h2⟩ := hf.on c hc
      exact ⟨Sp.oth i, oth_lt h1 hev, by show lab (Sp.oth (Sp.oth i)) = c; rw [oth_oth]; exact h2⟩
    · -- i is the other of what comes behind some dart
      obtain ⟨y, hy, ey⟩ := hbp.onto (j := Sp.oth i) (by rw [hbl]; exact oth_lt hi hev)
      rw [hbl] at hy
      have ei : i = Sp.oth (Sp.fn (Sp.behindL q.next) y) := by rw [ey, oth_oth]
      show lab (Sp.oth (Sp.fn (Sp.behindL (Sp.turnL q.next)) i)) = lab (Sp.oth i)
      rw [ei, hg y hy, oth_oth, oth_oth, hf.inv y hy]
    · obtain ⟨m, hm⟩ := hf.sep (Sp.oth j) (Sp.oth i) (oth_lt hj hev) (oth_lt hi hev) (show lab (Sp.oth j) = lab (Sp.oth i) from e.symm)
      have := orb_turn hbp (g := Sp.fn (Sp.behindL (Sp.turnL q.next))) (fun x hx => hg x (by rw [← hbl]; exact hx)) (i := Sp.oth j) (by rw [hbl]; exact oth_lt hj hev) m
      rw [hm, oth_oth, oth_oth] at this
      exact this
theorem Sp.turn_twice {nx : List Int} (hp : Sp.Perm nx) : Sp.turnL (Sp.turnL nx) = nx := by
  apply List.ext_getElem
  · rw [Sp.turnL_len, Sp.turnL_len]
  · intro i h1 h2
    rw [← Sp.getD_eq _ _ h1, ← Sp.getD_eq _ _ h2]
    have e := Sp.turnL_back hp.turn (i := Sp.fn nx i) (by rw [Sp.turnL_len]; exact hp.fnP.mp i h2)
    rw [Sp.fn_turn hp h2] at e
    rw [e]
    have := hp.bd _ (Sp.getD_mem h2)
    show (((nx.getD i 0).toNat : Nat) : Int) = _
    omega
end Go.Proofs.Ytnkkgeammohemaa


/- The law RotTurns, walked. -/
namespace Go.Proofs.Ytnkkgeammohemaa
open Go Go.RowKit

theorem euler_of {q : Sp.Net} (h : Sp.checkI q = 0) : q.n - ((q.tail.length / 2 : Nat) : Int) + (Sp.facesN q : Int) = 2 := by
  unfold Sp.checkI at h
  repeat' split at h
  all_goals first
    | (simp at h; done)
    | (rename_i h1; exact Decidable.of_not_not h1)
theorem Sp.check_seen (ns : List Int) : Sp.checkI (Sp.seen (Sp.plane ns)) = 0 := by
  have hq := Sp.planeN_ok ns (min ns.length 24)
  rcases Sp.plane_plain ns with e | ⟨h1, h2⟩
  · rw [e]; exact Sp.check_one
  · have hle : (Sp.plane ns).tail.length ≤ 2 * min ns.length 24 := hq.le
    have hn1 : (Sp.plane ns).n ≤ ((min ns.length 24 : Nat) : Int) + 1 := hq.n1
    have hn0 : 1 ≤ (Sp.plane ns).n := hq.n0
    exact Sp.check_plain (walkB_of ⟨by show (Sp.plane ns).n ≤ 60; omega, by show 0 ≤ (Sp.plane ns).n; omega, by show (Sp.plane ns).tail.length ≤ 240; omega, hq.ev, by show (Sp.turnL (Sp.plane ns).next).length = _; rw [Sp.turnL_len]; exact hq.nx, hq.cp, hq.pm.turn.bd, hq.tb⟩) hn0 hq.pm.turn hq.cb h1 (h2.seen hq.pm hq.nx hq.ev)
set_option maxRecDepth 100000 in
set_option maxHeartbeats 4000000 in
theorem rotTurns_any (ns : List Int) (x : Value) (w : World) (hx : Ints w x ns) :
    Calls Try.prog 6 #[x] w fun e w' => e = .returned (.bool true) ∧ Below w.heap.size w w' := by
  obtain ⟨a, c, rfl, hc, hm⟩ := hx.form
  have HPL := hide (fun w' (hb : Below w.heap.size w w') => plane_any ns (.slice a ns.length c) w' (hx.below hb))
  have HOK := hide (Sp.plane_ok ns)
  have HCk := hide (Sp.check_seen ns)
  have HC0 := hide (Sp.check_plane ns)
  generalize Sp.plane ns = q at *
  generalize ns.length = n at *
  clear hx
  obtain ⟨P, hP⟩ : ∃ P : Ending → World → Prop, P = fun e w' => e = .returned (.bool true) ∧ Below w.heap.size w w' := ⟨_, rfl⟩
  rw [← hP]
  have HP := hide hP
  clear hP
  go_enter Try.func6, Try.ntmps6
  go_wp2_with fail
  go_at_call 9
  refine (known2_any w).mono ?_
  rintro e w2 ⟨rfl, hb2⟩
  have Hb2 := hide hb2
  clear hb2
  go_wp2_with fail
  go_at_call 10
  refine (unhide HPL _ (unhide Hb2)).mono ?_
  clear HPL
  rintro e w3 ⟨v, tv, nv, cv, rfl, hnv, hb3⟩
  have hval := hnv.val
  subst hval
  obtain ⟨ta, tc, rfl, htc, htm, HT⟩ := hnv.netI.tail.allD
  obtain ⟨na, nc, rfl, -, -⟩ := hnv.netI.next.form
  obtain ⟨ca, cc, rfl, -, -⟩ := hnv.netI.cap.form
  obtain ⟨W4, hW4⟩ : ∃ W4, W4 = w3.alloc (.cells #[.int .i64 q.n, .slice ta q.tail.length tc, .slice na q.next.length nc, .slice ca q.cap.length cc] 25) := ⟨_, rfl⟩
  obtain ⟨hBX, hs4, hTR⟩ := boxed ((unhide Hb2).trans (hb3.mono (unhide Hb2).size)) hnv.netI W4 hW4
  have HBX := hide hBX
  have HTR := hide hTR
  have Hs4 := hide hs4
  have HW4 := hide hW4
  clear hnv hb3 Hb2 hBX hTR hs4 hW4
  have hb4 : Below (w3.heap.size + 1) W4 W4 := Below.refl _ _
  have HWK := hide ((unhide HOK).walk (by omega))
  have HTT : Hid (Sp.turnL (Sp.turnL q.next) = q.next) := hide (Sp.turn_twice (unhide HOK).pm)
  have HFN : Hid (Sp.facesN (Sp.seen q) = Sp.facesN q) := hide (by
    have e1 := euler_of (unhide HCk)
    have e2 := euler_of (unhide HC0)
    have e1' : q.n - ((q.tail.length / 2 : Nat) : Int) + (Sp.facesN (Sp.seen q) : Int) = 2 := e1
    omega)
  obtain ⟨qT, hqT⟩ : ∃ qT : Sp.Net, qT = Sp.seen q := ⟨_, rfl⟩
  have HWT : Hid (Sp.walkB qT = true) := hide (by
    have h := walkQ (unhide HWK)
    rw [hqT]
    exact walkB_of ⟨h.n1, h.n0, h.big, h.ev, by show (Sp.turnL q.next).length = _; rw [Sp.turnL_len]; exact h.nx, h.cp, (unhide HOK).pm.turn.bd, h.tb⟩)
  have HQn : Hid (qT.n = q.n ∧ qT.tail = q.tail ∧ qT.next = Sp.turnL q.next ∧ qT.cap = q.cap) := hide (by rw [hqT]; exact ⟨rfl, rfl, rfl, rfl⟩)
  have HTn : Hid (∀ w', Below (w3.heap.size + 1) W4 w' → Calls Try.prog 21 #[.agg #[.int .i64 q.n, .slice ta q.tail.length tc, .slice na q.next.length nc, .slice ca q.cap.length cc]] w' fun e w'' => ∃ ta' tc' na' nc' ca' cc', e = .returned (.agg #[.int .i64 q.n, .slice ta' q.tail.length tc', .slice na' q.next.length nc', .slice ca' q.cap.length cc']) ∧ NetI w'' (.agg #[.int .i64 qT.n, .slice ta' q.tail.length tc', .slice na' q.next.length nc', .slice ca' q.cap.length cc']) qT (.slice ta' q.tail.length tc') (.slice na' q.next.length nc') (.slice ca' q.cap.length cc') ∧ Below w'.heap.size w' w'') := by
    refine hide fun w' hb => (rturn_any q _ _ _ _ w' (unhide HBX w' hb).2.1 (unhide HWK)).mono ?_
    rintro e w'' ⟨tv, nv, cv, e1, e2, e3, e4, e5⟩
    obtain ⟨ta', tc', rfl, -, -⟩ := e2.ints.form
    obtain ⟨na', nc', hnv, -, -⟩ := e3.ints.form
    obtain ⟨ca', cc', rfl, -, -⟩ := e4.ints.form
    rw [Sp.turnL_len] at hnv
    subst hnv
    refine ⟨ta', tc', na', nc', ca', cc', e1, ?_, e5⟩
    rw [hqT]
    exact ⟨rfl, e2.ints, e3.ints, e4.ints⟩
  rw [← hqT] at HCk HFN
  clear hqT
  have HF1 := hide (fun w' (hb : Below (w3.heap.size + 1) W4 w') => faces_any q _ _ _ _ w' (unhide HBX w' hb).2.1 (unhide HWK))
  generalize Sp.facesN q = F at *
  clear HC0 HT
  go_wp2_with fail
  rw [← unhide HW4]
  go_at_call 21
  refine (unhide HTn W4 hb4).mono ?_
  clear HTn
  rintro e wT ⟨ta', tc', na', nc', ca', cc', rfl, hNT, hlT⟩
  obtain ⟨W6, hW6⟩ : ∃ W6, W6 = wT.alloc (.cells #[.int .i64 qT.n, .slice ta' q.tail.length tc', .slice na' q.next.length nc', .slice ca' q.cap.length cc'] 25) := ⟨_, rfl⟩
  obtain ⟨hBX2, hs6, hTR2⟩ := boxed hlT hNT W6 hW6
  rw [(unhide HQn).1] at hBX2 hW6
  have HBX2 := hide hBX2
  have HTR2 := hide hTR2
  have HW6 := hide hW6
  have HB2 : Hid (∀ w', Below (wT.heap.size + 1) W6 w' → Below (w3.heap.size + 1) W4 w') := hide fun w' hb => by
    have h := (hBX2 w' hb).2.2.1
    rw [unhide Hs4] at h
    exact h
  have hb6 : Below (wT.heap.size + 1) W6 W6 := Below.refl _ _
  clear hBX2 hTR2 hW6 hNT hlT hs6
  have HNT := hide (fun w' (hb : Below (wT.heap.size + 1) W6 w') => (unhide HBX2 w' hb).2.1)
  have HF2 : Hid (∀ w', Below (wT.heap.size + 1) W6 w' → Calls Try.prog 15 #[.agg #[.int .i64 q.n, .slice ta' q.tail.length tc', .slice na' q.next.length nc', .slice ca' q.cap.length cc']] w' fun e w'' => ∃ fv, e = .returned (.tuple #[fv, .int .i64 (F : Int)]) ∧ Below w'.heap.size w' w'') := by
    refine hide fun w' hb => ?_
    have h := faces_any qT _ _ _ _ w' (unhide HNT w' hb) (unhide HWT)
    rw [unhide HFN] at h
    exact h.mono fun e w'' ⟨fv, a1, a2, a3⟩ => ⟨fv, a1, a3⟩
  have HK2 : Hid (∀ w', Below (wT.heap.size + 1) W6 w' → Calls Try.prog 12 #[.agg #[.int .i64 q.n, .slice ta' q.tail.length tc', .slice na' q.next.length nc', .slice ca' q.cap.length cc']] w' fun e w'' => e = .returned (.int .i64 0) ∧ Below w'.heap.size w' w'') := by
    refine hide fun w' hb => ?_
    have hn0 := (unhide HOK).n0
    have hn1 := (unhide HOK).n1
    have h := check_any qT _ _ _ _ w' (unhide HNT w' hb) (by rw [(unhide HQn).1]; omega) (by rw [(unhide HQn).1]; omega)
    rw [unhide HCk] at h
    exact h
  have HT2 : Hid (∀ w', Below (wT.heap.size + 1) W6 w' → Calls Try.prog 21 #[.agg #[.int .i64 q.n, .slice ta' q.tail.length tc', .slice na' q.next.length nc', .slice ca' q.cap.length cc']] w' fun e w'' => ∃ tv nv cv, e = .returned (.agg #[.int .i64 q.n, tv, nv, cv]) ∧ NetI w'' (.agg #[.int .i64 q.n, tv, nv, cv]) q tv nv cv ∧ Below w'.heap.size w' w'') := by
    refine hide fun w' hb => ?_
    refine (rturn_any qT _ _ _ _ w' (unhide HNT w' hb) (unhide HWT)).mono ?_
    rintro e w'' ⟨tv, nv, cv, e1, e2, e3, e4, e5⟩
    obtain ⟨h1, h2, h3, h4⟩ := unhide HQn
    rw [h1] at e1
    rw [h2] at e2
    rw [h3, unhide HTT] at e3
    rw [h4] at e4
    exact ⟨tv, nv, cv, e1, ⟨rfl, e2.ints, e3.ints, e4.ints⟩, e5⟩
  have HSm : Hid (∀ w' u tu nu cu, NetI w' u q tu nu cu → Below (wT.heap.size + 1) W6 w' → Calls Try.prog 20 #[u, .agg #[.int .i64 q.n, .slice ta q.tail.length tc, .slice na q.next.length nc, .slice ca q.cap.length cc]] w' fun e w'' => e = .returned (.bool true) ∧ Below w'.heap.size w' w'') := by
    refine hide fun w' u tu nu cu hu hb => ?_
    have hle := (unhide HOK).le
    have hnx := (unhide HOK).nx
    have hcp := (unhide HOK).cp
    refine (same_any q q u _ tu nu cu _ _ _ w' hu (unhide HBX w' (unhide HB2 w' hb)).2.1 ⟨by omega, by omega, by omega⟩ ⟨by omega, by omega, by omega⟩).mono fun e w'' ⟨a1, a2⟩ => ⟨?_, a2⟩
    rw [a1, netEq_refl]
  have HX2 := hide (fun w' (hb : Below (wT.heap.size + 1) W6 w') => (unhide HBX2 w' hb).1)
  have HX1 := hide (fun w' (hb : Below (wT.heap.size + 1) W6 w') => (unhide HBX w' (unhide HB2 w' hb)).1)
  have Hfin := hide (fun w' (hb : Below (wT.heap.size + 1) W6 w') => (unhide HBX w' (unhide HB2 w' hb)).2.2.1)
  have HF1' := hide (fun w' (hb : Below (wT.heap.size + 1) W6 w') => unhide HF1 w' (unhide HB2 w' hb))
  have hFF : ((F : Int) == (F : Int)) = true := beq_self_eq_true _
  go_upto_region 5 with fail
  rw [← unhide HW6]
  obtain ⟨x0, x1, x2, x3⟩ := unhide HX1 W6 hb6
  go_wp2_with fail
  go_at_call 15
  refine (unhide HF1' W6 hb6).mono ?_
  rintro e w7 ⟨fv, rfl, hf7, hl7⟩
  have hb7 := unhide HTR2 _ _ hb6 hl7
  clear x0 x1 x2 x3 hf7 hl7 hb6
  obtain ⟨x0, x1, x2, x3⟩ := unhide HX2 w7 hb7
  go_wp2_with fail
  go_at_call 15
  refine (unhide HF2 w7 hb7).mono ?_
  rintro e w8 ⟨fv2, rfl, hl8⟩
  have hb8 := unhide HTR2 _ _ hb7 hl8
  clear x0 x1 x2 x3 hl8 hb7
  have hb8d := hb8.drew
  go_upto_region 7 with fail
  go_region_held3 (fun w' => (w'.cell? ⟨w3.heap.size, 0, none⟩ = some (.int .i64 q.n) ∧ w'.cell? ⟨w3.heap.size, 1, none⟩ = some (.slice ta q.tail.length tc) ∧ w'.cell? ⟨w3.heap.size, 2, none⟩ = some (.slice na q.next.length nc) ∧ w'.cell? ⟨w3.heap.size, 3, none⟩ = some (.slice ca q.cap.length cc)) ∧ w'.cell? ⟨wT.heap.size, 0, none⟩ = some (.int .i64 q.n) ∧ w'.cell? ⟨wT.heap.size, 1, none⟩ = some (.slice ta' q.tail.length tc') ∧ w'.cell? ⟨wT.heap.size, 2, none⟩ = some (.slice na' q.next.length nc') ∧ w'.cell? ⟨wT.heap.size, 3, none⟩ = some (.slice ca' q.cap.length cc'))
    (exact ⟨unhide HX1 _ (by assumption), unhide HX2 _ (by assumption)⟩)
    (first
      | (go_at_call 20
         refine (unhide HSm _ _ _ _ _ hNI (by assumption)).mono ?_
         rintro e w11 ⟨rfl, hl11⟩
         have hb11 := unhide HTR2 _ _ (by assumption) hl11)
      | (go_at_call 21
         refine (unhide HT2 _ (by assumption)).mono ?_
         rintro e w10 ⟨tv, nv, cv, rfl, hNI, hl10⟩
         have hb10 := unhide HTR2 _ _ (by assumption) hl10)
      | (go_at_call 12
         refine (unhide HK2 _ (by assumption)).mono ?_
         rintro e w9 ⟨rfl, hl9⟩
         have hb9 := unhide HTR2 _ _ (by assumption) hl9))
  all_goals
    go_wp2
    rw [unhide HP]
    exact ⟨by rfl, unhide Hfin _ hb11⟩
end Go.Proofs.Ytnkkgeammohemaa


