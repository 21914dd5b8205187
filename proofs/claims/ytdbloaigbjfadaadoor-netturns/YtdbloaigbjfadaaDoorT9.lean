/- The walk of the reference's About at a net. -/
import Derived.Test.YtdbloaigbjfadaaDoorE4
namespace Go.Proofs.YtdbloaigbjfadaaDoor
open Go Go.RowKit

/-- A round comes back to its first dart, and not before. -/
theorem Sp.round_back (q : Sp.Net) (u d m : Nat) (h : Sp.RoundOf q u (Sp.rounds q.next d m)) (hm : 1 ≤ m) : Sp.nth q.next d m = d ∧ ∀ i, 0 < i → i < m → Sp.nth q.next d i ≠ d := by
  have hg : ∀ i, i < m → (Sp.rounds q.next d m).getD i 0 = Sp.nth q.next d i := fun i hi => by
    rw [Sp.getD_eq _ _ (by rw [Sp.rounds_len]; exact hi)]
    simp [Sp.rounds]
  constructor
  · have h1 := h.next (m - 1) (by rw [Sp.rounds_len]; omega)
    rw [Sp.rounds_len, show m - 1 + 1 = m by omega, Nat.mod_self, hg _ (by omega), hg 0 (by omega)] at h1
    obtain ⟨j, rfl⟩ : ∃ j, m = j + 1 := ⟨m - 1, by omega⟩
    exact h1
  · intro i h0 hi he
    have hn := Sp.not_mem_take _ h.nodup i (by rw [Sp.rounds_len]; exact hi)
    rw [hg i hi, he] at hn
    refine hn (List.mem_take_iff_getElem.2 ⟨0, by rw [Sp.rounds_len]; omega, by simp [Sp.rounds, Sp.nth]⟩)
def sliceLen : Value → Nat
  | .slice _ n _ => n
  | _ => 0
set_option maxRecDepth 100000 in
set_option maxHeartbeats 1000000 in
theorem rabout_any (q : Sp.Net) (v tv nv cv : Value) (u : Nat) (w : World) (hv : NetI w v q tv nv cv) (hq : Sp.Whole q) (hu : (u : Int) < q.n) :
    Calls Tryd.prog 19 #[v, .int .i64 u] w fun e w' => ∃ lv, e = .returned lv ∧ OwnI w' w.heap.size lv (Sp.turnOf q u) ∧ Below w.heap.size w w' := by
  obtain ⟨rfl, h1, h2, h3⟩ := hv
  have htl := hq.lists.tl
  have hnl := hq.lists.nl
  have hub : u ≤ 60 := by have := hq.lists.n1; omega
  obtain ⟨ta, tc, rfl, htc, htm, HT⟩ := h1.all
  obtain ⟨na, nc, rfl, hnc, hnm, HN⟩ := h2.all
  obtain ⟨ca, cc, rfl, hcc, hcm⟩ := h3.form
  clear h1 h2 h3
  rw [hnl] at hnc ⊢
  have HQ := hide hq
  have Hnl := hide hnl
  have Hu := hide hu
  clear hq hnl hu
  obtain ⟨bx, hbx⟩ : ∃ bx : Obj, bx = .cells #[.int .i64 q.n, .slice ta q.tail.length tc, .slice na q.tail.length nc, .slice ca q.cap.length cc] 34 := ⟨_, rfl⟩
  have HBX : Hid (∀ w', Below (w.heap.size + 1) (w.alloc bx) w' → (w'.cell? ⟨w.heap.size, 1, none⟩ = some (.slice ta q.tail.length tc) ∧ w'.cell? ⟨w.heap.size, 2, none⟩ = some (.slice na q.tail.length nc)) ∧ Below w.heap.size w w' ∧ w.heap.size + 1 ≤ w'.heap.size) := by
    refine hide fun w' hb => ?_
    subst hbx
    obtain ⟨-, k1, k2, -⟩ := net_new w (.int .i64 q.n) (.slice ta q.tail.length tc) (.slice na q.tail.length nc) (.slice ca q.cap.length cc) 34
    have hs := hb.size
    simp at hs
    exact ⟨⟨(hb.cell (by show w.heap.size < _; omega)).trans k1, (hb.cell (by show w.heap.size < _; omega)).trans k2⟩, ((Below.refl _ w).alloc (Nat.le_refl _) _).trans (hb.mono (by omega)), by omega⟩
  subst hbx
  go_enter Tryd.func19, Tryd.ntmps19
  go_wp2
  generalize w.alloc (.cells #[.int .i64 q.n, .slice ta q.tail.length tc, .slice na q.tail.length nc, .slice ca q.cap.length cc] 34) = W1 at *
  go_loopw [5, 6] (fun ov i wr => ∃ k : Nat, k ≤ q.tail.length ∧ ov = .slice none 0 0 ∧ i = .int .i64 (k : Int) ∧ Hid (∀ j, j < k → q.tail.getD j 0 ≠ (u : Int)) ∧ W1 = wr) (fun _ i _ => q.tail.length - (intOf i).toNat)
  case atStart => exact ⟨0, by omega, rfl, rfl, hide (fun j hj => by omega), rfl⟩
  case round =>
    obtain ⟨k, hk, rfl, rfl, hno, rfl⟩ := hrel
    obtain ⟨⟨c1, c2⟩, hbw, hsz⟩ := unhide HBX _ (Below.refl _ W1)
    by_cases hlt : k < q.tail.length
    · obtain ⟨b, o, rfl, hbl, hcx⟩ := unhide HT k hlt
      have g := hcx _ hbw
      have hlt' : (k : Int) < q.tail.length := by omega
      have Hgd : Hid (q.tail.getD k 0 = q.tail[k]) := hide (Sp.getD_eq _ _ hlt)
      clear hcx
      by_cases hz : q.tail[k] = (u : Int)
      · obtain ⟨m, hm⟩ : ∃ m : Nat, Sp.countOf q.tail u = m := ⟨(Sp.countOf q.tail u).toNat, by have := (Sp.countOf_bd q.tail u).1; omega⟩
        have hm1 : 1 ≤ m := by
          have := Sp.countOf_pos q.tail k hlt
          rw [unhide Hgd, hz, hm] at this
          omega
        have hmL : m ≤ q.tail.length := by have := (Sp.countOf_bd q.tail u).2; omega
        have hT := Sp.turnOf_some q u k m hlt ((unhide Hgd).trans hz) (unhide hno) hm
        have hR : Sp.RoundOf q u (Sp.rounds q.next k m) := by
          obtain ⟨l, hl⟩ := (unhide HQ).round u (unhide Hu)
          rw [← hT]; exact Sp.turnOf_round q u l hl
        obtain ⟨hback, hnot⟩ := Sp.round_back q u k m hR hm1
        have HT1 := hide hT
        have Hback := hide hback
        have Hnot := hide hnot
        have Hbd := hide (fun i => Sp.nth_bd (unhide Hnl) (unhide HQ).next (d := (k : Int)) (by omega) (by omega) i)
        rw [hz] at g
        clear hz hm hT hR hback hnot hno Hgd
        obtain ⟨b2, o2, hna, -, hcn⟩ := unhide HN k (by rw [unhide Hnl]; exact hlt)
        subst hna
        go_wp2_with (at_builtin; refine wpList_app (w := W1.alloc (.cells #[.int .i64 (k : Int)] 3)) rfl _ _ rfl (w.heap.size + 1) (.slice none 0 0) _ [] [(k : Int)] rfl rfl (World.ownsRow_nil _ _ _ _) (OwnI.ints (own_lit W1 0 _ 1 [(k : Int)] rfl rfl (by omega) (by simp))) 1 (by simp) (by omega) (by simp; omega) ?_)
        intro a5 c5 w5 hown5 hb5 hgr5
        have hb5' : Below (w.heap.size + 1) W1 w5 := ((Below.refl _ W1).alloc (by omega) _).trans hb5
        clear hgr5 hb5 c1 c2 g
        obtain ⟨⟨c1, c2⟩, hbw5, hsz5⟩ := unhide HBX _ hb5'
        have g2 := hcn _ hbw5
        have HN1 : Hid (Sp.nth q.next k 1 = q.next[k]'(by rw [unhide Hnl]; exact hlt)) := hide (by
          show q.next.getD ((k : Int)).toNat 0 = _
          rw [Int.toNat_natCast, Sp.getD_eq])
        rw [← unhide HN1] at g2
        have HO5 : Hid (OwnI w5 (w.heap.size + 1) (.slice a5 1 c5) (Sp.rounds q.next k 1)) := hide hown5
        have HB5 := hide hb5'
        clear hown5 hb5' hcn
        go_wp2
        clear c1 c2 g2
        go_loopw [5, 7] (fun ov ev wr => ∃ (i : Nat) (oq : Value), oq = ov ∧ 1 ≤ i ∧ i ≤ m ∧ ev = .int .i64 (Sp.nth q.next k i) ∧ OwnI wr (w.heap.size + 1) oq (Sp.rounds q.next k i) ∧ Below (w.heap.size + 1) W1 wr) (fun ov _ _ => q.tail.length + 1 - sliceLen ov)
        case atStart => exact ⟨1, _, rfl, by omega, hm1, rfl, unhide HO5, unhide HB5⟩
        case round =>
          clear HO5 HB5 HN1 hbw5 hsz5
          obtain ⟨i, oq, rfl, hi1, him, rfl, hown, hb⟩ := hrel
          obtain ⟨⟨c1, c2⟩, hbwr, hszr⟩ := unhide HBX _ hb
          obtain ⟨oa, oc, rfl, -, -⟩ := hown.ints.form
          have hrl := Sp.rounds_len q.next k i
          have HO := hide hown
          rw [hrl] at HO ⊢
          clear hown hrl
          by_cases him' : i < m
          · have hne := unhide Hnot i (by omega) him'
            obtain ⟨y0, y1⟩ := unhide Hbd i
            obtain ⟨j, hj⟩ : ∃ j : Nat, Sp.nth q.next k i = j := ⟨(Sp.nth q.next k i).toNat, by omega⟩
            have HS : Hid (Sp.rounds q.next k (i + 1) = Sp.rounds q.next k i ++ [(j : Int)]) := hide (by rw [Sp.rounds_succ, hj])
            have hj2 : j < q.next.length := by rw [unhide Hnl]; omega
            have HNX : Hid (Sp.nth q.next k (i + 1) = q.next[j]) := hide (by
              show q.next.getD (Sp.nth q.next k i).toNat 0 = _
              rw [hj, Int.toNat_natCast, Sp.getD_eq _ _ hj2])
            obtain ⟨b3, o3, e3, -, hc3⟩ := unhide HN j hj2
            injection e3 with e3
            injection e3 with e31 e32
            subst e31 e32
            rw [hj] at hne ⊢
            have hne' : ((j : Int) == (k : Int)) = false := beq_eq_false_iff_ne.2 hne
            have hne2 : ((j : Int) != (k : Int)) = true := by simp [bne, hne']
            have hne3 : ¬ (j : Int) = (k : Int) := hne
            have hjL : (j : Int) < q.tail.length := by omega
            have hiL : (i : Int) ≤ q.tail.length := by omega
            clear hj hne y0 y1
            generalize q.next[j] = z at *
            go_wp2_with (at_builtin; refine wpList_app (w := wr.alloc (.cells #[.int .i64 (j : Int)] 3)) rfl _ _ rfl (w.heap.size + 1) _ _ (Sp.rounds q.next k i) [(j : Int)] rfl rfl (World.ownsRow.alloc (unhide HO) _) (OwnI.ints (own_lit wr 0 _ 1 [(j : Int)] rfl rfl (by omega) (by simp))) (i + 1) (by rw [Sp.rounds_len]; rfl) (by omega) (by simp; omega) ?_)
            intro a6 c6 w6 hown6 hb6 hgr6
            have hb6' : Below (w.heap.size + 1) W1 w6 := (hb.alloc hszr _).trans hb6
            have HO6 := hide hown6
            clear hgr6 hb6 c1 c2 hown6 HO
            obtain ⟨⟨c1, c2⟩, hbw6, hsz6⟩ := unhide HBX _ hb6'
            have g3 := hc3 _ hbw6
            clear hc3
            go_wp2
            go_roundw
            case rel => exact ⟨i + 1, _, rfl, by omega, by omega, by rw [unhide HNX], by rw [unhide HS]; exact unhide HO6, hb6'⟩
            case measure => simp [sliceLen]; omega
          · obtain rfl : i = m := by omega
            rw [unhide Hback]
            have hkk : ((k : Int) == (k : Int)) = true := beq_self_eq_true _
            go_wp2
            go_ret
            exact ⟨_, rfl, by rw [unhide HT1]; exact own_base (unhide HO) (by omega), hbwr⟩
      · generalize q.tail[k] = z at *
        have hz' : (z == (u : Int)) = false := beq_eq_false_iff_ne.2 hz
        have HN2 : Hid (∀ j, j < k + 1 → q.tail.getD j 0 ≠ (u : Int)) := hide fun j hj => by
          by_cases e : j = k
          · rw [e, unhide Hgd]; exact hz
          · exact unhide hno j (by omega)
        clear hno Hgd
        go_wp2
        go_roundw
        case rel => exact ⟨k + 1, by omega, rfl, by go_num, HN2, trivial⟩
        case measure => simp [intOf]; omega
    · have HF : Hid (Sp.turnOf q u = []) := hide (Sp.turnOf_none q u fun i hi => unhide hno i (by omega))
      clear hno
      go_wp2
      go_ret
      exact ⟨_, rfl, by rw [unhide HF]; exact World.ownsRow_nil _ _ _ _, hbw⟩
end Go.Proofs.YtdbloaigbjfadaaDoor
