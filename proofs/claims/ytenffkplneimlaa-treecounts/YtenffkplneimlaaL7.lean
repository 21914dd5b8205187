/- What the proof needs, part 7. -/
import Derived.WalkMore
import Derived.Test.YtenffkplneimlaaL6
/- Package tree: Right. -/
namespace Go.Proofs.Ytenffkplneimlaa
open Go Go.RowKit

theorem count_mark : ∀ (l : List Int) (i : Nat) (v : Int), i < l.length → l.getD i 0 = -1 → v ≠ -1 → (l.set i v).count (-1) + 1 = l.count (-1)
  | [], i, v, h, _, _ => by simp at h
  | a :: l, 0, v, _, h, hv => by
    have : a = -1 := h
    subst this
    rw [List.set_cons_zero, List.count_cons_of_ne (by omega), List.count_cons_self]
  | a :: l, i + 1, v, hi, h, hv => by
    have ih := count_mark l i v (by simpa using hi) h hv
    rw [List.set_cons_succ, List.count_cons, List.count_cons]
    omega
/-- What the ways gone so far have left; v: the vertex that is gone up from, at: where it stands. -/
structure Sp.ByI (T up : List Int) (root : Int) (N v : Nat) (L : List Int) (C : Nat → Prop) : Prop where
  len : L.length = N
  mark : ∀ x, x < N → L.getD x 0 ≠ -1 → (0 ≤ L.getD x 0 ∧ L.getD x 0 < (v : Int) ∧ Sp.Rc T up root x) ∨ (L.getD x 0 = (v : Int) ∧ C x)
  all : ∀ y, y < v → Sp.Rc T up root y
/-- The way from v is done: it comes to where one comes to the root. -/
theorem Sp.ByI.done {T up : List Int} {root : Int} {N v t : Nat} {L : List Int} (h : Sp.ByI T up root N v L (fun x => ∃ m, Sp.Stp T up root (m + 1) x t)) (ht : Sp.Rc T up root t) (hv : ∃ m, Sp.Stp T up root m v t) : Sp.ByI T up root N (v + 1) L (fun _ => False) := by
  refine ⟨h.len, fun x hx hne => .inl ?_, fun y hy => ?_⟩
  · rcases h.mark x hx hne with ⟨a, b, c⟩ | ⟨a, m, b⟩
    · exact ⟨a, by omega, c⟩
    · exact ⟨by omega, by omega, b.rc.2 ht⟩
  · by_cases hyv : y = v
    · obtain ⟨m, b⟩ := hv
      rw [hyv]; exact b.rc.2 ht
    · exact h.all y (by omega)
/-- A vertex is marked, and gone on from. -/
theorem Sp.ByI.on {T up : List Int} {root : Int} {N v t : Nat} {L : List Int} (h : Sp.ByI T up root N v L (fun x => ∃ m, Sp.Stp T up root (m + 1) x t)) (ht : t < N) (hr : (t : Int) ≠ root) : Sp.ByI T up root N v (L.set t (v : Int)) (fun x => ∃ m, Sp.Stp T up root (m + 1) x (Sp.nx T up t)) := by
  refine ⟨by rw [List.length_set]; exact h.len, fun x hx hne => ?_, h.all⟩
  have hl := h.len
  rw [getD_set1 _ _ _ _ (by omega)] at hne ⊢
  by_cases hxt : t = x
  · rw [if_pos hxt]
    subst hxt
    exact .inr ⟨rfl, 0, hr, rfl⟩
  · rw [if_neg hxt] at hne ⊢
    rcases h.mark x hx hne with a | ⟨a, m, b⟩
    · exact .inl a
    · exact .inr ⟨a, m + 1, b.snoc hr⟩
theorem Sp.edges_all (T up : List Int) (root : Int) : ∀ g v, Sp.edgesGo T up root g v = true → ∀ x, v ≤ x → x < v + g → (x : Int) ≠ root → 0 ≤ up.getD x 0 ∧ up.getD x 0 < (T.length : Int)
  | 0, v, _, x, h1, h2, _ => by omega
  | g + 1, v, h, x, h1, h2, h3 => by
    rw [Sp.edgesGo] at h
    split at h
    · rename_i hc
      by_cases hxv : x = v
      · subst hxv
        rcases hc with hc | hc
        · exact absurd hc h3
        · exact ⟨hc.1, hc.2.1⟩
      · exact Sp.edges_all T up root g (v + 1) h x (by omega) (by omega) h3
    · cases h
set_option maxRecDepth 100000 in
set_option maxHeartbeats 8000000 in
theorem right_any (q : Sp.Net) (U : List Int) (root : Int) (N : Nat) (v tv nv cv uv : Value) (w : World) (hv : NetI w v q tv nv cv) (hu : Ints w uv U) (hev : q.tail.length % 2 = 0) (h240 : q.tail.length ≤ 240) (hN : q.n = (N : Int)) (hN2 : N ≤ 60) (hn : q.n ≤ ((q.tail.length / 2 : Nat) : Int) + 1) (hT : ∀ x ∈ q.tail, 0 ≤ x ∧ x < q.n) :
    Calls Try.prog 15 #[v, uv, .int .i64 root] w fun e w' => e = .returned (.bool (Sp.rightB q U root)) ∧ Below w.heap.size w w' := by
  have hv' := hv
  have hu' := hu
  obtain ⟨rfl, h1, h2, h3⟩ := hv
  obtain ⟨ta, tc, rfl, -, -⟩ := h1.form
  obtain ⟨na, nc, rfl, -, -⟩ := h2.form
  obtain ⟨ca, cc, rfl, -, -⟩ := h3.form
  obtain ⟨ua, uc, rfl, -, -, HU⟩ := hu.allD
  clear h1 h2 h3 hu
  have HBX := hide (box_new w q.n (.slice ta q.tail.length tc) (.slice na q.next.length nc) (.slice ca q.cap.length cc))
  obtain ⟨W1, hW1⟩ : ∃ W1, W1 = w.alloc (.cells #[.int .i64 q.n, .slice ta q.tail.length tc, .slice na q.next.length nc, .slice ca q.cap.length cc] 25) := ⟨_, rfl⟩
  rw [← hW1] at HBX
  have hb1 : Below w.heap.size w W1 := by rw [hW1]; exact (Below.refl _ w).alloc (Nat.le_refl _) _
  have hs1 : W1.heap.size = w.heap.size + 1 := by rw [hW1]; simp
  have HW : Hid (∀ w', Below (w.heap.size + 1) W1 w' → Below w.heap.size w w') := hide fun w' hb => hb1.trans (hb.mono (by omega))
  have HV : Hid (∀ w', Below (w.heap.size + 1) W1 w' → NetI w' (.agg #[.int .i64 q.n, .slice ta q.tail.length tc, .slice na q.next.length nc, .slice ca q.cap.length cc]) q (.slice ta q.tail.length tc) (.slice na q.next.length nc) (.slice ca q.cap.length cc)) := hide fun w' hb => by
    have hb0 := unhide HW w' hb
    exact ⟨rfl, hv'.tail.below hb0, hv'.next.below hb0, hv'.cap.below hb0⟩
  have HSo := hide (fun w' hb => sound_any q _ _ _ _ w' (unhide HV w' hb) hev h240 hn hT)
  have HIs := hide (fun w' hb => isVertex_any q _ _ _ _ root w' (unhide HV w' hb))
  have hT2 : ∀ x ∈ q.tail, 0 ≤ x ∧ x < (N : Int) := fun x hx => by have := hT x hx; omega
  have HNx : Hid (0 < N → ∀ y, y < N → Sp.nx q.tail U y < N) := hide fun h0 y _ => by
    unfold Sp.nx
    rcases Nat.lt_or_ge (Sp.oth (U.getD y 0).toNat) q.tail.length with h | h
    · have := hT2 _ (Sp.getD_mem h); omega
    · rw [List.getD_eq_getElem?_getD, List.getElem?_eq_none h]; exact h0
  have HTb := hide hT2
  have HO := hide (fun (y : Nat) (hy : y < q.tail.length) => oth_lt hy hev)
  have HHd := hide (fun (y : Nat) w' (hy : y < q.tail.length) (hb : Below (w.heap.size + 1) W1 w') => head_any' q _ _ _ _ y w' (unhide HV w' hb) hy hev h240)
  obtain ⟨R, hR⟩ : ∃ R, R = Sp.rightB q U root := ⟨_, rfl⟩
  rw [← hR]
  obtain ⟨P, hP⟩ : ∃ P : Ending → World → Prop, P = fun e w' => e = .returned (.bool R) ∧ Below w.heap.size w w' := ⟨_, rfl⟩
  rw [← hP]
  have HP := hide hP
  have hb0 : Below (w.heap.size + 1) W1 W1 := Below.refl _ _
  obtain ⟨x0, x1, x2, x3, -⟩ := unhide HBX W1 hb0
  by_cases hr : 0 ≤ root ∧ root < q.n
  · rw [decide_eq_true hr] at HIs
    obtain ⟨r, rfl⟩ : ∃ r : Nat, root = (r : Int) := ⟨root.toNat, by omega⟩
    have hrN : r < N := by omega
    have HLe := hide (fun w' (hb : Below (w.heap.size + 1) W1 w') => leaves_any q U r N _ _ _ _ (.slice ua U.length uc) w' (unhide HV w' hb) (hu'.below (unhide HW w' hb)) hN (by omega) hrN h240)
    have HRe : Hid (R = ((decide (U.length = N) && (decide (U.getD r 0 = -1) && Sp.edgesGo q.tail U (r : Int) N 0)) && Sp.chainsGo q.tail U (r : Int) N N 0)) := hide (by
      rw [hR]
      unfold Sp.rightB
      rw [hN, Int.toNat_natCast, Int.toNat_natCast]
      by_cases hl : U.length = N
      · by_cases hz : U.getD r 0 = -1
        · rw [decide_eq_true (show (U.length : Int) = (N : Int) ∧ 0 ≤ (r : Int) ∧ (r : Int) < (N : Int) ∧ U.getD r 0 = -1 from ⟨by omega, by omega, by omega, hz⟩), decide_eq_true hl, decide_eq_true hz]
          simp
        · rw [decide_eq_false (fun h => hz h.2.2.2), decide_eq_false hz]
          simp
      · rw [decide_eq_false (fun h => hl (by omega)), decide_eq_false hl]
        simp)
    obtain ⟨LB, hLB⟩ : ∃ LB, (decide (U.length = N) && (decide (U.getD r 0 = -1) && Sp.edgesGo q.tail U (r : Int) N 0)) = LB := ⟨_, rfl⟩
    rw [hLB] at HRe HLe
    have HLB := hide hLB
    rw [hN] at HBX HIs HSo HHd HLe x0 hW1 ⊢
    clear hP hR hT hev hn hr hv' hu' HV hb1 hLB
    have HS1 := hide hs1
    clear hs1
    subst hW1
    go_enter Try.func15, Try.ntmps15
    go_wp2
    go_step3
    go_wp2_with fail
    go_at_call 28
    generalize w.alloc (.cells #[.int .i64 (N : Int), .slice ta q.tail.length tc, .slice na q.next.length nc, .slice ca q.cap.length cc] 25) = W1 at *
    refine (unhide HSo W1 hb0).mono ?_
    rintro e w2 ⟨rfl, hl2⟩
    have hs1' := unhide HS1
    have hb2 : Below (w.heap.size + 1) W1 w2 := hb0.trans (hl2.mono (by omega))
    clear hl2 x0 x1 x2 x3
    obtain ⟨x0, x1, x2, x3, hz2⟩ := unhide HBX w2 hb2
    go_wp2_with fail
    go_at_call 29
    refine (unhide HIs w2 hb2).mono ?_
    rintro e w3 ⟨rfl, hl3⟩
    have hb3 : Below (w.heap.size + 1) W1 w3 := hb2.trans (hl3.mono (by omega))
    clear hl3 x0 x1 x2 x3 hz2 hb2
    obtain ⟨x0, x1, x2, x3, hz3⟩ := unhide HBX w3 hb3
    go_wp2_with fail
    go_at_call 33
    refine (unhide HLe w3 hb3).mono ?_
    rintro e w4 ⟨rfl, hl4⟩
    have hb4 : Below (w.heap.size + 1) W1 w4 := hb3.trans (hl4.mono (by omega))
    clear hl4 x0 x1 x2 x3 hz3 hb3
    obtain ⟨x0, x1, x2, x3, hz4⟩ := unhide HBX w4 hb4
    have HB4 := hide hb4
    clear hb4
    cases LB
    · have HR0 : Hid (R = false) := hide (by rw [unhide HRe]; rfl)
      go_wp2
      try rw [Exit.noGoto_ret]
      rw [unhide HP, unhide HR0]
      exact ⟨rfl, unhide HW _ (unhide HB4)⟩
    · have HR0 : Hid (R = Sp.chainsGo q.tail U (r : Int) N N 0) := hide (by rw [unhide HRe]; rfl)
      clear HRe
      have y0 := fun o => (unhide HBX (w4.alloc o) ((unhide HB4).alloc hz4 o)).1
      have hcr : (w4.alloc (.cells #[.int .i64 (-1)] 3)).cell? ⟨w4.heap.size, 0, none⟩ = some (.int .i64 (-1)) := by
        have e : (w4.alloc (.cells #[.int .i64 (-1)] 3)).heap[w4.heap.size]? = some (.cells #[.int .i64 (-1)] 3) := by
          show (w4.heap.push _)[w4.heap.size]? = _
          rw [Array.getElem?_push, if_pos rfl]
        simp only [World.cell?, e]
        rfl
      have hsz5 : (w4.alloc (.cells #[.int .i64 (-1)] 3)).heap.size = w4.heap.size + 1 := by show (w4.heap.push _).size = _; exact Array.size_push _
      have HRp := hide (repeat_any (-1) w4.heap.size N _ hN2 hcr (by omega))
      rw [hsz5] at HRp
      have HB5 : Hid (Below (w.heap.size + 1) W1 (w4.alloc (.cells #[.int .i64 (-1)] 3))) := hide ((unhide HB4).alloc hz4 _)
      clear hcr hsz5 x0 x1 x2 x3
      go_wp2_with fail
      go_at_call 30
      refine (unhide HRp).mono ?_
      rintro e w6 ⟨rfl, hown6, hb6⟩
      obtain ⟨G, hG⟩ : ∃ G, w4.heap.size + 1 = G := ⟨_, rfl⟩
      rw [hG] at hown6 hb6 ⊢
      have hBG : w.heap.size + 1 < G := by omega
      have HLB2 := unhide HLB
      simp only [Bool.and_eq_true, decide_eq_true_eq] at HLB2
      obtain ⟨hUl, -, hEd⟩ := HLB2
      have HEd := hide (fun (x : Nat) (hx : x < N) (hne : (x : Int) ≠ (r : Int)) => Sp.edges_all q.tail U (r : Int) N 0 hEd x (Nat.zero_le _) (by omega) hne)
      have H6 : Hid (Below (w.heap.size + 1) W1 w6 ∧ OwnI w6 G (.slice (some ⟨G, 0, none⟩) N N) (List.replicate N (-1))) := hide ⟨(unhide HB5).trans (hb6.mono (by omega)), hown6⟩
      have H7 : Hid (Sp.ByI q.tail U (r : Int) N 0 (List.replicate N (-1)) (fun _ => False)) := hide ⟨List.length_replicate, fun x hx hne => absurd (getD_rep1 _ _ _ hx) hne, fun y hy => by omega⟩
      have HU2 : Hid (∀ k, k < N → ∀ w', Below (w.heap.size + 1) W1 w' → ∃ b o, ua = some ⟨b, o, none⟩ ∧ w'.cell? ⟨b, o + k, none⟩ = some (.int .i64 (U.getD k 0))) := hide fun k hk w' hb => by
        obtain ⟨b', o', e1, -, h'⟩ := unhide HU k (by omega)
        exact ⟨b', o', e1, h' w' (unhide HW w' hb)⟩
      clear hown6 hb6 hG HRp HB5 HB4 y0 hz4 hEd HLB HU HSo HIs HLe hb0
      rw [hUl]
      go_wp2
      go_step3
      go_wp2
      go_loopg [32] N (fun g s32 wr => ∃ (v : Nat) (L : List Int), v + g = N ∧ s32 = .int .i64 (v : Int) ∧ Hid (Below (w.heap.size + 1) W1 wr ∧ OwnI wr G (.slice (some ⟨G, 0, none⟩) N N) L) ∧ Hid (Sp.ByI q.tail U (r : Int) N v L (fun _ => False)))
      case atStart => exact ⟨0, _, by omega, rfl, H6, H7⟩
      case round =>
        clear H6 H7
        obtain ⟨v, L, hvg, rfl, HI, HY⟩ := hrel
        by_cases hvN : v < N
        · have hvI : (v : Int) < (N : Int) := by omega
          obtain ⟨g', rfl⟩ : ∃ g', gk = g' + 1 := ⟨gk - 1, by omega⟩
          have HY2 : Hid (Sp.ByI q.tail U (r : Int) N v L (fun x => ∃ m, Sp.Stp q.tail U (r : Int) (m + 1) x v)) := hide ⟨(unhide HY).len, fun x hx hne => ((unhide HY).mark x hx hne).imp id (fun h => h.2.elim), (unhide HY).all⟩
          have HZ : Hid (∃ m, Sp.Stp q.tail U (r : Int) m v v) := hide ⟨0, rfl⟩
          clear HY
          go_wp2
          go_loopg [9] (L.count (-1)) (fun g2 s9 wr => ∃ (t : Nat) (L : List Int), t < N ∧ s9 = .int .i64 (t : Int) ∧ L.count (-1) = g2 ∧ Hid (Below (w.heap.size + 1) W1 wr ∧ OwnI wr G (.slice (some ⟨G, 0, none⟩) N N) L) ∧ Hid (Sp.ByI q.tail U (r : Int) N v L (fun x => ∃ m, Sp.Stp q.tail U (r : Int) (m + 1) x t)) ∧ Hid (∃ m, Sp.Stp q.tail U (r : Int) m v t))
          case atStart => exact ⟨v, L, hvN, rfl, rfl, HI, HY2, HZ⟩
          case round =>
            clear HI HY2 HZ
            obtain ⟨t, L2, htN, rfl, hcnt, HI, HY, HZ⟩ := hrel
            have HCn := hide hcnt
            clear hcnt
            have htI : (t : Int) < (N : Int) := by omega
            by_cases htr : t = r
            · subst htr
              have HF : Hid (Sp.ByI q.tail U (t : Int) N (v + 1) L2 (fun _ => False)) := hide (Sp.ByI.done (unhide HY) (Sp.rc_root _ _ rfl) (unhide HZ))
              clear HY HZ
              go_wp2
              go_roundg g'
              case rel => exact ⟨v + 1, L2, by omega, by go_num, HI, HF⟩
              case measure => omega
            · have htrI : (t : Int) ≠ (r : Int) := by omega
              have e1 : ((t : Int) == (r : Int)) = false := beq_eq_false_iff_ne.2 htrI
              have eb : ((t : Int) != (r : Int)) = true := by simp only [bne, e1]; rfl
              have hL2 := (unhide HY).len
              have c0 : ∀ wx : World, OwnI wx G (.slice (some ⟨G, 0, none⟩) N N) L2 → wx.cell? ⟨G, t, none⟩ = some (.int .i64 (L2.getD t 0)) ∧ wx.frozen? ⟨G, t, none⟩ = false := fun wx h => by
                unfold OwnI at h
                rw [hL2] at h
                refine ⟨?_, World.ownsRow.frozenAt h t⟩
                rw [World.ownsRow.cellAt h t (by omega), List.getElem?_map, List.getD_eq_getElem?_getD, List.getElem?_eq_getElem (by omega)]
                rfl
              obtain ⟨c1, f1⟩ := c0 _ (unhide HI).2
              clear c0
              by_cases hm1 : L2.getD t 0 = -1
              · have hd0 := unhide HEd t htN htrI
                obtain ⟨d, hd⟩ : ∃ d : Nat, U.getD t 0 = (d : Int) := ⟨(U.getD t 0).toNat, by omega⟩
                rw [hd] at hd0
                have hdl : d < q.tail.length := by omega
                have hyb := unhide HTb _ (Sp.getD_mem (unhide HO d hdl))
                obtain ⟨y, hy⟩ : ∃ y : Nat, q.tail.getD (Sp.oth d) 0 = (y : Int) := ⟨(q.tail.getD (Sp.oth d) 0).toNat, by omega⟩
                have hnx : Sp.nx q.tail U t = y := by unfold Sp.nx; rw [hd, Int.toNat_natCast, hy, Int.toNat_natCast]
                have hY2 := (unhide HY).on htN htrI
                rw [hnx] at hY2
                have HY2 := hide hY2
                have HZ2 : Hid (∃ m, Sp.Stp q.tail U (r : Int) m v y) := hide (by
                  obtain ⟨m, h⟩ := unhide HZ
                  exact ⟨m + 1, by rw [← hnx]; exact h.snoc htrI⟩)
                have hcm := count_mark L2 t (v : Int) (by omega) hm1 (by omega)
                have hc2 := unhide HCn
                obtain ⟨g3, hg3⟩ : ∃ g3, gk = g3 + 1 := ⟨gk - 1, by omega⟩
                subst hg3
                have HCn2 : Hid ((L2.set t (v : Int)).count (-1) = g3) := hide (by omega)
                have hyN : y < N := by omega
                have HH := hide (fun w' (hb : Below (w.heap.size + 1) W1 w') => unhide HHd d w' hdl hb)
                rw [hy] at HH
                have HUt := hide (fun w' hb => unhide HU2 t htN w' hb)
                rw [hd] at HUt
                rw [hm1] at c1
                have HA : Hid (Below (w.heap.size + 1) W1 (wr.setCell ⟨G, t, none⟩ (.int .i64 (v : Int))) ∧ OwnI (wr.setCell ⟨G, t, none⟩ (.int .i64 (v : Int))) G (.slice (some ⟨G, 0, none⟩) N N) (L2.set t (v : Int))) := hide ⟨(unhide HI).1.setCell (p := ⟨G, t, none⟩) (by show w.heap.size + 1 ≤ G; omega) _, own_setCell (unhide HI).2 t (v : Int)⟩
                clear HI HY HZ hY2 hcm hc2 HCn hd hy hnx hyb hd0 hm1
                go_upto_region 9 with fail
                generalize wr.setCell ⟨G, t, none⟩ (.int .i64 (v : Int)) = WA at *
                obtain ⟨bu, ou, hua, -⟩ := unhide HUt WA (unhide HA).1
                subst hua
                have HUt2 : Hid (∀ w', Below (w.heap.size + 1) W1 w' → w'.cell? ⟨bu, ou + t, none⟩ = some (.int .i64 (d : Int))) := hide fun w' hb => by
                  obtain ⟨b', o', e, h⟩ := unhide HUt w' hb
                  injection e with e
                  injection e with e1 e2
                  subst e1 e2
                  exact h
                have hsA := (unhide HBX WA (unhide HA).1).2.2.2.2
                have HLow : Hid (∀ w', Below WA.heap.size WA w' → Below (w.heap.size + 1) W1 w') := hide fun w' hb => (unhide HA).1.trans (hb.mono hsA)
                have hbr : Below WA.heap.size WA WA.drew := (Below.refl _ _).drew
                clear c1 f1 hsA HUt
                go_region_held3 (fun w' => w'.cell? ⟨w.heap.size, 0, none⟩ = some (.int .i64 (N : Int)) ∧ w'.cell? ⟨w.heap.size, 1, none⟩ = some (.slice ta q.tail.length tc) ∧ w'.cell? ⟨w.heap.size, 2, none⟩ = some (.slice na q.next.length nc) ∧ w'.cell? ⟨w.heap.size, 3, none⟩ = some (.slice ca q.cap.length cc) ∧ w'.cell? ⟨bu, ou + t, none⟩ = some (.int .i64 (d : Int)))
                  (first
                    | exact ⟨(unhide HBX _ (unhide HLow _ hb8)).1, (unhide HBX _ (unhide HLow _ hb8)).2.1, (unhide HBX _ (unhide HLow _ hb8)).2.2.1, (unhide HBX _ (unhide HLow _ hb8)).2.2.2.1, unhide HUt2 _ (unhide HLow _ hb8)⟩
                    | exact ⟨(unhide HBX _ (unhide HLow _ hbr)).1, (unhide HBX _ (unhide HLow _ hbr)).2.1, (unhide HBX _ (unhide HLow _ hbr)).2.2.1, (unhide HBX _ (unhide HLow _ hbr)).2.2.2.1, unhide HUt2 _ (unhide HLow _ hbr)⟩)
                  (first
                    | (go_at_call 32
                       refine (unhide HH _ (unhide HLow _ hbr)).mono ?_
                       rintro e w8 ⟨rfl, hl8⟩
                       have hb8 : Below WA.heap.size WA w8 := hbr.trans hl8))
                all_goals
                  go_wp2
                  go_roundg g3
                  case rel => exact ⟨y, L2.set t (v : Int), hyN, rfl, unhide HCn2, hide ⟨unhide HLow _ hb8, own_below (unhide HA).2 hb8⟩, HY2, HZ2⟩
                  case measure => omega
              · have hmk := (unhide HY).mark t htN hm1
                have em : (L2.getD t 0 == -1) = false := beq_eq_false_iff_ne.2 hm1
                by_cases hmv : L2.getD t 0 = (v : Int)
                · have HR1 : Hid (R = false) := hide (by
                    rw [unhide HR0]
                    rcases hmk with ⟨-, h1, -⟩ | ⟨-, m, h1⟩
                    · omega
                    · obtain ⟨m2, h2⟩ := unhide HZ
                      cases hc : Sp.chainsGo q.tail U (r : Int) N N 0 with
                      | false => rfl
                      | true => exact absurd (h2.rc.1 ((Sp.chains_iff (unhide HNx (by omega)) N 0 (by omega)).1 hc v (Nat.zero_le _) hvN)) h1.round)
                  rw [hmv] at c1
                  have ev : ((v : Int) == -1) = false := beq_eq_false_iff_ne.2 (by omega)
                  have HF := hide (unhide HI).1
                  clear HY HZ HI hmk em
                  go_wp2
                  try rw [Exit.noGoto_ret]
                  rw [unhide HP, unhide HR1]
                  exact ⟨rfl, unhide HW _ (unhide HF)⟩
                · have ev : (L2.getD t 0 == (v : Int)) = false := beq_eq_false_iff_ne.2 hmv
                  have HF : Hid (Sp.ByI q.tail U (r : Int) N (v + 1) L2 (fun _ => False)) := hide (Sp.ByI.done (unhide HY) (by
                    rcases hmk with ⟨-, -, h⟩ | ⟨h, -⟩
                    · exact h
                    · exact absurd h hmv) (unhide HZ))
                  clear HY HZ hmk
                  generalize L2.getD t 0 = z at *
                  go_wp2
                  go_roundg g'
                  case rel => exact ⟨v + 1, L2, by omega, by go_num, HI, HF⟩
                  case measure => omega
        · have hvI : ¬ (v : Int) < (N : Int) := by omega
          have HR1 : Hid (R = true) := hide (by rw [unhide HR0, Sp.chains_iff (unhide HNx (by omega)) N 0 (by omega)]; exact fun x _ hx => (unhide HY).all x (by omega))
          have HF := hide (unhide HI).1
          clear HI HY
          go_wp2
          try rw [Exit.noGoto_ret]
          rw [unhide HP, unhide HR1]
          exact ⟨rfl, unhide HW _ (unhide HF)⟩
  · rw [decide_eq_false hr] at HIs
    have HR0 : Hid (R = false) := hide (by
      rw [hR]; unfold Sp.rightB
      rw [decide_eq_false (fun h => hr ⟨h.2.1, h.2.2.1⟩)]; rfl)
    rw [hN] at HBX HIs HSo x0 hW1 ⊢
    clear hP hR hT hev hn hv' hu' HV hb1 HHd HU
    have HS1 := hide hs1
    clear hs1
    subst hW1
    go_enter Try.func15, Try.ntmps15
    go_wp2
    go_step3
    go_wp2_with fail
    go_at_call 28
    generalize w.alloc (.cells #[.int .i64 (N : Int), .slice ta q.tail.length tc, .slice na q.next.length nc, .slice ca q.cap.length cc] 25) = W1 at *
    refine (unhide HSo W1 hb0).mono ?_
    rintro e w2 ⟨rfl, hl2⟩
    have hs1' := unhide HS1
    have hb2 : Below (w.heap.size + 1) W1 w2 := hb0.trans (hl2.mono (by omega))
    clear hl2 x0 x1 x2 x3
    obtain ⟨x0, x1, x2, x3, hz2⟩ := unhide HBX w2 hb2
    go_wp2_with fail
    go_at_call 29
    refine (unhide HIs w2 hb2).mono ?_
    rintro e w3 ⟨rfl, hl3⟩
    have hb3 : Below (w.heap.size + 1) W1 w3 := hb2.trans (hl3.mono (by omega))
    have HB3 := hide hb3
    clear hl3 x0 x1 x2 x3 hz2 hb2 hb3
    go_wp2
    try rw [Exit.noGoto_ret]
    rw [unhide HP, unhide HR0]
    exact ⟨rfl, unhide HW _ (unhide HB3)⟩
end Go.Proofs.Ytenffkplneimlaa


/- Package tree: isTree, Way of a tree. -/
namespace Go.Proofs.Ytenffkplneimlaa
open Go Go.RowKit

/-- What Right says of a row. -/
theorem Sp.right_parts {q : Sp.Net} {U : List Int} {r N : Nat} (hN : q.n = (N : Int)) (h : Sp.rightB q U (r : Int) = true) : U.length = N ∧ r < N ∧ U.getD r 0 = -1 ∧ (∀ x, x < N → x ≠ r → 0 ≤ U.getD x 0 ∧ U.getD x 0 < (q.tail.length : Int)) ∧ Sp.chainsGo q.tail U (r : Int) N N 0 = true := by
  unfold Sp.rightB at h
  rw [hN, Int.toNat_natCast, Int.toNat_natCast] at h
  simp only [Bool.and_eq_true, decide_eq_true_eq] at h
  obtain ⟨⟨h1, h2, h3, h4⟩, h5, h6⟩ := h
  exact ⟨by omega, by omega, h4, fun x hx hne => Sp.edges_all q.tail U (r : Int) N 0 h5 x (Nat.zero_le _) (by omega) (by omega), h6⟩
theorem idx_root (q : Sp.Net) (U : List Int) (r N : Nat) (uv : Value) (w : World) (hu : Ints w uv U) (hN : q.n = (N : Int)) (hN2 : N ≤ 60) (hR : Sp.rightB q U (r : Int) = true) :
    Calls Try.prog 41 #[uv, .int .i64 (-1)] w fun e w' => e = .returned (.int .i64 (r : Int)) ∧ w' = w := by
  obtain ⟨hl, hr, hz, hE, -⟩ := Sp.right_parts hN hR
  obtain ⟨a, c, rfl, -, -, HU⟩ := hu.allD
  obtain ⟨b, o, rfl, -, -⟩ := unhide HU r (by omega)
  refine (index_any U b o U.length c (-1) w rfl (by omega) (fun j hj => ?_)).mono ?_
  · obtain ⟨b', o', e, -, h⟩ := unhide HU j hj
    injection e with e
    injection e with e1 e2
    subst e1 e2
    have := h w (Below.refl _ _)
    rw [Sp.getD_eq _ _ hj] at this
    exact this
  · rintro e w' ⟨h, hw⟩
    refine ⟨?_, hw⟩
    rcases h with ⟨i, hi, rfl, h1, -⟩ | ⟨-, h1⟩
    · have : i = r := by
        by_cases hir : i = r
        · exact hir
        · have := hE i (by omega) hir
          rw [Sp.getD_eq _ _ hi, h1] at this
          omega
      rw [this]
    · exact absurd (by rw [← hz]; exact Sp.getD_mem (by omega)) h1
set_option maxRecDepth 100000 in
set_option maxHeartbeats 4000000 in
theorem isTree_yes (q : Sp.Net) (U : List Int) (r N : Nat) (v tv nv cv uv : Value) (w : World) (hv : NetI w v q tv nv cv) (hu : Ints w uv U) (hev : q.tail.length % 2 = 0) (h240 : q.tail.length ≤ 240) (hN : q.n = (N : Int)) (hN2 : N ≤ 60) (hn : q.n ≤ ((q.tail.length / 2 : Nat) : Int) + 1) (hT : ∀ x ∈ q.tail, 0 ≤ x ∧ x < q.n) (hR : Sp.rightB q U (r : Int) = true) :
    Calls Try.prog 34 #[v, uv] w fun e w' => e = .returned (.bool true) ∧ Below w.heap.size w w' := by
  have hv' := hv
  obtain ⟨rfl, h1, h2, h3⟩ := hv
  obtain ⟨ta, tc, rfl, -, -⟩ := h1.form
  obtain ⟨na, nc, rfl, -, -⟩ := h2.form
  obtain ⟨ca, cc, rfl, -, -⟩ := h3.form
  clear h1 h2 h3
  have HBX := hide (box_new w q.n (.slice ta q.tail.length tc) (.slice na q.next.length nc) (.slice ca q.cap.length cc))
  obtain ⟨W1, hW1⟩ : ∃ W1, W1 = w.alloc (.cells #[.int .i64 q.n, .slice ta q.tail.length tc, .slice na q.next.length nc, .slice ca q.cap.length cc] 25) := ⟨_, rfl⟩
  rw [← hW1] at HBX
  have hb1 : Below w.heap.size w W1 := by rw [hW1]; exact (Below.refl _ w).alloc (Nat.le_refl _) _
  have hs1 : W1.heap.size = w.heap.size + 1 := by rw [hW1]; simp
  have HW : Hid (∀ w', Below (w.heap.size + 1) W1 w' → Below w.heap.size w w') := hide fun w' hb => hb1.trans (hb.mono (by omega))
  have HIx := hide (fun w' (hb : Below (w.heap.size + 1) W1 w') => idx_root q U r N uv w' (hu.below (unhide HW w' hb)) hN hN2 hR)
  have HRt := hide (fun w' (hb : Below (w.heap.size + 1) W1 w') => right_any q U (r : Int) N (.agg #[.int .i64 q.n, .slice ta q.tail.length tc, .slice na q.next.length nc, .slice ca q.cap.length cc]) _ _ _ uv w' ⟨rfl, hv'.tail.below (unhide HW w' hb), hv'.next.below (unhide HW w' hb), hv'.cap.below (unhide HW w' hb)⟩ (hu.below (unhide HW w' hb)) hev h240 hN hN2 hn hT)
  rw [hR] at HRt
  have HS1 := hide hs1
  have hbr : Below (w.heap.size + 1) W1 W1.drew := (Below.refl _ _).drew
  obtain ⟨P, hP⟩ : ∃ P : Ending → World → Prop, P = fun e w' => e = .returned (.bool true) ∧ Below w.heap.size w w' := ⟨_, rfl⟩
  rw [← hP]
  have HP := hide hP
  clear hP hb1 hs1 hv' hu hR hn hT hev hN
  subst hW1
  go_enter Try.func34, Try.ntmps34
  go_upto_region 1 with fail
  generalize w.alloc (.cells #[.int .i64 q.n, .slice ta q.tail.length tc, .slice na q.next.length nc, .slice ca q.cap.length cc] 25) = W1 at *
  have hs1 := unhide HS1
  go_region_held3 (fun w' => w'.cell? ⟨w.heap.size, 0, none⟩ = some (.int .i64 q.n) ∧ w'.cell? ⟨w.heap.size, 1, none⟩ = some (.slice ta q.tail.length tc) ∧ w'.cell? ⟨w.heap.size, 2, none⟩ = some (.slice na q.next.length nc) ∧ w'.cell? ⟨w.heap.size, 3, none⟩ = some (.slice ca q.cap.length cc))
    (first
      | exact ⟨(unhide HBX _ hb8).1, (unhide HBX _ hb8).2.1, (unhide HBX _ hb8).2.2.1, (unhide HBX _ hb8).2.2.2.1⟩
      | exact ⟨(unhide HBX _ hbr).1, (unhide HBX _ hbr).2.1, (unhide HBX _ hbr).2.2.1, (unhide HBX _ hbr).2.2.2.1⟩)
    (first
      | (go_at_call 15
         refine (unhide HRt _ hbr).mono ?_
         rintro e w8 ⟨rfl, hl8⟩
         have hb8 : Below (w.heap.size + 1) W1 w8 := hbr.trans (hl8.mono (by show _ ≤ W1.heap.size; omega)))
      | (go_at_call 41
         refine (unhide HIx _ hbr).mono ?_
         rintro e w' ⟨rfl, hw'⟩
         have := hw'.symm
         subst this))
  all_goals
    go_wp2
    rw [unhide HP]
    exact ⟨rfl, unhide HW _ hb8⟩
end Go.Proofs.Ytenffkplneimlaa


/- All vertices are found. -/
namespace Go.Proofs.Ytenffkplneimlaa
open Go Go.RowKit

theorem Sp.rowGo_done {T : List Int} {root : Int} {N : Nat} (hT : ∀ x ∈ T, 0 ≤ x ∧ x < (N : Int)) (hev : T.length % 2 = 0) {u : Int} : ∀ c d fl up, d + c = T.length → u ∈ fl → Sp.SpSt T root N fl up → ∀ e, d ≤ e → e < T.length → T.getD e 0 = u → T.getD (Sp.oth e) 0 ∈ (Sp.rowGo T root u c d fl up).1
  | 0, d, fl, up, hd, _, _, e, h1, h2, _ => by omega
  | c + 1, d, fl, up, hd, hu, h, e, h1, h2, h3 => by
    rw [Sp.rowGo]
    by_cases hed : e = d
    · subst hed
      rw [if_pos h3]
      have ho := oth_lt h2 hev
      have hb := hT _ (Sp.getD_mem (l := T) ho)
      split
      · rename_i hf
        obtain ⟨-, r, hr⟩ := Sp.SpSt.row hT hev c (e + 1) fl up (by omega) hu h
        rw [hr]
        refine List.mem_append.2 (.inl ?_)
        have := (h.mem (T.getD (Sp.oth e) 0).toNat (by omega)).2 (hf.elim (fun h4 => .inl (by omega)) (fun h4 => .inr h4))
        rw [show (((T.getD (Sp.oth e) 0).toNat : Nat) : Int) = T.getD (Sp.oth e) 0 by omega] at this
        exact this
      · rename_i hn
        obtain ⟨-, r, hr⟩ := Sp.SpSt.row hT hev c (e + 1) _ _ (by omega) (List.mem_append.2 (.inl hu)) (h.find hT hev h2 (by rw [h3]; exact hu) hn)
        rw [hr]
        exact List.mem_append.2 (.inl (List.mem_append.2 (.inr (List.mem_singleton.2 rfl))))
    · split
      · rename_i hd'
        split
        · exact Sp.rowGo_done hT hev c (d + 1) fl up (by omega) hu h e (by omega) h2 h3
        · rename_i hn
          exact Sp.rowGo_done hT hev c (d + 1) _ _ (by omega) (List.mem_append.2 (.inl hu)) (h.find hT hev (by omega) (by rw [hd']; exact hu) hn) e (by omega) h2 h3
      · exact Sp.rowGo_done hT hev c (d + 1) fl up (by omega) hu h e (by omega) h2 h3
theorem Sp.spanGo_done {T : List Int} {root : Int} {N : Nat} (hT : ∀ x ∈ T, 0 ≤ x ∧ x < (N : Int)) (hev : T.length % 2 = 0) : ∀ g i fl up, i + g = N → i ≤ fl.length → Sp.SpSt T root N fl up → (∀ k, k < i → ∀ e, e < T.length → T.getD e 0 = fl.getD k 0 → T.getD (Sp.oth e) 0 ∈ fl) →
    Sp.SpSt T root N (Sp.spanGo T root g i fl up).1 (Sp.spanGo T root g i fl up).2 ∧ ∀ e, e < T.length → T.getD e 0 ∈ (Sp.spanGo T root g i fl up).1 → T.getD (Sp.oth e) 0 ∈ (Sp.spanGo T root g i fl up).1
  | 0, i, fl, up, hi, hl, h, hc => by
    refine ⟨h, fun e he hm => ?_⟩
    obtain ⟨k, hk, e2⟩ := List.getElem_of_mem (show T.getD e 0 ∈ fl from hm)
    have := h.le
    exact hc k (by omega) e he (by rw [Sp.getD_eq _ _ hk, e2])
  | g + 1, i, fl, up, hi, hl, h, hc => by
    rw [Sp.spanGo]
    by_cases hlt : i < fl.length
    · rw [if_pos hlt]
      have hu : fl.getD i 0 ∈ fl := Sp.getD_mem hlt
      obtain ⟨h1, r, hr⟩ := Sp.SpSt.row hT hev T.length 0 fl up (by omega) hu h
      have hd := Sp.rowGo_done hT hev T.length 0 fl up (by omega) hu h
      refine Sp.spanGo_done hT hev g (i + 1) _ _ (by omega) (by rw [hr, List.length_append]; omega) h1 fun k hk e he e2 => ?_
      have hg : (Sp.rowGo T root (fl.getD i 0) T.length 0 fl up).1.getD k 0 = fl.getD k 0 := by
        rw [hr, List.getD_eq_getElem?_getD, List.getElem?_append_left (by omega), ← List.getD_eq_getElem?_getD]
      rw [hg] at e2
      rcases Nat.lt_or_ge k i with h2 | h2
      · have := hc k h2 e he e2
        rw [hr]
        exact List.mem_append.2 (.inl this)
      · obtain rfl : k = i := by omega
        exact hd e (by omega) he e2
    · rw [if_neg hlt]
      refine ⟨h, fun e he hm => ?_⟩
      obtain ⟨k, hk, e2⟩ := List.getElem_of_mem (show T.getD e 0 ∈ fl from hm)
      exact hc k (by omega) e he (by rw [Sp.getD_eq _ _ hk, e2])
/-- Of a net of one piece every vertex but the root has a dart that leads up. -/
theorem Sp.span_all {q : Sp.Net} {root : Int} (hT : ∀ x ∈ q.tail, 0 ≤ x ∧ x < q.n) (hev : q.tail.length % 2 = 0) (h0 : 0 ≤ root) (h1 : root < q.n) (hc : ∀ v, 0 ≤ v → v < q.n → Sp.Reach q.tail root v) :
    (Sp.span q root).length = q.n.toNat ∧ (Sp.span q root).getD root.toNat 0 = -1 ∧ ∀ v : Nat, (v : Int) < q.n → (v : Int) ≠ root → ∃ d : Nat, d < q.tail.length ∧ (Sp.span q root).getD v 0 = (d : Int) ∧ q.tail.getD d 0 = (v : Int) := by
  have hT' : ∀ x ∈ q.tail, 0 ≤ x ∧ x < ((q.n.toNat : Nat) : Int) := fun x hx => by have := hT x hx; omega
  obtain ⟨hs, hcl⟩ := Sp.spanGo_done hT' hev q.n.toNat 0 [root] (List.replicate q.n.toNat (-1)) (by omega) (by simp) (Sp.SpSt.first q.tail h0 (by omega)) (fun k hk => by omega)
  refine ⟨hs.len, hs.rt, fun v hv hne => ?_⟩
  obtain ⟨r, hr⟩ := hs.hd
  have hm : (v : Int) ∈ (Sp.spanGo q.tail root q.n.toNat 0 [root] (List.replicate q.n.toNat (-1))).1 :=
    (hc v (by omega) hv).ind (p := fun z => z ∈ (Sp.spanGo q.tail root q.n.toNat 0 [root] (List.replicate q.n.toNat (-1))).1) (by rw [hr]; simp) (fun d hd _ ih => hcl d hd ih)
  rcases (hs.mem v (by omega)).1 hm with e | e
  · exact absurd e hne
  · obtain ⟨d, d1, d2, d3, -⟩ := hs.dart v (by omega) e
    exact ⟨d, d1, d2, d3⟩
end Go.Proofs.Ytenffkplneimlaa


