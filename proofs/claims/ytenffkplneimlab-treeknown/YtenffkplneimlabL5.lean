/- What the proof needs, part 5. -/
import Derived.WalkMore
import Derived.DeepKeys
import Derived.Test.YtenffkplneimlabL4
/- Package tree: Right. -/
namespace Go.Proofs.Ytenffkplneimlab
open Go Go.RowKit

theorem count_mark : ∀ (l : List Int) (i : Nat) (v : Int), i < l.length → l.getD i 0 = -1 → v ≠ -1 → (l.set i v).count (-1) + 1 = l.count (-1)
  | [], i, v, h, _, _ => by simp at h
  | a :: l, 0, v, _, h, hv => by
    have : a = -1 := h
    subst this
    rw [List.set_cons_zero, List.count_cons_of_ne (by omega), List.count_cons_self]
  | a :: l, i + 1, v, hi, h, hv => by
    have ih := count_mark l i v (by simpa using hi) h hv
    rw [List.set_cons_succ, List.count_cons, List.count_cons]
    omega
/-- What the ways gone so far have left; v: the vertex that is gone up from, at: where it stands. -/
structure Sp.ByI (T up : List Int) (root : Int) (N v : Nat) (L : List Int) (C : Nat → Prop) : Prop where
  len : L.length = N
  mark : ∀ x, x < N → L.getD x 0 ≠ -1 → (0 ≤ L.getD x 0 ∧ L.getD x 0 < (v : Int) ∧ Sp.Rc T up root x) ∨ (L.getD x 0 = (v : Int) ∧ C x)
  all : ∀ y, y < v → Sp.Rc T up root y
/-- The way from v is done: it comes to where one comes to the root. -/
theorem Sp.ByI.done {T up : List Int} {root : Int} {N v t : Nat} {L : List Int} (h : Sp.ByI T up root N v L (fun x => ∃ m, Sp.Stp T up root (m + 1) x t)) (ht : Sp.Rc T up root t) (hv : ∃ m, Sp.Stp T up root m v t) : Sp.ByI T up root N (v + 1) L (fun _ => False) := by
  refine ⟨h.len, fun x hx hne => .inl ?_, fun y hy => ?_⟩
  · rcases h.mark x hx hne with ⟨a, b, c⟩ | ⟨a, m, b⟩
    · exact ⟨a, by omega, c⟩
    · exact ⟨by omega, by omega, b.rc.2 ht⟩
  · by_cases hyv : y = v
    · obtain ⟨m, b⟩ := hv
      rw [hyv]; exact b.rc.2 ht
    · exact h.all y (by omega)
/-- A vertex is marked, and gone on from. -/
theorem Sp.ByI.on {T up : List Int} {root : Int} {N v t : Nat} {L : List Int} (h : Sp.ByI T up root N v L (fun x => ∃ m, Sp.Stp T up root (m + 1) x t)) (ht : t < N) (hr : (t : Int) ≠ root) : Sp.ByI T up root N v (L.set t (v : Int)) (fun x => ∃ m, Sp.Stp T up root (m + 1) x (Sp.nx T up t)) := by
  refine ⟨by rw [List.length_set]; exact h.len, fun x hx hne => ?_, h.all⟩
  have hl := h.len
  rw [getD_set1 _ _ _ _ (by omega)] at hne ⊢
  by_cases hxt : t = x
  · rw [if_pos hxt]
    subst hxt
    exact .inr ⟨rfl, 0, hr, rfl⟩
  · rw [if_neg hxt] at hne ⊢
    rcases h.mark x hx hne with a | ⟨a, m, b⟩
    · exact .inl a
    · exact .inr ⟨a, m + 1, b.snoc hr⟩
theorem Sp.edges_all (T up : List Int) (root : Int) : ∀ g v, Sp.edgesGo T up root g v = true → ∀ x, v ≤ x → x < v + g → (x : Int) ≠ root → 0 ≤ up.getD x 0 ∧ up.getD x 0 < (T.length : Int)
  | 0, v, _, x, h1, h2, _ => by omega
  | g + 1, v, h, x, h1, h2, h3 => by
    rw [Sp.edgesGo] at h
    split at h
    · rename_i hc
      by_cases hxv : x = v
      · subst hxv
        rcases hc with hc | hc
        · exact absurd hc h3
        · exact ⟨hc.1, hc.2.1⟩
      · exact Sp.edges_all T up root g (v + 1) h x (by omega) (by omega) h3
    · cases h
set_option maxRecDepth 100000 in
set_option maxHeartbeats 8000000 in
theorem right_any (q : Sp.Net) (U : List Int) (root : Int) (N : Nat) (v tv nv cv uv : Value) (w : World) (hv : NetI w v q tv nv cv) (hu : Ints w uv U) (hev : q.tail.length % 2 = 0) (h240 : q.tail.length ≤ 240) (hN : q.n = (N : Int)) (hN2 : N ≤ 60) (hn : q.n ≤ ((q.tail.length / 2 : Nat) : Int) + 1) (hT : ∀ x ∈ q.tail, 0 ≤ x ∧ x < q.n) :
    Calls Try.prog 15 #[v, uv, .int .i64 root] w fun e w' => e = .returned (.bool (Sp.rightB q U root)) ∧ Below w.heap.size w w' := by
  have hv' := hv
  have hu' := hu
  obtain ⟨rfl, h1, h2, h3⟩ := hv
  obtain ⟨ta, tc, rfl, -, -⟩ := h1.form
  obtain ⟨na, nc, rfl, -, -⟩ := h2.form
  obtain ⟨ca, cc, rfl, -, -⟩ := h3.form
  obtain ⟨ua, uc, rfl, -, -, HU⟩ := hu.allD
  clear h1 h2 h3 hu
  have HBX := hide (box_new w q.n (.slice ta q.tail.length tc) (.slice na q.next.length nc) (.slice ca q.cap.length cc))
  obtain ⟨W1, hW1⟩ : ∃ W1, W1 = w.alloc (.cells #[.int .i64 q.n, .slice ta q.tail.length tc, .slice na q.next.length nc, .slice ca q.cap.length cc] 25) := ⟨_, rfl⟩
  rw [← hW1] at HBX
  have hb1 : Below w.heap.size w W1 := by rw [hW1]; exact (Below.refl _ w).alloc (Nat.le_refl _) _
  have hs1 : W1.heap.size = w.heap.size + 1 := by rw [hW1]; simp
  have HW : Hid (∀ w', Below (w.heap.size + 1) W1 w' → Below w.heap.size w w') := hide fun w' hb => hb1.trans (hb.mono (by omega))
  have HV : Hid (∀ w', Below (w.heap.size + 1) W1 w' → NetI w' (.agg #[.int .i64 q.n, .slice ta q.tail.length tc, .slice na q.next.length nc, .slice ca q.cap.length cc]) q (.slice ta q.tail.length tc) (.slice na q.next.length nc) (.slice ca q.cap.length cc)) := hide fun w' hb => by
    have hb0 := unhide HW w' hb
    exact ⟨rfl, hv'.tail.below hb0, hv'.next.below hb0, hv'.cap.below hb0⟩
  have HSo := hide (fun w' hb => sound_any q _ _ _ _ w' (unhide HV w' hb) hev h240 hn hT)
  have HIs := hide (fun w' hb => isVertex_any q _ _ _ _ root w' (unhide HV w' hb))
  have hT2 : ∀ x ∈ q.tail, 0 ≤ x ∧ x < (N : Int) := fun x hx => by have := hT x hx; omega
  have HNx : Hid (0 < N → ∀ y, y < N → Sp.nx q.tail U y < N) := hide fun h0 y _ => by
    unfold Sp.nx
    rcases Nat.lt_or_ge (Sp.oth (U.getD y 0).toNat) q.tail.length with h | h
    · have := hT2 _ (Sp.getD_mem h); omega
    · rw [List.getD_eq_getElem?_getD, List.getElem?_eq_none h]; exact h0
  have HTb := hide hT2
  have HO := hide (fun (y : Nat) (hy : y < q.tail.length) => oth_lt hy hev)
  have HHd := hide (fun (y : Nat) w' (hy : y < q.tail.length) (hb : Below (w.heap.size + 1) W1 w') => head_any' q _ _ _ _ y w' (unhide HV w' hb) hy hev h240)
  obtain ⟨R, hR⟩ : ∃ R, R = Sp.rightB q U root := ⟨_, rfl⟩
  rw [← hR]
  obtain ⟨P, hP⟩ : ∃ P : Ending → World → Prop, P = fun e w' => e = .returned (.bool R) ∧ Below w.heap.size w w' := ⟨_, rfl⟩
  rw [← hP]
  have HP := hide hP
  have hb0 : Below (w.heap.size + 1) W1 W1 := Below.refl _ _
  obtain ⟨x0, x1, x2, x3, -⟩ := unhide HBX W1 hb0
  by_cases hr : 0 ≤ root ∧ root < q.n
  · rw [decide_eq_true hr] at HIs
    obtain ⟨r, rfl⟩ : ∃ r : Nat, root = (r : Int) := ⟨root.toNat, by omega⟩
    have hrN : r < N := by omega
    have HLe := hide (fun w' (hb : Below (w.heap.size + 1) W1 w') => leaves_any q U r N _ _ _ _ (.slice ua U.length uc) w' (unhide HV w' hb) (hu'.below (unhide HW w' hb)) hN (by omega) hrN h240)
    have HRe : Hid (R = ((decide (U.length = N) && (decide (U.getD r 0 = -1) && Sp.edgesGo q.tail U (r : Int) N 0)) && Sp.chainsGo q.tail U (r : Int) N N 0)) := hide (by
      rw [hR]
      unfold Sp.rightB
      rw [hN, Int.toNat_natCast, Int.toNat_natCast]
      by_cases hl : U.length = N
      · by_cases hz : U.getD r 0 = -1
        · rw [decide_eq_true (show (U.length : Int) = (N : Int) ∧ 0 ≤ (r : Int) ∧ (r : Int) < (N : Int) ∧ U.getD r 0 = -1 from ⟨by omega, by omega, by omega, hz⟩), decide_eq_true hl, decide_eq_true hz]
          simp
        · rw [decide_eq_false (fun h => hz h.2.2.2), decide_eq_false hz]
          simp
      · rw [decide_eq_false (fun h => hl (by omega)), decide_eq_false hl]
        simp)
    obtain ⟨LB, hLB⟩ : ∃ LB, (decide (U.length = N) && (decide (U.getD r 0 = -1) && Sp.edgesGo q.tail U (r : Int) N 0)) = LB := ⟨_, rfl⟩
    rw [hLB] at HRe HLe
    have HLB := hide hLB
    rw [hN] at HBX HIs HSo HHd HLe x0 hW1 ⊢
    clear hP hR hT hev hn hr hv' hu' HV hb1 hLB
    have HS1 := hide hs1
    clear hs1
    subst hW1
    go_enter Try.func15, Try.ntmps15
    go_wp2
    go_step3
    go_wp2_with fail
    go_at_call 22
    generalize w.alloc (.cells #[.int .i64 (N : Int), .slice ta q.tail.length tc, .slice na q.next.length nc, .slice ca q.cap.length cc] 25) = W1 at *
    refine (unhide HSo W1 hb0).mono ?_
    rintro e w2 ⟨rfl, hl2⟩
    have hs1' := unhide HS1
    have hb2 : Below (w.heap.size + 1) W1 w2 := hb0.trans (hl2.mono (by omega))
    clear hl2 x0 x1 x2 x3
    obtain ⟨x0, x1, x2, x3, hz2⟩ := unhide HBX w2 hb2
    go_wp2_with fail
    go_at_call 23
    refine (unhide HIs w2 hb2).mono ?_
    rintro e w3 ⟨rfl, hl3⟩
    have hb3 : Below (w.heap.size + 1) W1 w3 := hb2.trans (hl3.mono (by omega))
    clear hl3 x0 x1 x2 x3 hz2 hb2
    obtain ⟨x0, x1, x2, x3, hz3⟩ := unhide HBX w3 hb3
    go_wp2_with fail
    go_at_call 30
    refine (unhide HLe w3 hb3).mono ?_
    rintro e w4 ⟨rfl, hl4⟩
    have hb4 : Below (w.heap.size + 1) W1 w4 := hb3.trans (hl4.mono (by omega))
    clear hl4 x0 x1 x2 x3 hz3 hb3
    obtain ⟨x0, x1, x2, x3, hz4⟩ := unhide HBX w4 hb4
    have HB4 := hide hb4
    clear hb4
    cases LB
    · have HR0 : Hid (R = false) := hide (by rw [unhide HRe]; rfl)
      go_wp2
      try rw [Exit.noGoto_ret]
      rw [unhide HP, unhide HR0]
      exact ⟨rfl, unhide HW _ (unhide HB4)⟩
    · have HR0 : Hid (R = Sp.chainsGo q.tail U (r : Int) N N 0) := hide (by rw [unhide HRe]; rfl)
      clear HRe
      have y0 := fun o => (unhide HBX (w4.alloc o) ((unhide HB4).alloc hz4 o)).1
      have hcr : (w4.alloc (.cells #[.int .i64 (-1)] 3)).cell? ⟨w4.heap.size, 0, none⟩ = some (.int .i64 (-1)) := by
        have e : (w4.alloc (.cells #[.int .i64 (-1)] 3)).heap[w4.heap.size]? = some (.cells #[.int .i64 (-1)] 3) := by
          show (w4.heap.push _)[w4.heap.size]? = _
          rw [Array.getElem?_push, if_pos rfl]
        simp only [World.cell?, e]
        rfl
      have hsz5 : (w4.alloc (.cells #[.int .i64 (-1)] 3)).heap.size = w4.heap.size + 1 := by show (w4.heap.push _).size = _; exact Array.size_push _
      have HRp := hide (repeat_any (-1) w4.heap.size N _ hN2 hcr (by omega))
      rw [hsz5] at HRp
      have HB5 : Hid (Below (w.heap.size + 1) W1 (w4.alloc (.cells #[.int .i64 (-1)] 3))) := hide ((unhide HB4).alloc hz4 _)
      clear hcr hsz5 x0 x1 x2 x3
      go_wp2_with fail
      go_at_call 24
      refine (unhide HRp).mono ?_
      rintro e w6 ⟨rfl, hown6, hb6⟩
      obtain ⟨G, hG⟩ : ∃ G, w4.heap.size + 1 = G := ⟨_, rfl⟩
      rw [hG] at hown6 hb6 ⊢
      have hBG : w.heap.size + 1 < G := by omega
      have HLB2 := unhide HLB
      simp only [Bool.and_eq_true, decide_eq_true_eq] at HLB2
      obtain ⟨hUl, -, hEd⟩ := HLB2
      have HEd := hide (fun (x : Nat) (hx : x < N) (hne : (x : Int) ≠ (r : Int)) => Sp.edges_all q.tail U (r : Int) N 0 hEd x (Nat.zero_le _) (by omega) hne)
      have H6 : Hid (Below (w.heap.size + 1) W1 w6 ∧ OwnI w6 G (.slice (some ⟨G, 0, none⟩) N N) (List.replicate N (-1))) := hide ⟨(unhide HB5).trans (hb6.mono (by omega)), hown6⟩
      have H7 : Hid (Sp.ByI q.tail U (r : Int) N 0 (List.replicate N (-1)) (fun _ => False)) := hide ⟨List.length_replicate, fun x hx hne => absurd (getD_rep1 _ _ _ hx) hne, fun y hy => by omega⟩
      have HU2 : Hid (∀ k, k < N → ∀ w', Below (w.heap.size + 1) W1 w' → ∃ b o, ua = some ⟨b, o, none⟩ ∧ w'.cell? ⟨b, o + k, none⟩ = some (.int .i64 (U.getD k 0))) := hide fun k hk w' hb => by
        obtain ⟨b', o', e1, -, h'⟩ := unhide HU k (by omega)
        exact ⟨b', o', e1, h' w' (unhide HW w' hb)⟩
      clear hown6 hb6 hG HRp HB5 HB4 y0 hz4 hEd HLB HU HSo HIs HLe hb0
      rw [hUl]
      go_wp2
      go_step3
      go_wp2
      go_loopg [32] N (fun g s32 wr => ∃ (v : Nat) (L : List Int), v + g = N ∧ s32 = .int .i64 (v : Int) ∧ Hid (Below (w.heap.size + 1) W1 wr ∧ OwnI wr G (.slice (some ⟨G, 0, none⟩) N N) L) ∧ Hid (Sp.ByI q.tail U (r : Int) N v L (fun _ => False)))
      case atStart => exact ⟨0, _, by omega, rfl, H6, H7⟩
      case round =>
        clear H6 H7
        obtain ⟨v, L, hvg, rfl, HI, HY⟩ := hrel
        by_cases hvN : v < N
        · have hvI : (v : Int) < (N : Int) := by omega
          obtain ⟨g', rfl⟩ : ∃ g', gk = g' + 1 := ⟨gk - 1, by omega⟩
          have HY2 : Hid (Sp.ByI q.tail U (r : Int) N v L (fun x => ∃ m, Sp.Stp q.tail U (r : Int) (m + 1) x v)) := hide ⟨(unhide HY).len, fun x hx hne => ((unhide HY).mark x hx hne).imp id (fun h => h.2.elim), (unhide HY).all⟩
          have HZ : Hid (∃ m, Sp.Stp q.tail U (r : Int) m v v) := hide ⟨0, rfl⟩
          clear HY
          go_wp2
          go_loopg [9] (L.count (-1)) (fun g2 s9 wr => ∃ (t : Nat) (L : List Int), t < N ∧ s9 = .int .i64 (t : Int) ∧ L.count (-1) = g2 ∧ Hid (Below (w.heap.size + 1) W1 wr ∧ OwnI wr G (.slice (some ⟨G, 0, none⟩) N N) L) ∧ Hid (Sp.ByI q.tail U (r : Int) N v L (fun x => ∃ m, Sp.Stp q.tail U (r : Int) (m + 1) x t)) ∧ Hid (∃ m, Sp.Stp q.tail U (r : Int) m v t))
          case atStart => exact ⟨v, L, hvN, rfl, rfl, HI, HY2, HZ⟩
          case round =>
            clear HI HY2 HZ
            obtain ⟨t, L2, htN, rfl, hcnt, HI, HY, HZ⟩ := hrel
            have HCn := hide hcnt
            clear hcnt
            have htI : (t : Int) < (N : Int) := by omega
            by_cases htr : t = r
            · subst htr
              have HF : Hid (Sp.ByI q.tail U (t : Int) N (v + 1) L2 (fun _ => False)) := hide (Sp.ByI.done (unhide HY) (Sp.rc_root _ _ rfl) (unhide HZ))
              clear HY HZ
              go_wp2
              go_roundg g'
              case rel => exact ⟨v + 1, L2, by omega, by go_num, HI, HF⟩
              case measure => omega
            · have htrI : (t : Int) ≠ (r : Int) := by omega
              have e1 : ((t : Int) == (r : Int)) = false := beq_eq_false_iff_ne.2 htrI
              have eb : ((t : Int) != (r : Int)) = true := by simp only [bne, e1]; rfl
              have hL2 := (unhide HY).len
              have c0 : ∀ wx : World, OwnI wx G (.slice (some ⟨G, 0, none⟩) N N) L2 → wx.cell? ⟨G, t, none⟩ = some (.int .i64 (L2.getD t 0)) ∧ wx.frozen? ⟨G, t, none⟩ = false := fun wx h => by
                unfold OwnI at h
                rw [hL2] at h
                refine ⟨?_, World.ownsRow.frozenAt h t⟩
                rw [World.ownsRow.cellAt h t (by omega), List.getElem?_map, List.getD_eq_getElem?_getD, List.getElem?_eq_getElem (by omega)]
                rfl
              obtain ⟨c1, f1⟩ := c0 _ (unhide HI).2
              clear c0
              by_cases hm1 : L2.getD t 0 = -1
              · have hd0 := unhide HEd t htN htrI
                obtain ⟨d, hd⟩ : ∃ d : Nat, U.getD t 0 = (d : Int) := ⟨(U.getD t 0).toNat, by omega⟩
                rw [hd] at hd0
                have hdl : d < q.tail.length := by omega
                have hyb := unhide HTb _ (Sp.getD_mem (unhide HO d hdl))
                obtain ⟨y, hy⟩ : ∃ y : Nat, q.tail.getD (Sp.oth d) 0 = (y : Int) := ⟨(q.tail.getD (Sp.oth d) 0).toNat, by omega⟩
                have hnx : Sp.nx q.tail U t = y := by unfold Sp.nx; rw [hd, Int.toNat_natCast, hy, Int.toNat_natCast]
                have hY2 := (unhide HY).on htN htrI
                rw [hnx] at hY2
                have HY2 := hide hY2
                have HZ2 : Hid (∃ m, Sp.Stp q.tail U (r : Int) m v y) := hide (by
                  obtain ⟨m, h⟩ := unhide HZ
                  exact ⟨m + 1, by rw [← hnx]; exact h.snoc htrI⟩)
                have hcm := count_mark L2 t (v : Int) (by omega) hm1 (by omega)
                have hc2 := unhide HCn
                obtain ⟨g3, hg3⟩ : ∃ g3, gk = g3 + 1 := ⟨gk - 1, by omega⟩
                subst hg3
                have HCn2 : Hid ((L2.set t (v : Int)).count (-1) = g3) := hide (by omega)
                have hyN : y < N := by omega
                have HH := hide (fun w' (hb : Below (w.heap.size + 1) W1 w') => unhide HHd d w' hdl hb)
                rw [hy] at HH
                have HUt := hide (fun w' hb => unhide HU2 t htN w' hb)
                rw [hd] at HUt
                rw [hm1] at c1
                have HA : Hid (Below (w.heap.size + 1) W1 (wr.setCell ⟨G, t, none⟩ (.int .i64 (v : Int))) ∧ OwnI (wr.setCell ⟨G, t, none⟩ (.int .i64 (v : Int))) G (.slice (some ⟨G, 0, none⟩) N N) (L2.set t (v : Int))) := hide ⟨(unhide HI).1.setCell (p := ⟨G, t, none⟩) (by show w.heap.size + 1 ≤ G; omega) _, own_setCell (unhide HI).2 t (v : Int)⟩
                clear HI HY HZ hY2 hcm hc2 HCn hd hy hnx hyb hd0 hm1
                go_upto_region 9 with fail
                generalize wr.setCell ⟨G, t, none⟩ (.int .i64 (v : Int)) = WA at *
                obtain ⟨bu, ou, hua, -⟩ := unhide HUt WA (unhide HA).1
                subst hua
                have HUt2 : Hid (∀ w', Below (w.heap.size + 1) W1 w' → w'.cell? ⟨bu, ou + t, none⟩ = some (.int .i64 (d : Int))) := hide fun w' hb => by
                  obtain ⟨b', o', e, h⟩ := unhide HUt w' hb
                  injection e with e
                  injection e with e1 e2
                  subst e1 e2
                  exact h
                have hsA := (unhide HBX WA (unhide HA).1).2.2.2.2
                have HLow : Hid (∀ w', Below WA.heap.size WA w' → Below (w.heap.size + 1) W1 w') := hide fun w' hb => (unhide HA).1.trans (hb.mono hsA)
                have hbr : Below WA.heap.size WA WA.drew := (Below.refl _ _).drew
                clear c1 f1 hsA HUt
                go_region_held3 (fun w' => w'.cell? ⟨w.heap.size, 0, none⟩ = some (.int .i64 (N : Int)) ∧ w'.cell? ⟨w.heap.size, 1, none⟩ = some (.slice ta q.tail.length tc) ∧ w'.cell? ⟨w.heap.size, 2, none⟩ = some (.slice na q.next.length nc) ∧ w'.cell? ⟨w.heap.size, 3, none⟩ = some (.slice ca q.cap.length cc) ∧ w'.cell? ⟨bu, ou + t, none⟩ = some (.int .i64 (d : Int)))
                  (first
                    | exact ⟨(unhide HBX _ (unhide HLow _ hb8)).1, (unhide HBX _ (unhide HLow _ hb8)).2.1, (unhide HBX _ (unhide HLow _ hb8)).2.2.1, (unhide HBX _ (unhide HLow _ hb8)).2.2.2.1, unhide HUt2 _ (unhide HLow _ hb8)⟩
                    | exact ⟨(unhide HBX _ (unhide HLow _ hbr)).1, (unhide HBX _ (unhide HLow _ hbr)).2.1, (unhide HBX _ (unhide HLow _ hbr)).2.2.1, (unhide HBX _ (unhide HLow _ hbr)).2.2.2.1, unhide HUt2 _ (unhide HLow _ hbr)⟩)
                  (first
                    | (go_at_call 26
                       refine (unhide HH _ (unhide HLow _ hbr)).mono ?_
                       rintro e w8 ⟨rfl, hl8⟩
                       have hb8 : Below WA.heap.size WA w8 := hbr.trans hl8))
                all_goals
                  go_wp2
                  go_roundg g3
                  case rel => exact ⟨y, L2.set t (v : Int), hyN, rfl, unhide HCn2, hide ⟨unhide HLow _ hb8, own_below (unhide HA).2 hb8⟩, HY2, HZ2⟩
                  case measure => omega
              · have hmk := (unhide HY).mark t htN hm1
                have em : (L2.getD t 0 == -1) = false := beq_eq_false_iff_ne.2 hm1
                by_cases hmv : L2.getD t 0 = (v : Int)
                · have HR1 : Hid (R = false) := hide (by
                    rw [unhide HR0]
                    rcases hmk with ⟨-, h1, -⟩ | ⟨-, m, h1⟩
                    · omega
                    · obtain ⟨m2, h2⟩ := unhide HZ
                      cases hc : Sp.chainsGo q.tail U (r : Int) N N 0 with
                      | false => rfl
                      | true => exact absurd (h2.rc.1 ((Sp.chains_iff (unhide HNx (by omega)) N 0 (by omega)).1 hc v (Nat.zero_le _) hvN)) h1.round)
                  rw [hmv] at c1
                  have ev : ((v : Int) == -1) = false := beq_eq_false_iff_ne.2 (by omega)
                  have HF := hide (unhide HI).1
                  clear HY HZ HI hmk em
                  go_wp2
                  try rw [Exit.noGoto_ret]
                  rw [unhide HP, unhide HR1]
                  exact ⟨rfl, unhide HW _ (unhide HF)⟩
                · have ev : (L2.getD t 0 == (v : Int)) = false := beq_eq_false_iff_ne.2 hmv
                  have HF : Hid (Sp.ByI q.tail U (r : Int) N (v + 1) L2 (fun _ => False)) := hide (Sp.ByI.done (unhide HY) (by
                    rcases hmk with ⟨-, -, h⟩ | ⟨h, -⟩
                    · exact h
                    · exact absurd h hmv) (unhide HZ))
                  clear HY HZ hmk
                  generalize L2.getD t 0 = z at *
                  go_wp2
                  go_roundg g'
                  case rel => exact ⟨v + 1, L2, by omega, by go_num, HI, HF⟩
                  case measure => omega
        · have hvI : ¬ (v : Int) < (N : Int) := by omega
          have HR1 : Hid (R = true) := hide (by rw [unhide HR0, Sp.chains_iff (unhide HNx (by omega)) N 0 (by omega)]; exact fun x _ hx => (unhide HY).all x (by omega))
          have HF := hide (unhide HI).1
          clear HI HY
          go_wp2
          try rw [Exit.noGoto_ret]
          rw [unhide HP, unhide HR1]
          exact ⟨rfl, unhide HW _ (unhide HF)⟩
  · rw [decide_eq_false hr] at HIs
    have HR0 : Hid (R = false) := hide (by
      rw [hR]; unfold Sp.rightB
      rw [decide_eq_false (fun h => hr ⟨h.2.1, h.2.2.1⟩)]; rfl)
    rw [hN] at HBX HIs HSo x0 hW1 ⊢
    clear hP hR hT hev hn hv' hu' HV hb1 HHd HU
    have HS1 := hide hs1
    clear hs1
    subst hW1
    go_enter Try.func15, Try.ntmps15
    go_wp2
    go_step3
    go_wp2_with fail
    go_at_call 22
    generalize w.alloc (.cells #[.int .i64 (N : Int), .slice ta q.tail.length tc, .slice na q.next.length nc, .slice ca q.cap.length cc] 25) = W1 at *
    refine (unhide HSo W1 hb0).mono ?_
    rintro e w2 ⟨rfl, hl2⟩
    have hs1' := unhide HS1
    have hb2 : Below (w.heap.size + 1) W1 w2 := hb0.trans (hl2.mono (by omega))
    clear hl2 x0 x1 x2 x3
    obtain ⟨x0, x1, x2, x3, hz2⟩ := unhide HBX w2 hb2
    go_wp2_with fail
    go_at_call 23
    refine (unhide HIs w2 hb2).mono ?_
    rintro e w3 ⟨rfl, hl3⟩
    have hb3 : Below (w.heap.size + 1) W1 w3 := hb2.trans (hl3.mono (by omega))
    have HB3 := hide hb3
    clear hl3 x0 x1 x2 x3 hz2 hb2 hb3
    go_wp2
    try rw [Exit.noGoto_ret]
    rw [unhide HP, unhide HR0]
    exact ⟨rfl, unhide HW _ (unhide HB3)⟩
end Go.Proofs.Ytenffkplneimlab


/- Package tree: isTree, Way of a tree. -/
namespace Go.Proofs.Ytenffkplneimlab
open Go Go.RowKit

/-- What Right says of a row. -/
theorem Sp.right_parts {q : Sp.Net} {U : List Int} {r N : Nat} (hN : q.n = (N : Int)) (h : Sp.rightB q U (r : Int) = true) : U.length = N ∧ r < N ∧ U.getD r 0 = -1 ∧ (∀ x, x < N → x ≠ r → 0 ≤ U.getD x 0 ∧ U.getD x 0 < (q.tail.length : Int)) ∧ Sp.chainsGo q.tail U (r : Int) N N 0 = true := by
  unfold Sp.rightB at h
  rw [hN, Int.toNat_natCast, Int.toNat_natCast] at h
  simp only [Bool.and_eq_true, decide_eq_true_eq] at h
  obtain ⟨⟨h1, h2, h3, h4⟩, h5, h6⟩ := h
  exact ⟨by omega, by omega, h4, fun x hx hne => Sp.edges_all q.tail U (r : Int) N 0 h5 x (Nat.zero_le _) (by omega) (by omega), h6⟩
theorem idx_root (q : Sp.Net) (U : List Int) (r N : Nat) (uv : Value) (w : World) (hu : Ints w uv U) (hN : q.n = (N : Int)) (hN2 : N ≤ 60) (hR : Sp.rightB q U (r : Int) = true) :
    Calls Try.prog 37 #[uv, .int .i64 (-1)] w fun e w' => e = .returned (.int .i64 (r : Int)) ∧ w' = w := by
  obtain ⟨hl, hr, hz, hE, -⟩ := Sp.right_parts hN hR
  obtain ⟨a, c, rfl, -, -, HU⟩ := hu.allD
  obtain ⟨b, o, rfl, -, -⟩ := unhide HU r (by omega)
  refine (index_any U b o U.length c (-1) w rfl (by omega) (fun j hj => ?_)).mono ?_
  · obtain ⟨b', o', e, -, h⟩ := unhide HU j hj
    injection e with e
    injection e with e1 e2
    subst e1 e2
    have := h w (Below.refl _ _)
    rw [Sp.getD_eq _ _ hj] at this
    exact this
  · rintro e w' ⟨h, hw⟩
    refine ⟨?_, hw⟩
    rcases h with ⟨i, hi, rfl, h1, -⟩ | ⟨-, h1⟩
    · have : i = r := by
        by_cases hir : i = r
        · exact hir
        · have := hE i (by omega) hir
          rw [Sp.getD_eq _ _ hi, h1] at this
          omega
      rw [this]
    · exact absurd (by rw [← hz]; exact Sp.getD_mem (by omega)) h1
set_option maxRecDepth 100000 in
set_option maxHeartbeats 4000000 in
theorem isTree_yes (q : Sp.Net) (U : List Int) (r N : Nat) (v tv nv cv uv : Value) (w : World) (hv : NetI w v q tv nv cv) (hu : Ints w uv U) (hev : q.tail.length % 2 = 0) (h240 : q.tail.length ≤ 240) (hN : q.n = (N : Int)) (hN2 : N ≤ 60) (hn : q.n ≤ ((q.tail.length / 2 : Nat) : Int) + 1) (hT : ∀ x ∈ q.tail, 0 ≤ x ∧ x < q.n) (hR : Sp.rightB q U (r : Int) = true) :
    Calls Try.prog 27 #[v, uv] w fun e w' => e = .returned (.bool true) ∧ Below w.heap.size w w' := by
  have hv' := hv
  obtain ⟨rfl, h1, h2, h3⟩ := hv
  obtain ⟨ta, tc, rfl, -, -⟩ := h1.form
  obtain ⟨na, nc, rfl, -, -⟩ := h2.form
  obtain ⟨ca, cc, rfl, -, -⟩ := h3.form
  clear h1 h2 h3
  have HBX := hide (box_new w q.n (.slice ta q.tail.length tc) (.slice na q.next.length nc) (.slice ca q.cap.length cc))
  obtain ⟨W1, hW1⟩ : ∃ W1, W1 = w.alloc (.cells #[.int .i64 q.n, .slice ta q.tail.length tc, .slice na q.next.length nc, .slice ca q.cap.length cc] 25) := ⟨_, rfl⟩
  rw [← hW1] at HBX
  have hb1 : Below w.heap.size w W1 := by rw [hW1]; exact (Below.refl _ w).alloc (Nat.le_refl _) _
  have hs1 : W1.heap.size = w.heap.size + 1 := by rw [hW1]; simp
  have HW : Hid (∀ w', Below (w.heap.size + 1) W1 w' → Below w.heap.size w w') := hide fun w' hb => hb1.trans (hb.mono (by omega))
  have HIx := hide (fun w' (hb : Below (w.heap.size + 1) W1 w') => idx_root q U r N uv w' (hu.below (unhide HW w' hb)) hN hN2 hR)
  have HRt := hide (fun w' (hb : Below (w.heap.size + 1) W1 w') => right_any q U (r : Int) N (.agg #[.int .i64 q.n, .slice ta q.tail.length tc, .slice na q.next.length nc, .slice ca q.cap.length cc]) _ _ _ uv w' ⟨rfl, hv'.tail.below (unhide HW w' hb), hv'.next.below (unhide HW w' hb), hv'.cap.below (unhide HW w' hb)⟩ (hu.below (unhide HW w' hb)) hev h240 hN hN2 hn hT)
  rw [hR] at HRt
  have HS1 := hide hs1
  have hbr : Below (w.heap.size + 1) W1 W1.drew := (Below.refl _ _).drew
  obtain ⟨P, hP⟩ : ∃ P : Ending → World → Prop, P = fun e w' => e = .returned (.bool true) ∧ Below w.heap.size w w' := ⟨_, rfl⟩
  rw [← hP]
  have HP := hide hP
  clear hP hb1 hs1 hv' hu hR hn hT hev hN
  subst hW1
  go_enter Try.func27, Try.ntmps27
  go_upto_region 1 with fail
  generalize w.alloc (.cells #[.int .i64 q.n, .slice ta q.tail.length tc, .slice na q.next.length nc, .slice ca q.cap.length cc] 25) = W1 at *
  have hs1 := unhide HS1
  go_region_held3 (fun w' => w'.cell? ⟨w.heap.size, 0, none⟩ = some (.int .i64 q.n) ∧ w'.cell? ⟨w.heap.size, 1, none⟩ = some (.slice ta q.tail.length tc) ∧ w'.cell? ⟨w.heap.size, 2, none⟩ = some (.slice na q.next.length nc) ∧ w'.cell? ⟨w.heap.size, 3, none⟩ = some (.slice ca q.cap.length cc))
    (first
      | exact ⟨(unhide HBX _ hb8).1, (unhide HBX _ hb8).2.1, (unhide HBX _ hb8).2.2.1, (unhide HBX _ hb8).2.2.2.1⟩
      | exact ⟨(unhide HBX _ hbr).1, (unhide HBX _ hbr).2.1, (unhide HBX _ hbr).2.2.1, (unhide HBX _ hbr).2.2.2.1⟩)
    (first
      | (go_at_call 15
         refine (unhide HRt _ hbr).mono ?_
         rintro e w8 ⟨rfl, hl8⟩
         have hb8 : Below (w.heap.size + 1) W1 w8 := hbr.trans (hl8.mono (by show _ ≤ W1.heap.size; omega)))
      | (go_at_call 37
         refine (unhide HIx _ hbr).mono ?_
         rintro e w' ⟨rfl, hw'⟩
         have := hw'.symm
         subst this))
  all_goals
    go_wp2
    rw [unhide HP]
    exact ⟨rfl, unhide HW _ hb8⟩
end Go.Proofs.Ytenffkplneimlab


/- All vertices are found. -/
namespace Go.Proofs.Ytenffkplneimlab
open Go Go.RowKit

theorem Sp.rowGo_done {T : List Int} {root : Int} {N : Nat} (hT : ∀ x ∈ T, 0 ≤ x ∧ x < (N : Int)) (hev : T.length % 2 = 0) {u : Int} : ∀ c d fl up, d + c = T.length → u ∈ fl → Sp.SpSt T root N fl up → ∀ e, d ≤ e → e < T.length → T.getD e 0 = u → T.getD (Sp.oth e) 0 ∈ (Sp.rowGo T root u c d fl up).1
  | 0, d, fl, up, hd, _, _, e, h1, h2, _ => by omega
  | c + 1, d, fl, up, hd, hu, h, e, h1, h2, h3 => by
    rw [Sp.rowGo]
    by_cases hed : e = d
    · subst hed
      rw [if_pos h3]
      have ho := oth_lt h2 hev
      have hb := hT _ (Sp.getD_mem (l := T) ho)
      split
      · rename_i hf
        obtain ⟨-, r, hr⟩ := Sp.SpSt.row hT hev c (e + 1) fl up (by omega) hu h
        rw [hr]
        refine List.mem_append.2 (.inl ?_)
        have := (h.mem (T.getD (Sp.oth e) 0).toNat (by omega)).2 (hf.elim (fun h4 => .inl (by omega)) (fun h4 => .inr h4))
        rw [show (((T.getD (Sp.oth e) 0).toNat : Nat) : Int) = T.getD (Sp.oth e) 0 by omega] at this
        exact this
      · rename_i hn
        obtain ⟨-, r, hr⟩ := Sp.SpSt.row hT hev c (e + 1) _ _ (by omega) (List.mem_append.2 (.inl hu)) (h.find hT hev h2 (by rw [h3]; exact hu) hn)
        rw [hr]
        exact List.mem_append.2 (.inl (List.mem_append.2 (.inr (List.mem_singleton.2 rfl))))
    · split
      · rename_i hd'
        split
        · exact Sp.rowGo_done hT hev c (d + 1) fl up (by omega) hu h e (by omega) h2 h3
        · rename_i hn
          exact Sp.rowGo_done hT hev c (d + 1) _ _ (by omega) (List.mem_append.2 (.inl hu)) (h.find hT hev (by omega) (by rw [hd']; exact hu) hn) e (by omega) h2 h3
      · exact Sp.rowGo_done hT hev c (d + 1) fl up (by omega) hu h e (by omega) h2 h3
theorem Sp.spanGo_done {T : List Int} {root : Int} {N : Nat} (hT : ∀ x ∈ T, 0 ≤ x ∧ x < (N : Int)) (hev : T.length % 2 = 0) : ∀ g i fl up, i + g = N → i ≤ fl.length → Sp.SpSt T root N fl up → (∀ k, k < i → ∀ e, e < T.length → T.getD e 0 = fl.getD k 0 → T.getD (Sp.oth e) 0 ∈ fl) →
    Sp.SpSt T root N (Sp.spanGo T root g i fl up).1 (Sp.spanGo T root g i fl up).2 ∧ ∀ e, e < T.length → T.getD e 0 ∈ (Sp.spanGo T root g i fl up).1 → T.getD (Sp.oth e) 0 ∈ (Sp.spanGo T root g i fl up).1
  | 0, i, fl, up, hi, hl, h, hc => by
    refine ⟨h, fun e he hm => ?_⟩
    obtain ⟨k, hk, e2⟩ := List.getElem_of_mem (show T.getD e 0 ∈ fl from hm)
    have := h.le
    exact hc k (by omega) e he (by rw [Sp.getD_eq _ _ hk, e2])
  | g + 1, i, fl, up, hi, hl, h, hc => by
    rw [Sp.spanGo]
    by_cases hlt : i < fl.length
    · rw [if_pos hlt]
      have hu : fl.getD i 0 ∈ fl := Sp.getD_mem hlt
      obtain ⟨h1, r, hr⟩ := Sp.SpSt.row hT hev T.length 0 fl up (by omega) hu h
      have hd := Sp.rowGo_done hT hev T.length 0 fl up (by omega) hu h
      refine Sp.spanGo_done hT hev g (i + 1) _ _ (by omega) (by rw [hr, List.length_append]; omega) h1 fun k hk e he e2 => ?_
      have hg : (Sp.rowGo T root (fl.getD i 0) T.length 0 fl up).1.getD k 0 = fl.getD k 0 := by
        rw [hr, List.getD_eq_getElem?_getD, List.getElem?_append_left (by omega), ← List.getD_eq_getElem?_getD]
      rw [hg] at e2
      rcases Nat.lt_or_ge k i with h2 | h2
      · have := hc k h2 e he e2
        rw [hr]
        exact List.mem_append.2 (.inl this)
      · obtain rfl : k = i := by omega
        exact hd e (by omega) he e2
    · rw [if_neg hlt]
      refine ⟨h, fun e he hm => ?_⟩
      obtain ⟨k, hk, e2⟩ := List.getElem_of_mem (show T.getD e 0 ∈ fl from hm)
      exact hc k (by omega) e he (by rw [Sp.getD_eq _ _ hk, e2])
/-- Of a net of one piece every vertex but the root has a dart that leads up. -/
theorem Sp.span_all {q : Sp.Net} {root : Int} (hT : ∀ x ∈ q.tail, 0 ≤ x ∧ x < q.n) (hev : q.tail.length % 2 = 0) (h0 : 0 ≤ root) (h1 : root < q.n) (hc : ∀ v, 0 ≤ v → v < q.n → Sp.Reach q.tail root v) :
    (Sp.span q root).length = q.n.toNat ∧ (Sp.span q root).getD root.toNat 0 = -1 ∧ ∀ v : Nat, (v : Int) < q.n → (v : Int) ≠ root → ∃ d : Nat, d < q.tail.length ∧ (Sp.span q root).getD v 0 = (d : Int) ∧ q.tail.getD d 0 = (v : Int) := by
  have hT' : ∀ x ∈ q.tail, 0 ≤ x ∧ x < ((q.n.toNat : Nat) : Int) := fun x hx => by have := hT x hx; omega
  obtain ⟨hs, hcl⟩ := Sp.spanGo_done hT' hev q.n.toNat 0 [root] (List.replicate q.n.toNat (-1)) (by omega) (by simp) (Sp.SpSt.first q.tail h0 (by omega)) (fun k hk => by omega)
  refine ⟨hs.len, hs.rt, fun v hv hne => ?_⟩
  obtain ⟨r, hr⟩ := hs.hd
  have hm : (v : Int) ∈ (Sp.spanGo q.tail root q.n.toNat 0 [root] (List.replicate q.n.toNat (-1))).1 :=
    (hc v (by omega) hv).ind (p := fun z => z ∈ (Sp.spanGo q.tail root q.n.toNat 0 [root] (List.replicate q.n.toNat (-1))).1) (by rw [hr]; simp) (fun d hd _ ih => hcl d hd ih)
  rcases (hs.mem v (by omega)).1 hm with e | e
  · exact absurd e hne
  · obtain ⟨d, d1, d2, d3, -⟩ := hs.dart v (by omega) e
    exact ⟨d, d1, d2, d3⟩
end Go.Proofs.Ytenffkplneimlab


/- The reference's Span (P401). -/
namespace Go.Proofs.Ytenffkplneimlab
open Go Go.RowKit

/-- A row of the call's own stays where its block does. -/
theorem own_same {w w' : World} {B e size n g N c : Nat} {xs : List Value} (h : w.ownsRow B e size (.slice (some ⟨g, 0, none⟩) N c) n xs) (e1 : w'.heap[g]? = w.heap[g]?) : w'.ownsRow B e size (.slice (some ⟨g, 0, none⟩) N c) n xs := by
  obtain ⟨h1, h2 | ⟨g', cap, cur, e2, hg, hh, r⟩⟩ := h
  · exact ⟨h1, .inl h2⟩
  · injection e2 with e3 e4 e5
    injection e3 with e3
    injection e3 with e3
    subst e3
    exact ⟨h1, .inr ⟨g, cap, cur, by rw [e4, e5], hg, e1.trans hh, r⟩⟩
/-- What Span goes over. -/
structure SpW (W1 wr : World) (B N G2 : Nat) (fl up : List Int) (qa : Option Addr) (qc : Nat) : Prop where
  bel : Below (B + 1) W1 wr
  up : OwnI wr (B + 1) (.slice (some ⟨B + 1, 0, none⟩) N N) up
  fd : OwnB wr (B + 2) (.slice (some ⟨G2, 0, none⟩) N N) (Sp.metL N fl)
  q : OwnI wr (G2 + 1) (.slice qa fl.length qc) fl
  sz : G2 < wr.heap.size
theorem SpW.below {W1 wr w' : World} {B N G2 : Nat} {fl up : List Int} {qa : Option Addr} {qc : Nat} (h : SpW W1 wr B N G2 fl up qa qc) (hB : B + 1 < G2) (hb : Below wr.heap.size wr w') : SpW W1 w' B N G2 fl up qa qc :=
  ⟨h.bel.trans (hb.mono (by have := h.sz; omega)), own_below h.up hb, own_below h.fd hb, own_below h.q hb, Nat.lt_of_lt_of_le h.sz hb.size⟩
end Go.Proofs.Ytenffkplneimlab


/- Package tree: Left of a tree. -/
namespace Go.Proofs.Ytenffkplneimlab
open Go Go.RowKit

/-- Block G holds n bools, two by two. -/
def Us (w : World) (G n : Nat) (f : Nat → Bool) : Prop := ∃ c, w.heap[G]? = some (.cells c 50) ∧ c.size = n ∧ ∀ j, j < n → c[j]? = some (.bool (f j))
theorem Us.lt {w : World} {G n : Nat} {f : Nat → Bool} (h : Us w G n f) : G < w.heap.size := by
  obtain ⟨c, hc, -⟩ := h
  exact (Array.getElem?_eq_some_iff.1 hc).1
theorem Us.cell {w : World} {G n : Nat} {f : Nat → Bool} (h : Us w G n f) {j : Nat} (hj : j < n) : w.cell? ⟨G, j, none⟩ = some (.bool (f j)) ∧ w.frozen? ⟨G, j, none⟩ = false := by
  obtain ⟨c, hc, -, hz⟩ := h
  constructor
  · simp only [World.cell?, hc]; exact hz j hj
  · simp [World.frozen?, hc]
theorem Us.of_block {w w' : World} {G n : Nat} {f : Nat → Bool} (h : Us w G n f) (e : w'.heap[G]? = w.heap[G]?) : Us w' G n f := by
  obtain ⟨c, hc, r⟩ := h
  exact ⟨c, e.trans hc, r⟩
theorem Us.set {w : World} {G n : Nat} {f : Nat → Bool} (h : Us w G n f) (j : Nat) : Us (w.setCell ⟨G, j, none⟩ (.bool true)) G n (fun k => if k = j then true else f k) := by
  obtain ⟨c, hc, hs, hz⟩ := h
  refine ⟨c.setIfInBounds j (.bool true), ?_, by simpa using hs, fun k hk => ?_⟩
  · simp only [World.setCell, Array.getElem?_modify, if_pos, hc]; rfl
  · show _ = some (Value.bool (if k = j then true else f k))
    rw [Array.getElem?_setIfInBounds]
    by_cases hjk : j = k
    · rw [if_pos hjk, if_pos (by omega), if_pos hjk.symm]
    · rw [if_neg hjk, hz k hk, if_neg (fun e : k = j => hjk e.symm)]
theorem made_two (n j : Nat) (hj : j < n) : (madeCells #[Value.bool false, .bool false] n)[j]? = some (.bool false) := by
  unfold madeCells
  rw [Array.getElem?_map, Array.getElem?_range, if_pos hj]
  simp only [Option.map_some, Option.some.injEq]
  rcases (show j % 2 = 0 ∨ j % 2 = 1 by omega) with h | h
  · show (#[Value.bool false, Value.bool false][j % 2]!) = _
    rw [h]; rfl
  · show (#[Value.bool false, Value.bool false][j % 2]!) = _
    rw [h]; rfl
theorem Sp.usedB_iff (up : List Int) (d : Nat) : ∀ n, Sp.usedB up d n = true ↔ ∃ j, j < n ∧ (up.getD j 0 = (d : Int) ∨ up.getD j 0 = (d : Int) + 1)
  | 0 => by simp [Sp.usedB]
  | n + 1 => by
    rw [Sp.usedB, Bool.or_eq_true, Bool.or_eq_true, Sp.usedB_iff up d n, beq_iff_eq, beq_iff_eq]
    constructor
    · rintro ((⟨j, h1, h2⟩ | h) | h)
      · exact ⟨j, by omega, h2⟩
      · exact ⟨n, by omega, .inl h⟩
      · exact ⟨n, by omega, .inr h⟩
    · rintro ⟨j, h1, h2⟩
      by_cases hj : j = n
      · subst hj
        rcases h2 with h2 | h2
        · exact .inl (.inr h2)
        · exact .inr h2
      · exact .inl (.inl ⟨j, by omega, h2⟩)
theorem infoT : (Try.prog.info? 50).map (fun i => (i.zero, i.size, i.bytes)) = some (some (.agg #[.bool false, .bool false]), 2, 2) := by kernel_rfl
theorem two_at {w : World} {B : Nat} {x y : Value} (h : w.heap[B]? = some (.cells #[x, y] 50)) : w.cell? ⟨B, 0, none⟩ = some x ∧ w.cell? ⟨B, 1, none⟩ = some y := by
  constructor <;> simp only [World.cell?, h] <;> rfl
theorem eq_two (x y : Bool) (w : World) : (Op.equalIn 10000 50 (.agg #[.bool x, .bool y]) (.agg #[.bool false, .bool false])).run Try.prog w = .ok (!x && !y) w := by
  have hd := run_equalIn_deep (P := Try.prog) 9997 3 50 (by rfl)
  obtain ⟨r, h1, h2⟩ := hd w 3 3 (.agg #[.bool x, .bool y]) (.agg #[.bool false, .bool false]) _ _ (by rfl) (by rfl) (by rfl) (by rfl)
  have h3 : r = (!x && !y) := by
    rw [Bool.eq_iff_iff, h2]
    cases x <;> cases y <;> simp
  rw [← h3]
  exact h1
set_option maxRecDepth 100000 in
set_option maxHeartbeats 8000000 in
theorem left_any (q : Sp.Net) (U : List Int) (r N : Nat) (v tv nv cv uv : Value) (w : World) (hv : NetI w v q tv nv cv) (hu : Ints w uv U) (hev : q.tail.length % 2 = 0) (h240 : q.tail.length ≤ 240) (hN : q.n = (N : Int)) (hN2 : N ≤ 60) (hn : q.n ≤ ((q.tail.length / 2 : Nat) : Int) + 1) (hT : ∀ x ∈ q.tail, 0 ≤ x ∧ x < q.n) (hR : Sp.rightB q U (r : Int) = true) :
    Calls Try.prog 12 #[v, uv] w fun e w' => ∃ lv, e = .returned lv ∧ OwnI w' w.heap.size lv (Sp.leftL q U) ∧ Below w.heap.size w w' := by
  obtain ⟨iT, hiT, hT0, hT1, hT2⟩ : ∃ i0, Try.prog.info? 50 = some i0 ∧ i0.zero = some (.agg #[.bool false, .bool false]) ∧ i0.size = 2 ∧ i0.bytes = 2 := by
    have h := infoT
    cases hq : Try.prog.info? 50 with
    | none => rw [hq] at h; cases h
    | some i0 =>
      rw [hq] at h
      simp only [Option.map_some, Option.some.injEq, Prod.mk.injEq] at h
      exact ⟨i0, rfl, h.1, h.2.1, h.2.2⟩
  obtain ⟨hUl, hrN, hUr, hE, -⟩ := Sp.right_parts hN hR
  have hv' := hv
  have hu' := hu
  obtain ⟨rfl, h1, h2, h3⟩ := hv
  obtain ⟨ta, tc, rfl, -, -⟩ := h1.form
  obtain ⟨na, nc, rfl, -, -⟩ := h2.form
  obtain ⟨ca, cc, rfl, -, -⟩ := h3.form
  obtain ⟨ua, uc, rfl, -, -, HU⟩ := hu.allD
  clear h1 h2 h3 hu
  obtain ⟨bu, ou, rfl, -, -⟩ := unhide HU r (by omega)
  have HBX := hide (box_new w q.n (.slice ta q.tail.length tc) (.slice na q.next.length nc) (.slice ca q.cap.length cc))
  obtain ⟨W1, hW1⟩ : ∃ W1, W1 = w.alloc (.cells #[.int .i64 q.n, .slice ta q.tail.length tc, .slice na q.next.length nc, .slice ca q.cap.length cc] 25) := ⟨_, rfl⟩
  rw [← hW1] at HBX
  have hb1 : Below w.heap.size w W1 := by rw [hW1]; exact (Below.refl _ w).alloc (Nat.le_refl _) _
  have hs1 : W1.heap.size = w.heap.size + 1 := by rw [hW1]; simp
  have HW : Hid (∀ w', Below (w.heap.size + 1) W1 w' → Below w.heap.size w w') := hide fun w' hb => hb1.trans (hb.mono (by omega))
  have HTr := hide (fun w' (hb : Below (w.heap.size + 1) W1 w') => isTree_yes q U r N (.agg #[.int .i64 q.n, .slice ta q.tail.length tc, .slice na q.next.length nc, .slice ca q.cap.length cc]) _ _ _ (.slice (some ⟨bu, ou, none⟩) U.length uc) w' ⟨rfl, hv'.tail.below (unhide HW w' hb), hv'.next.below (unhide HW w' hb), hv'.cap.below (unhide HW w' hb)⟩ (hu'.below (unhide HW w' hb)) hev h240 hN hN2 hn hT hR)
  have HU2 : Hid (∀ k, k < N → ∀ w', Below (w.heap.size + 1) W1 w' → w'.cell? ⟨bu, ou + k, none⟩ = some (.int .i64 (U.getD k 0))) := hide fun k hk w' hb => by
    obtain ⟨b', o', e1, -, h'⟩ := unhide HU k (by omega)
    injection e1 with e1
    injection e1 with e1 e2
    subst e1 e2
    exact h' w' (unhide HW w' hb)
  have HE : Hid (∀ y, y < N → U.getD y 0 = -1 ∨ (0 ≤ U.getD y 0 ∧ U.getD y 0 < (q.tail.length : Int))) := hide fun y hy => by
    by_cases hyr : y = r
    · rw [hyr]; exact .inl hUr
    · exact .inr (hE y hy hyr)
  obtain ⟨m, hm⟩ : ∃ m, q.tail.length / 2 = m := ⟨_, rfl⟩
  have hm2 : q.tail.length = 2 * m := by omega
  have HL : Hid (Sp.leftL q U = Sp.leftGo U m 0 []) := hide (by unfold Sp.leftL; rw [hm])
  have HUl := hide hUl
  have htd : ((q.tail.length : Nat) : Int).tdiv 2 = (m : Int) := by rw [Int.tdiv_eq_ediv_of_nonneg (by omega)]; omega
  have htd2 : ((q.tail.length : Nat) : Int) / 2 = (m : Int) := by omega
  obtain ⟨P, hP⟩ : ∃ P : Ending → World → Prop, P = fun e w' => ∃ lv, e = .returned lv ∧ OwnI w' w.heap.size lv (Sp.leftL q U) ∧ Below w.heap.size w w' := ⟨_, rfl⟩
  rw [← hP]
  have HP := hide hP
  have HS1 := hide hs1
  have hb0 : Below (w.heap.size + 1) W1 W1 := Below.refl _ _
  obtain ⟨x0, x1, x2, x3, -⟩ := unhide HBX W1 hb0
  rw [hUl] at HTr ⊢
  have hm3 : m ≤ 120 := by omega
  have HM2 := hide hm2
  clear hP hb1 hs1 hv' hu' hR hn hT hev hN HU hE hUr hrN hUl hm hm2
  subst hW1
  go_enter Try.func12, Try.ntmps12
  go_wp2_with fail
  go_at_call 27
  generalize w.alloc (.cells #[.int .i64 q.n, .slice ta q.tail.length tc, .slice na q.next.length nc, .slice ca q.cap.length cc] 25) = W1 at *
  refine (unhide HTr W1 hb0).mono ?_
  rintro e w2 ⟨rfl, hl2⟩
  have hs1' := unhide HS1
  have hb2 : Below (w.heap.size + 1) W1 w2 := hb0.trans (hl2.mono (by omega))
  clear hl2 x0 x1 x2 x3
  obtain ⟨x0, x1, x2, x3, hz2⟩ := unhide HBX w2 hb2
  have HB2 := hide hb2
  clear hb2
  go_wp2_with (at_make; refine wpList_make_full _ rfl _ _ 49 rfl w2.heap.size 50 iT (.agg #[.bool false, .bool false]) 2 Try.underlying49 hiT hT0 hT1 .i64 .i64 _ _ m rfl rfl rfl rfl (by rw [hT2]; omega) (by unfold maxLen; omega) (Nat.le_refl _) ?_)
  intro w5 hown5 hg5
  obtain ⟨G, hG⟩ : ∃ G, w2.heap.size = G := ⟨_, rfl⟩
  have hb5 : Below w2.heap.size w2 w5 := (Below.refl _ _).grown hg5 (Nat.le_refl _) (by simp)
  rw [hG] at hown5 hb5 hz2 ⊢
  have hus : Us w5 G (m * 2) (fun _ => false) := by
    rcases hown5.2 with ⟨e, -⟩ | ⟨g, cap, cur, e, -, hc, -, -, h3, h4⟩
    · cases e
    · injection e with e1 _ e2
      injection e1 with e1
      injection e1 with e1
      subst e1 e2
      have : cur.toList.length ≤ m * 2 := by simp [h3]
      rw [List.take_of_length_le this] at h4
      refine ⟨cur, hc, h3, fun j hj => ?_⟩
      rw [← Array.getElem?_toList, h4, Array.getElem?_toList]
      exact made_two _ _ hj
  have H5 : Hid (Below (w.heap.size + 1) W1 w5 ∧ Us w5 G (m * 2) (fun _ => false)) := hide ⟨(unhide HB2).trans (hb5.mono (by omega)), hus⟩
  clear hown5 hg5 hb5 hus hG HB2 x0 x1 x2 x3
  go_wp2
  go_loopg [23] N (fun g s23 wr => ∃ (k : Nat) (f : Nat → Bool), k + g = N ∧ s23 = .int .i64 (k : Int) ∧ Hid (Below (w.heap.size + 1) W1 wr ∧ Us wr G (m * 2) f) ∧ Hid (∀ d, f d = true ↔ ∃ v, v < k ∧ U.getD v 0 = (d : Int)))
  case atStart => exact ⟨0, _, by omega, rfl, H5, hide fun d => ⟨fun h => (by cases h), fun ⟨v, h, _⟩ => (by omega)⟩⟩
  case round =>
    clear H5
    obtain ⟨k, f, hkg, rfl, HI, HF⟩ := hrel
    by_cases hk : k < N
    · have hkI : (k : Int) < (N : Int) := by omega
      obtain ⟨g', rfl⟩ : ∃ g', gk = g' + 1 := ⟨gk - 1, by omega⟩
      have c1 := unhide HU2 k hk wr (unhide HI).1
      have hE := unhide HE k hk
      obtain ⟨z, hz⟩ : ∃ z, U.getD k 0 = z := ⟨_, rfl⟩
      rw [hz] at c1 hE
      have HZ := hide hz
      clear hz
      by_cases hz1 : z = -1
      · subst hz1
        have HF2 : Hid (∀ d : Nat, f d = true ↔ ∃ v, v < k + 1 ∧ U.getD v 0 = (d : Int)) := hide fun d => by
          rw [unhide HF]
          constructor
          · rintro ⟨v, h1, h2⟩; exact ⟨v, by omega, h2⟩
          · rintro ⟨v, h1, h2⟩
            by_cases hvk : v = k
            · rw [hvk, unhide HZ] at h2; omega
            · exact ⟨v, by omega, h2⟩
        clear HF HZ hE
        go_wp2
        go_roundg g'
        case rel => exact ⟨k + 1, f, by omega, by go_num, HI, HF2⟩
        case measure => omega
      · have hE2 := hE.resolve_left hz1
        obtain ⟨d, rfl⟩ : ∃ d : Nat, z = (d : Int) := ⟨z.toNat, by omega⟩
        have hml := unhide HM2
        obtain ⟨e0, he0⟩ : ∃ e0, d / 2 = e0 := ⟨_, rfl⟩
        obtain ⟨r0, hr0⟩ : ∃ r0, d % 2 = r0 := ⟨_, rfl⟩
        have hq1 : (d : Int).tdiv 2 = (e0 : Int) := by rw [Int.tdiv_eq_ediv_of_nonneg (by omega)]; omega
        have hq2 : (d : Int) / 2 = (e0 : Int) := by omega
        have hq3 : (d : Int).tmod 2 = (r0 : Int) := by rw [Int.tmod_eq_emod_of_nonneg (by omega)]; omega
        have hq4 : (d : Int) % 2 = (r0 : Int) := by omega
        have he0I : (e0 : Int) < (m : Int) := by omega
        have hr0I : (r0 : Int) < 2 := by omega
        have hdm : e0 * 2 + r0 = d := by omega
        obtain ⟨cu, fu⟩ := (unhide HI).2.cell (j := e0 * 2 + r0) (by omega)
        have ez : ((d : Int) == -1) = false := beq_eq_false_iff_ne.2 (by omega)
        have eb : ((d : Int) != -1) = true := by simp only [bne, ez]; rfl
        have HA : Hid (Below (w.heap.size + 1) W1 (wr.setCell ⟨G, e0 * 2 + r0, none⟩ (.bool true)) ∧ Us (wr.setCell ⟨G, e0 * 2 + r0, none⟩ (.bool true)) G (m * 2) (fun k => if k = e0 * 2 + r0 then true else f k)) := hide ⟨(unhide HI).1.setCell (p := ⟨G, e0 * 2 + r0, none⟩) (by show w.heap.size + 1 ≤ G; omega) _, (unhide HI).2.set _⟩
        have HF2 : Hid (∀ d' : Nat, (if d' = e0 * 2 + r0 then true else f d') = true ↔ ∃ v, v < k + 1 ∧ U.getD v 0 = (d' : Int)) := hide fun d' => by
          rw [hdm]
          by_cases hdd : d' = d
          · rw [if_pos hdd]
            exact ⟨fun _ => ⟨k, by omega, by rw [unhide HZ, hdd]⟩, fun _ => rfl⟩
          · rw [if_neg hdd, unhide HF]
            constructor
            · rintro ⟨v, h1, h2⟩; exact ⟨v, by omega, h2⟩
            · rintro ⟨v, h1, h2⟩
              by_cases hvk : v = k
              · rw [hvk, unhide HZ] at h2; omega
              · exact ⟨v, by omega, h2⟩
        generalize f (e0 * 2 + r0) = fb at cu
        clear HF HZ hE hE2 hz1 HI he0 hr0 hml hdm
        go_wp2
        go_roundg g'
        case rel => exact ⟨k + 1, _, by omega, by go_num, HA, HF2⟩
        case measure => omega
    · have hkI : ¬ (k : Int) < (N : Int) := by omega
      obtain rfl : k = N := by omega
      have hsz := (unhide HI).2.lt
      obtain ⟨NB, hNB⟩ : ∃ NB, wr.heap.size = NB := ⟨_, rfl⟩
      have hal := (Below.refl wr.heap.size wr).alloc (Nat.le_refl _) (.cells #[.bool false, .bool false] 50)
      have H6 : Hid (Below (w.heap.size + 1) W1 (wr.alloc (.cells #[.bool false, .bool false] 50)) ∧ Us (wr.alloc (.cells #[.bool false, .bool false] 50)) G (m * 2) f ∧ (wr.alloc (.cells #[.bool false, .bool false] 50)).heap[NB]? = some (.cells #[.bool false, .bool false] 50) ∧ OwnI (wr.alloc (.cells #[.bool false, .bool false] 50)) (NB + 1) (.slice none 0 0) []) := hide ⟨(unhide HI).1.alloc (by omega) _, (unhide HI).2.of_block (hal.block _ hsz), by
        rw [← hNB]
        show (wr.heap.push _)[wr.heap.size]? = _
        rw [Array.getElem?_push, if_pos rfl], ⟨by simp, .inl ⟨rfl, rfl⟩⟩⟩
      have HUs : Hid (∀ e, Sp.usedB U (2 * e) U.length = (f (e * 2) || f (e * 2 + 1))) := hide fun e => by
        rw [Bool.eq_iff_iff, Bool.or_eq_true, Sp.usedB_iff, unhide HF, unhide HF, unhide HUl]
        constructor
        · rintro ⟨v, h1, h2 | h2⟩
          · exact .inl ⟨v, h1, by omega⟩
          · exact .inr ⟨v, h1, by omega⟩
        · rintro (⟨v, h1, h2⟩ | ⟨v, h1, h2⟩)
          · exact ⟨v, h1, .inl (by omega)⟩
          · exact ⟨v, h1, .inr (by omega)⟩
      have hGN : G < NB := by omega
      clear hal HI HF hsz
      have hsz6 : NB + 1 ≤ (wr.alloc (.cells #[.bool false, .bool false] 50)).heap.size := by
        show _ ≤ (wr.heap.push _).size
        rw [Array.size_push]; omega
      go_wp2
      generalize wr.alloc (.cells #[.bool false, .bool false] 50) = W6 at *
      clear hNB
      go_loopg [9, 40] m (fun g s9 s40 wr => ∃ (e : Nat) (out : List Int) (oa : Option Addr) (oc : Nat), e + g = m ∧ s9 = .slice oa out.length oc ∧ s40 = .int .i64 (e : Int) ∧ out.length ≤ e ∧ NB + 1 ≤ wr.heap.size ∧ Hid (Below (w.heap.size + 1) W1 wr ∧ Us wr G (m * 2) f ∧ wr.heap[NB]? = some (.cells #[.bool false, .bool false] 50) ∧ OwnI wr (NB + 1) (.slice oa out.length oc) out) ∧ Hid (Sp.leftL q U = Sp.leftGo U g e out))
      case atStart => exact ⟨0, [], none, 0, by omega, rfl, rfl, by simp, hsz6, H6, HL⟩
      case round =>
        clear H6 hsz6 HL
        obtain ⟨e, out, oa, oc, heg, rfl, rfl, hoe, hsr, HI, HL⟩ := hrel
        by_cases he : e < m
        · have heI : (e : Int) < (m : Int) := by omega
          obtain ⟨g', rfl⟩ : ∃ g', gk = g' + 1 := ⟨gk - 1, by omega⟩
          have HLs : Hid (Sp.leftL q U = if (f (e * 2) || f (e * 2 + 1)) = true then Sp.leftGo U g' (e + 1) out else Sp.leftGo U g' (e + 1) (out ++ [((2 * e : Nat) : Int)])) := hide (by rw [unhide HL, Sp.leftGo, unhide HUs])
          obtain ⟨ca0, -⟩ := (unhide HI).2.1.cell (j := e * 2) (by omega)
          obtain ⟨ca1, -⟩ := (unhide HI).2.1.cell (j := e * 2 + 1) (by omega)
          have n01 := fun o : Obj => two_at (w := wr.alloc o) ((Below.heap_alloc wr o NB (by omega)).trans (unhide HI).2.2.1)
          have n0 := fun o => (n01 o).1
          have n1 := fun o => (n01 o).2
          have HB : Hid (∀ o, Below (w.heap.size + 1) W1 (wr.alloc o) ∧ Us (wr.alloc o) G (m * 2) f ∧ (wr.alloc o).heap[NB]? = some (.cells #[.bool false, .bool false] 50) ∧ OwnI (wr.alloc o) (NB + 1) (.slice oa out.length oc) out ∧ NB + 2 ≤ (wr.alloc o).heap.size) := hide fun o => by
            have hal := (Below.refl wr.heap.size wr).alloc (Nat.le_refl _) o
            exact ⟨(unhide HI).1.alloc (by omega) _, (unhide HI).2.1.of_block (hal.block _ (by omega)), (hal.block NB (by omega)).trans (unhide HI).2.2.1, own_below (unhide HI).2.2.2 hal, by
              show _ ≤ (wr.heap.push _).size
              rw [Array.size_push]; omega⟩
          clear HI HL n01
          have heq := fun w' => eq_two (f (e * 2)) (f (e * 2 + 1)) w'
          generalize f (e * 2) = b0 at *
          generalize f (e * 2 + 1) = b1 at *
          cases b0
          · cases b1
            · have HL2 : Hid (Sp.leftL q U = Sp.leftGo U g' (e + 1) (out ++ [((2 * e : Nat) : Int)])) := hide (unhide HLs)
              clear HLs
              have h2e : (2 : Int) * (e : Int) = ((2 * e : Nat) : Int) := by omega
              obtain ⟨e2, he2⟩ : ∃ e2, 2 * e = e2 := ⟨_, rfl⟩
              rw [he2] at h2e HL2
              have HBb := hide (unhide HB (.cells #[.bool false, .bool false] 50))
              have hwe : IntKind.i64.wrap (e2 : Int) = (e2 : Int) := by rw [IntKind.wrap_i64]; omega
              clear HB
              go_upto_region 16 with fail
              generalize wr.alloc (.cells #[.bool false, .bool false] 50) = WB at *
              have hszB := (unhide HBb).2.2.2.2
              clear ca0 ca1 n0 n1
              go_wp2_with (at_builtin; refine wpList_app (w := WB.alloc (.cells #[.int .i64 (e2 : Int)] 3)) rfl _ _ rfl (NB + 1) _ _ out [(e2 : Int)] rfl rfl (World.ownsRow.alloc (unhide HBb).2.2.2.1 _) (OwnI.ints (own_lit WB 0 _ 1 [(e2 : Int)] rfl rfl (by omega) (by simp))) (out.length + 1) (by simp) (by omega) (by simp; omega) ?_)
              intro a6 c6 w6 hown6 hb6 hgr6
              have hl6 : (out ++ [(e2 : Int)]).length = out.length + 1 := by simp
              have hbA : Below (NB + 1) WB w6 := ((Below.refl (NB + 1) WB).alloc (by omega) _).trans hb6
              have hs6 := hbA.size
              have HFn : Hid (Below (w.heap.size + 1) W1 w6 ∧ Us w6 G (m * 2) f ∧ w6.heap[NB]? = some (.cells #[.bool false, .bool false] 50) ∧ OwnI w6 (NB + 1) (.slice a6 (out.length + 1) c6) (out ++ [(e2 : Int)])) := hide ⟨(unhide HBb).1.trans (hbA.mono (by omega)), (unhide HBb).2.1.of_block (hbA.block _ (by omega)), (hbA.block NB (by omega)).trans (unhide HBb).2.2.1, hown6⟩
              clear hown6 hb6 hgr6 hbA HBb
              go_wp2
              go_roundg g'
              case rel => exact ⟨e + 1, out ++ [(e2 : Int)], a6, c6, by omega, by rw [hl6], by go_num, by omega, by omega, by rw [hl6]; exact HFn, HL2⟩
              case measure => omega
            · have HL2 : Hid (Sp.leftL q U = Sp.leftGo U g' (e + 1) out) := hide (unhide HLs)
              clear HLs
              go_wp2
              go_roundg g'
              case rel => exact ⟨e + 1, out, oa, oc, by omega, rfl, by go_num, by omega, by have := (unhide HB (.cells #[.bool false, .bool true] 50)).2.2.2.2; omega, hide ⟨(unhide HB _).1, (unhide HB _).2.1, (unhide HB _).2.2.1, (unhide HB _).2.2.2.1⟩, HL2⟩
              case measure => omega
          · have HL2 : Hid (Sp.leftL q U = Sp.leftGo U g' (e + 1) out) := hide (unhide HLs)
            clear HLs
            cases b1
            all_goals
              go_wp2
              go_roundg g'
              case rel => exact ⟨e + 1, out, oa, oc, by omega, rfl, by go_num, by omega, by have := fun o => (unhide HB o).2.2.2.2; exact Nat.le_trans (by omega) (this _), hide ⟨(unhide HB _).1, (unhide HB _).2.1, (unhide HB _).2.2.1, (unhide HB _).2.2.2.1⟩, HL2⟩
              case measure => omega
        · have heI : ¬ (e : Int) < (m : Int) := by omega
          obtain rfl : gk = 0 := by omega
          have HF : Hid (Sp.leftL q U = out ∧ OwnI wr w.heap.size (.slice oa out.length oc) out ∧ Below w.heap.size w wr) := hide ⟨unhide HL, own_base (unhide HI).2.2.2 (by omega), unhide HW _ (unhide HI).1⟩
          clear HI HL
          go_wp2
          rw [unhide HP]
          exact ⟨_, rfl, by rw [(unhide HF).1]; exact (unhide HF).2.1, (unhide HF).2.2⟩
end Go.Proofs.Ytenffkplneimlab


/- append of a row of ints onto a row of the call's own: where the new one lies. -/
namespace Go.Proofs.Ytenffkplneimlab
open Go Go.RowKit

set_option maxRecDepth 100000 in
theorem run_app2 {w : World} {B : Nat} {v x : Value} {l1 l2 : List Int} (ty : TypeId) (hown : OwnI w B v l1) (hx : Ints w x l2) (n : Nat) (hn : l1.length + l2.length = n) (hlen : n ≤ 1000000) (hB : B ≤ w.heap.size) :
    ∃ a' c' w', (Builtin.append_ #[22, 22] ty #[v, x]).run Try.prog w = .ok (.slice a' n c') w' ∧ OwnI w' B (.slice a' n c') (l1 ++ l2) ∧ Below B w w' ∧ w.grownBy w' v.ownBlock ∧ ((Value.slice a' n c').ownBlock = v.ownBlock ∨ (Value.slice a' n c').ownBlock = some w.heap.size) := by
  subst hn
  obtain ⟨i0, hi, hz0, hz1, hz2⟩ := info_parts info3
  have fin : ∀ v' w', OwnI w' B v' (l1 ++ l2) → ∃ a' c', v' = .slice a' (l1.length + l2.length) c' := fun v' w' h => by
    obtain ⟨a, c, e, _⟩ := h.ints
    exact ⟨a, c, by rw [e]; simp⟩
  obtain ⟨a, c, rfl, hc, hm, hcell⟩ := hx
  cases a with
  | none =>
    have hl2 : l2 = [] := by
      cases l2 with
      | nil => rfl
      | cons y r => obtain ⟨b, o, h, _⟩ := hcell 0 (by simp); cases h
    subst hl2
    have hr : (Builtin.append_ #[22, 22] ty #[v, .slice none 0 c]).run Try.prog w = .ok v w := by
      rcases hown.2 with ⟨rfl, h⟩ | ⟨g, cap, cur, rfl, _, _, hnc, _⟩
      · simp [Builtin.append_, run_underlying Try.underlying22, sizeOf, typeInfo, hi, Builtin.lenOf, Builtin.firstCells]
      · simp [Builtin.append_, run_underlying Try.underlying22, sizeOf, typeInfo, hi, Builtin.lenOf, Builtin.firstCells, hnc, storeCells]
    have h2 : OwnI w B v (l1 ++ []) := by simpa using hown
    obtain ⟨a', c', rfl⟩ := fin v w h2
    exact ⟨a', c', w, hr, h2, Below.refl _ _, ⟨rfl, rfl, rfl, Nat.le_refl _, fun _ _ _ => rfl⟩, .inl rfl⟩
  | some ad =>
    obtain ⟨v', w', h1, h2, h3, h4, h5⟩ := run_append_own_at (P := Try.prog) w B 22 ty 3 i0 (.int .i64 0) 1 8 Try.underlying22 hi hz0 hz1 hz2 rfl (by decide) v l1.length (l1.map (Value.int .i64)) hown ad l2.length c (l2.map (Value.int .i64)) (by simp)
      (fun j u hj => by
        rw [List.getElem?_map, Option.map_eq_some_iff] at hj
        obtain ⟨y, hy, rfl⟩ := hj
        obtain ⟨hjl, rfl⟩ := List.getElem?_eq_some_iff.1 hy
        obtain ⟨b, o, e, _, hcl⟩ := hcell j hjl
        injection e with e
        subst e
        have e2 : (⟨b, o, none⟩ : Addr).add j = ⟨b, o + j, none⟩ := by unfold Addr.add; split <;> simp_all
        rw [e2]; exact hcl)
      (fun u hu => by obtain ⟨y, _, rfl⟩ := List.mem_map.1 hu; rfl) (by unfold maxLen; omega) (by omega) hB
    have h2' : OwnI w' B v' (l1 ++ l2) := by unfold OwnI; simpa using h2
    obtain ⟨a', c', rfl⟩ := fin v' w' h2'
    exact ⟨a', c', w', h1, h2', (Below.refl B w).grown h3 hB fun k hk => (hown.lt k hk).1, h3, h5⟩
/-- append, with where the new row lies: in the old one's block, or in a block that was not there. -/
theorem wp_app2 {w : World} {o : Oper} {a : Act} {K : Act → World → Prop} {Q : Exit → Act → World → Prop} (s x : Operand)
    (ho : o.op = .call { callee := .builtin .append, args := #[s, x], argTypes := #[22, 22] })
    (B : Nat) (v xv : Value) (l1 l2 : List Int) (hs : a.eval s = v) (hx' : a.eval x = xv) (hown : OwnI w B v l1) (hx : Ints w xv l2) (n : Nat) (hn : l1.length + l2.length = n) (hlen : n ≤ 1000000) (hB : B ≤ w.heap.size)
    (h : ∀ a' c' w', OwnI w' B (.slice a' n c') (l1 ++ l2) → Below B w w' → w.grownBy w' v.ownBlock → ((Value.slice a' n c').ownBlock = v.ownBlock ∨ (Value.slice a' n c').ownBlock = some w.heap.size) → K (a.put o.dst (.slice a' n c')) w') : o.wp Try.prog a w K Q := by
  obtain ⟨a', c', w', hr, h2, h3, h4, h5⟩ := run_app2 o.type hown hx n hn hlen hB
  unfold Oper.wp execOp
  simp only [ho, resolve, invoke, builtin, Sem.run_bind, Sem.run_pure, Result.andThen_ok, List.map_toArray, List.map_cons, List.map_nil, hs, hx', hr]
  exact h a' c' w' h2 h3 h4 h5
end Go.Proofs.Ytenffkplneimlab


