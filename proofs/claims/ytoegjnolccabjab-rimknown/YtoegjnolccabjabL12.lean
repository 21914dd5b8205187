/- What the proof needs, part 12. -/
import Derived.WalkMore
import Derived.Lib.SliceRun
import Derived.Deep.WholeRow
import Derived.KernelRfl
import Derived.Test.YtoegjnolccabjabL11
/- Package heap: sink. -/
namespace Go.Proofs.Ytoegjnolccabjab
open Go Go.RowKit

set_option maxRecDepth 100000 in
set_option maxHeartbeats 8000000 in
theorem sink_any (z : Nat → Int) (M : Nat → Option Int) (b n f k : Nat) (r : Int) (w : World) (h : HpAt w b z) (hi : Sp.HoI z M n f k r) (hu : 0 < f → Sp.aheadB (k : Int) r (z ((f - 1) / 2 * 2)) (z ((f - 1) / 2 * 2 + 1)) = false) :
    Calls Try.prog 94 #[.pointer (some ⟨b, 0, none⟩), .int .i64 (f : Int), .agg #[.int .i64 (k : Int), .int .i64 r]] w fun e w' => ∃ (f' : Nat) (z' : Nat → Int), e = .returned (.int .i64 (f' : Int)) ∧ But b w w' ∧ HpAt w' b z' ∧ Sp.HoI z' M n f' k r ∧ Sp.Up n z z' ∧ (0 < f' → Sp.aheadB (k : Int) r (z' ((f' - 1) / 2 * 2)) (z' ((f' - 1) / 2 * 2 + 1)) = false) ∧ (∀ i, 0 < i → i < n → (i - 1) / 2 = f' → Sp.aheadB (z' (i * 2)) (z' (i * 2 + 1)) (k : Int) r = false) := by
  have hb := h.lt
  have hfn := hi.fn
  have hnl := hi.le
  have HI0 : Hid (But b (w.alloc (.cells #[.int .i64 (k : Int), .int .i64 r] 98)) (w.alloc (.cells #[.int .i64 (k : Int), .int .i64 r] 98)) ∧ HpAt (w.alloc (.cells #[.int .i64 (k : Int), .int .i64 r] 98)) b z ∧ Sp.HoI z M n f k r ∧ Sp.Up n z z ∧ (0 < f → Sp.aheadB (k : Int) r (z ((f - 1) / 2 * 2)) (z ((f - 1) / 2 * 2 + 1)) = false)) := hide ⟨But.refl _ _, h.alloc _, hi, Sp.Up.refl _ _, hu⟩
  have HX : Hid (∀ wr, But b (w.alloc (.cells #[.int .i64 (k : Int), .int .i64 r] 98)) wr → wr.cell? ⟨w.heap.size, 0, none⟩ = some (.int .i64 (k : Int)) ∧ wr.cell? ⟨w.heap.size, 1, none⟩ = some (.int .i64 r) ∧ But b w wr) := hide fun wr hw => by
    obtain ⟨x0, x1⟩ := item_new w (.int .i64 (k : Int)) (.int .i64 r)
    exact ⟨(hw.cell (by simp) (by show w.heap.size ≠ b; omega)).trans x0, (hw.cell (by simp) (by show w.heap.size ≠ b; omega)).trans x1, ((But.refl b w).alloc _).trans hw⟩
  obtain ⟨P, hP⟩ : ∃ P : Ending → World → Prop, P = fun e w' => ∃ (f' : Nat) (z' : Nat → Int), e = .returned (.int .i64 (f' : Int)) ∧ But b w w' ∧ HpAt w' b z' ∧ Sp.HoI z' M n f' k r ∧ Sp.Up n z z' ∧ (0 < f' → Sp.aheadB (k : Int) r (z' ((f' - 1) / 2 * 2)) (z' ((f' - 1) / 2 * 2 + 1)) = false) ∧ (∀ i, 0 < i → i < n → (i - 1) / 2 = f' → Sp.aheadB (z' (i * 2)) (z' (i * 2 + 1)) (k : Int) r = false) := ⟨_, rfl⟩
  rw [← hP]
  have HP := hide hP
  clear hP h hi hu
  go_enter Try.func94, Try.ntmps94
  go_wp2
  generalize w.alloc (.cells #[.int .i64 (k : Int), .int .i64 r] 98) = W1 at *
  go_step3
  go_wp2
  go_step3
  go_wp2
  go_loopg [1] (n - f) (fun g s1 wr => ∃ (f : Nat) (z' : Nat → Int), n ≤ f + g ∧ f < n ∧ s1 = .int .i64 (f : Int) ∧ Hid (But b W1 wr ∧ HpAt wr b z' ∧ Sp.HoI z' M n f k r ∧ Sp.Up n z z' ∧ (0 < f → Sp.aheadB (k : Int) r (z' ((f - 1) / 2 * 2)) (z' ((f - 1) / 2 * 2 + 1)) = false)))
  case atStart => exact ⟨f, z, by omega, hfn, rfl, HI0⟩
  case round =>
    clear HI0 hfn
    clear f
    obtain ⟨f, z', hfg, hfn, rfl, HI⟩ := hrel
    obtain ⟨x0, x1, hbw⟩ := unhide HX wr (unhide HI).1
    have HBW := hide hbw
    clear hbw
    obtain ⟨c, hc⟩ : ∃ c, 2 * f + 1 = c := ⟨_, rfl⟩
    have hq1 : 2 * (f : Int) + 1 = (c : Int) := by omega
    have m0 := (unhide HI).2.1.cell (j := 600) (by omega)
    rw [(unhide HI).2.2.1.many] at m0
    have HC0 := hide hc
    by_cases hcn : n ≤ c
    · have hcnI : (n : Int) ≤ (c : Int) := by omega
      have HF : Hid (But b w wr ∧ HpAt wr b z' ∧ Sp.HoI z' M n f k r ∧ Sp.Up n z z' ∧ (0 < f → Sp.aheadB (k : Int) r (z' ((f - 1) / 2 * 2)) (z' ((f - 1) / 2 * 2 + 1)) = false)) := hide ⟨unhide HBW, (unhide HI).2⟩
      clear hc HI
      go_wp2
      rw [unhide HP]
      exact ⟨f, z', rfl, (unhide HF).1, (unhide HF).2.1, (unhide HF).2.2.1, (unhide HF).2.2.2.1, (unhide HF).2.2.2.2, fun i h0 hi hp => by have := unhide HC0; omega⟩
    · obtain ⟨d, hd⟩ : ∃ d, c + 1 = d := ⟨_, rfl⟩
      have hq2 : (c : Int) + 1 = (d : Int) := by omega
      have hwd : IntKind.i64.wrap (d : Int) = (d : Int) := by rw [IntKind.wrap_i64]; omega
      have HD0 := hide hd
      have hcnI : (c : Int) < (n : Int) := by omega
      obtain ⟨kc, hkc, hkk, hzc, -, -⟩ := (unhide HI).2.2.1.it c (by omega) (by omega)
      have c0 := (unhide HI).2.1.cell (j := c * 2) (by omega)
      have c1 := (unhide HI).2.1.cell (j := c * 2 + 1) (by omega)
      rw [hzc] at c0
      have hbl := (unhide HI).2.1.lt
      have hwl : w.heap.size < wr.heap.size := hcell_lt x0
      have hbr : Below wr.heap.size wr wr.drew := (Below.refl _ _).drew
      by_cases hdn : n ≤ d
      · have hdnI : decide ((d : Int) < (n : Int)) = false := decide_eq_false (by omega)
        have hdnN : decide (d < n) = false := decide_eq_false (by omega)
        have hmin : ∀ i, 0 < i → i < n → (i - 1) / 2 = f → Sp.ah z' i c = false := fun i h0 hi hp => by
          obtain rfl : i = c := by omega
          unfold Sp.ah; rw [Sp.ahead_no]; omega
        have HC : Hid (∀ w', Below wr.heap.size wr w' → w'.cell? ⟨w.heap.size, 0, none⟩ = some (.int .i64 (k : Int)) ∧ w'.cell? ⟨w.heap.size, 1, none⟩ = some (.int .i64 r) ∧ w'.cell? ⟨b, c * 2, none⟩ = some (.int .i64 (kc : Int)) ∧ w'.cell? ⟨b, c * 2 + 1, none⟩ = some (.int .i64 (z' (c * 2 + 1)))) := hide fun w' hb => ⟨(hb.cell hwl).trans x0, (hb.cell hwl).trans x1, (hb.cell hbl).trans c0, (hb.cell hbl).trans c1⟩
        have HE := hide (And.intro hmin (And.intro hzc hkc))
        have HN : Hid ((c - 1) / 2 = f ∧ 0 < c) := hide (by omega)
        obtain ⟨rc, hrc⟩ : ∃ rc, z' (c * 2 + 1) = rc := ⟨_, rfl⟩
        rw [hrc] at HC
        have HRC := hide hrc
        clear hmin hrc hzc hc hd c0 c1 x0 x1 hdn hcn hkk
        have hcI : (c : Int) < 300 := by omega
        go_upto_region 3 with fail
        go_quiet (fail)
        clear m0
        have hbq : Below wr.heap.size wr (wr.drewN nq) := ⟨rfl, rfl, rfl, Nat.le_refl _, fun _ _ => rfl⟩
        generalize wr.drewN nq = wq at *
        have HG : Hid (∀ w', Below wr.heap.size wr w' → w'.cell? ⟨w.heap.size, 0, none⟩ = some (.int .i64 (k : Int)) ∧ w'.cell? ⟨w.heap.size, 1, none⟩ = some (.int .i64 r) ∧ w'.cell? ⟨b, c * 2, none⟩ = some (.int .i64 (kc : Int)) ∧ w'.cell? ⟨b, c * 2 + 1, none⟩ = some (.int .i64 rc)) := hide fun w' hb => unhide HC _ hb
        have hbW : Below wr.heap.size wr wq.drew := hbq.drew
        clear HC
        by_cases hR : Sp.aheadB (kc : Int) rc (k : Int) r = true
        · obtain ⟨g', rfl⟩ : ∃ g', gk = g' + 1 := ⟨gk - 1, by omega⟩
          have HA := hide (show ∀ w', Calls Try.prog 96 #[.agg #[.int .i64 (kc : Int), .int .i64 rc], .agg #[.int .i64 (k : Int), .int .i64 r]] w' fun e w'' => e = .returned (.bool true) ∧ Below w'.heap.size w' w'' from fun w' => by have := ahead_any (kc : Int) rc (k : Int) r w'; rw [hR] at this; exact this)
          have HR := hide hR
          clear hR
          go_upto_region 5 with fail
          go_region_held3 (fun w' => w'.cell? ⟨w.heap.size, 0, none⟩ = some (.int .i64 (k : Int)) ∧ w'.cell? ⟨w.heap.size, 1, none⟩ = some (.int .i64 r) ∧ w'.cell? ⟨b, c * 2, none⟩ = some (.int .i64 (kc : Int)) ∧ w'.cell? ⟨b, c * 2 + 1, none⟩ = some (.int .i64 rc))
            (first
              | exact unhide HG _ hb9
              | exact unhide HG _ hbW)
            (first
              | (go_at_call 96
                 refine (unhide HA _).mono ?_
                 rintro e w9 ⟨rfl, hl9⟩
                 have hb9 : Below wr.heap.size wr w9 := hbW.trans (hl9.mono hbW.size)))
          all_goals
            obtain ⟨x0, x1, e0, e1⟩ := unhide HG _ hb9
            go_wp2_with fail
            refine (stand_any z' b f kc rc w9 ((unhide HI).2.1.below hb9) (by omega) (unhide HE).2.2).mono ?_
            rintro e w10 ⟨rfl, hbut9, hat9⟩
            have hN := ((unhide HI).2.2.1).sink (c := c) (kc := kc) (unhide HN).2 (by omega) (unhide HN).1 (unhide HE).2.1 (unhide HE).1
            rw [unhide HRC] at hN
            have HF : Hid (But b W1 w10 ∧ HpAt w10 b (Sp.stand z' f kc rc) ∧ Sp.HoI (Sp.stand z' f kc rc) M n c k r ∧ Sp.Up n z (Sp.stand z' f kc rc) ∧ (0 < c → Sp.aheadB (k : Int) r (Sp.stand z' f kc rc ((c - 1) / 2 * 2)) (Sp.stand z' f kc rc ((c - 1) / 2 * 2 + 1)) = false)) := hide ⟨((unhide HI).1.trans (But.of hb9)).trans hbut9, hat9, hN.1, (unhide HI).2.2.2.1.trans (Sp.Up.stand _ _ _ _ hfn), fun _ => by
              have hR := unhide HR
              rw [(unhide HN).1, Sp.stand_key _ _ _ _ _ (by omega), Sp.stand_rank _ _ _ _ _ (by omega), if_pos rfl, if_pos rfl, Sp.ahead_no]
              rw [Sp.ahead_yes] at hR
              omega⟩
            clear hbut9 hat9 hN HI HG x0 x1 e0 e1
            go_wp2
            go_roundg g'
            case rel => exact ⟨c, _, by have := unhide HN; omega, by omega, rfl, HF⟩
            case measure => omega
        · have hR' : Sp.aheadB (kc : Int) rc (k : Int) r = false := by simpa using hR
          have HA := hide (show ∀ w', Calls Try.prog 96 #[.agg #[.int .i64 (kc : Int), .int .i64 rc], .agg #[.int .i64 (k : Int), .int .i64 r]] w' fun e w'' => e = .returned (.bool false) ∧ Below w'.heap.size w' w'' from fun w' => by have := ahead_any (kc : Int) rc (k : Int) r w'; rw [hR'] at this; exact this)
          have HR := hide hR'
          clear hR hR'
          go_upto_region 5 with fail
          go_region_held3 (fun w' => w'.cell? ⟨w.heap.size, 0, none⟩ = some (.int .i64 (k : Int)) ∧ w'.cell? ⟨w.heap.size, 1, none⟩ = some (.int .i64 r) ∧ w'.cell? ⟨b, c * 2, none⟩ = some (.int .i64 (kc : Int)) ∧ w'.cell? ⟨b, c * 2 + 1, none⟩ = some (.int .i64 rc))
            (first
              | exact unhide HG _ hb9
              | exact unhide HG _ hbW)
            (first
              | (go_at_call 96
                 refine (unhide HA _).mono ?_
                 rintro e w9 ⟨rfl, hl9⟩
                 have hb9 : Below wr.heap.size wr w9 := hbW.trans (hl9.mono hbW.size)))
          all_goals
            have HF : Hid (But b w w9 ∧ HpAt w9 b z' ∧ Sp.HoI z' M n f k r ∧ Sp.Up n z z' ∧ (0 < f → Sp.aheadB (k : Int) r (z' ((f - 1) / 2 * 2)) (z' ((f - 1) / 2 * 2 + 1)) = false)) := hide ⟨(unhide HBW).trans (But.of hb9), (unhide HI).2.1.below hb9, (unhide HI).2.2⟩
            clear HG HI
            go_wp2
            rw [unhide HP]
            exact ⟨f, z', rfl, (unhide HF).1, (unhide HF).2.1, (unhide HF).2.2.1, (unhide HF).2.2.2.1, (unhide HF).2.2.2.2, fun i h0 hi hp => by
              have h1 := (unhide HE).1 i h0 hi hp
              have h2 := unhide HR
              unfold Sp.ah at h1
              rw [(unhide HE).2.1, unhide HRC] at h1
              rw [Sp.ahead_no] at *
              omega⟩
      · have hdnI : (d : Int) < (n : Int) := by omega
        obtain ⟨kd, hkd, hkk', hzd, -, -⟩ := (unhide HI).2.2.1.it d (by omega) (by omega)
        have d0 := (unhide HI).2.1.cell (j := d * 2) (by omega)
        have d1 := (unhide HI).2.1.cell (j := d * 2 + 1) (by omega)
        rw [hzd] at d0
        have HC : Hid (∀ w', Below wr.heap.size wr w' → w'.cell? ⟨b, 600, none⟩ = some (.int .i64 (n : Int)) ∧ w'.cell? ⟨w.heap.size, 0, none⟩ = some (.int .i64 (k : Int)) ∧ w'.cell? ⟨w.heap.size, 1, none⟩ = some (.int .i64 r) ∧ w'.cell? ⟨b, c * 2, none⟩ = some (.int .i64 (kc : Int)) ∧ w'.cell? ⟨b, c * 2 + 1, none⟩ = some (.int .i64 (z' (c * 2 + 1))) ∧ w'.cell? ⟨b, d * 2, none⟩ = some (.int .i64 (kd : Int)) ∧ w'.cell? ⟨b, d * 2 + 1, none⟩ = some (.int .i64 (z' (d * 2 + 1)))) := hide fun w' hb => ⟨(hb.cell hbl).trans m0, (hb.cell hwl).trans x0, (hb.cell hwl).trans x1, (hb.cell hbl).trans c0, (hb.cell hbl).trans c1, (hb.cell hbl).trans d0, (hb.cell hbl).trans d1⟩
        by_cases hT : Sp.aheadB (kd : Int) (z' (d * 2 + 1)) (kc : Int) (z' (c * 2 + 1)) = true
        · have hmin : ∀ i, 0 < i → i < n → (i - 1) / 2 = f → Sp.ah z' i d = false := fun i h0 hi hp => by
            have hi2 : i = c ∨ i = d := by omega
            rw [Sp.ahead_yes] at hT
            unfold Sp.ah; rw [Sp.ahead_no]
            rcases hi2 with rfl | rfl
            · rw [hzc, hzd]; omega
            · omega
          have HE := hide (And.intro hmin (And.intro hzd hkd))
          have HN : Hid ((d - 1) / 2 = f ∧ 0 < d) := hide (by omega)
          have HA1 := hide (show ∀ w', Calls Try.prog 96 #[.agg #[.int .i64 (kd : Int), .int .i64 (z' (d * 2 + 1))], .agg #[.int .i64 (kc : Int), .int .i64 (z' (c * 2 + 1))]] w' fun e w'' => e = .returned (.bool true) ∧ Below w'.heap.size w' w'' from fun w' => by have := ahead_any (kd : Int) (z' (d * 2 + 1)) (kc : Int) (z' (c * 2 + 1)) w'; rw [hT] at this; exact this)
          clear hT  hmin hzc hzd hc hd c0 c1 d0 d1 x0 x1 hdn hcn hkk hkk'
          obtain ⟨rc, hrc⟩ : ∃ rc, z' (c * 2 + 1) = rc := ⟨_, rfl⟩
          obtain ⟨rd, hrd⟩ : ∃ rd, z' (d * 2 + 1) = rd := ⟨_, rfl⟩
          rw [hrc, hrd] at HC HA1
          have HRC := hide hrc
          have HRD := hide hrd
          clear hrc hrd
          have hcI : (c : Int) < 300 := by omega
          have hdI : (d : Int) < 300 := by omega
          go_upto_region 3 with fail
          clear m0
          go_region_held3 (fun w' => w'.cell? ⟨b, 600, none⟩ = some (.int .i64 (n : Int)) ∧ w'.cell? ⟨b, c * 2, none⟩ = some (.int .i64 (kc : Int)) ∧ w'.cell? ⟨b, c * 2 + 1, none⟩ = some (.int .i64 rc) ∧ w'.cell? ⟨b, d * 2, none⟩ = some (.int .i64 (kd : Int)) ∧ w'.cell? ⟨b, d * 2 + 1, none⟩ = some (.int .i64 rd))
            (first
              | exact ⟨(unhide HC _ hb8).1, (unhide HC _ hb8).2.2.2⟩
              | exact ⟨(unhide HC _ hbr).1, (unhide HC _ hbr).2.2.2⟩)
            (first
              | (go_at_call 96
                 refine (unhide HA1 _).mono ?_
                 rintro e w8 ⟨rfl, hl8⟩
                 have hb8 : Below wr.heap.size wr w8 := hbr.trans hl8))
          all_goals
            have HG : Hid (∀ w', Below wr.heap.size wr w' → w'.cell? ⟨w.heap.size, 0, none⟩ = some (.int .i64 (k : Int)) ∧ w'.cell? ⟨w.heap.size, 1, none⟩ = some (.int .i64 r) ∧ w'.cell? ⟨b, d * 2, none⟩ = some (.int .i64 (kd : Int)) ∧ w'.cell? ⟨b, d * 2 + 1, none⟩ = some (.int .i64 rd)) := hide fun w' hb => ⟨(unhide HC _ hb).2.1, (unhide HC _ hb).2.2.1, (unhide HC _ hb).2.2.2.2.2⟩
            have hbW : Below wr.heap.size wr w8.drew := hb8.drew
            clear HC
            by_cases hR : Sp.aheadB (kd : Int) rd (k : Int) r = true
            · obtain ⟨g', rfl⟩ : ∃ g', gk = g' + 1 := ⟨gk - 1, by omega⟩
              have HA := hide (show ∀ w', Calls Try.prog 96 #[.agg #[.int .i64 (kd : Int), .int .i64 rd], .agg #[.int .i64 (k : Int), .int .i64 r]] w' fun e w'' => e = .returned (.bool true) ∧ Below w'.heap.size w' w'' from fun w' => by have := ahead_any (kd : Int) rd (k : Int) r w'; rw [hR] at this; exact this)
              have HR := hide hR
              clear hR
              go_upto_region 5 with fail
              go_region_held3 (fun w' => w'.cell? ⟨w.heap.size, 0, none⟩ = some (.int .i64 (k : Int)) ∧ w'.cell? ⟨w.heap.size, 1, none⟩ = some (.int .i64 r) ∧ w'.cell? ⟨b, d * 2, none⟩ = some (.int .i64 (kd : Int)) ∧ w'.cell? ⟨b, d * 2 + 1, none⟩ = some (.int .i64 rd))
                (first
                  | exact unhide HG _ hb9
                  | exact unhide HG _ hbW)
                (first
                  | (go_at_call 96
                     refine (unhide HA _).mono ?_
                     rintro e w9 ⟨rfl, hl9⟩
                     have hb9 : Below wr.heap.size wr w9 := hbW.trans (hl9.mono hbW.size)))
              all_goals
                obtain ⟨x0, x1, e0, e1⟩ := unhide HG _ hb9
                go_wp2_with fail
                refine (stand_any z' b f kd rd w9 ((unhide HI).2.1.below hb9) (by omega) (unhide HE).2.2).mono ?_
                rintro e w10 ⟨rfl, hbut9, hat9⟩
                have hN := ((unhide HI).2.2.1).sink (c := d) (kc := kd) (unhide HN).2 (by omega) (unhide HN).1 (unhide HE).2.1 (unhide HE).1
                rw [unhide HRD] at hN
                have HF : Hid (But b W1 w10 ∧ HpAt w10 b (Sp.stand z' f kd rd) ∧ Sp.HoI (Sp.stand z' f kd rd) M n d k r ∧ Sp.Up n z (Sp.stand z' f kd rd) ∧ (0 < d → Sp.aheadB (k : Int) r (Sp.stand z' f kd rd ((d - 1) / 2 * 2)) (Sp.stand z' f kd rd ((d - 1) / 2 * 2 + 1)) = false)) := hide ⟨((unhide HI).1.trans (But.of hb9)).trans hbut9, hat9, hN.1, (unhide HI).2.2.2.1.trans (Sp.Up.stand _ _ _ _ hfn), fun _ => by
                  have hR := unhide HR
                  rw [(unhide HN).1, Sp.stand_key _ _ _ _ _ (by omega), Sp.stand_rank _ _ _ _ _ (by omega), if_pos rfl, if_pos rfl, Sp.ahead_no]
                  rw [Sp.ahead_yes] at hR
                  omega⟩
                clear hbut9 hat9 hN HI HG x0 x1 e0 e1
                go_wp2
                go_roundg g'
                case rel => exact ⟨d, _, by have := unhide HN; omega, by omega, rfl, HF⟩
                case measure => omega
            · have hR' : Sp.aheadB (kd : Int) rd (k : Int) r = false := by simpa using hR
              have HA := hide (show ∀ w', Calls Try.prog 96 #[.agg #[.int .i64 (kd : Int), .int .i64 rd], .agg #[.int .i64 (k : Int), .int .i64 r]] w' fun e w'' => e = .returned (.bool false) ∧ Below w'.heap.size w' w'' from fun w' => by have := ahead_any (kd : Int) rd (k : Int) r w'; rw [hR'] at this; exact this)
              have HR := hide hR'
              clear hR hR'
              go_upto_region 5 with fail
              go_region_held3 (fun w' => w'.cell? ⟨w.heap.size, 0, none⟩ = some (.int .i64 (k : Int)) ∧ w'.cell? ⟨w.heap.size, 1, none⟩ = some (.int .i64 r) ∧ w'.cell? ⟨b, d * 2, none⟩ = some (.int .i64 (kd : Int)) ∧ w'.cell? ⟨b, d * 2 + 1, none⟩ = some (.int .i64 rd))
                (first
                  | exact unhide HG _ hb9
                  | exact unhide HG _ hbW)
                (first
                  | (go_at_call 96
                     refine (unhide HA _).mono ?_
                     rintro e w9 ⟨rfl, hl9⟩
                     have hb9 : Below wr.heap.size wr w9 := hbW.trans (hl9.mono hbW.size)))
              all_goals
                have HF : Hid (But b w w9 ∧ HpAt w9 b z' ∧ Sp.HoI z' M n f k r ∧ Sp.Up n z z' ∧ (0 < f → Sp.aheadB (k : Int) r (z' ((f - 1) / 2 * 2)) (z' ((f - 1) / 2 * 2 + 1)) = false)) := hide ⟨(unhide HBW).trans (But.of hb9), (unhide HI).2.1.below hb9, (unhide HI).2.2⟩
                clear HG HI
                go_wp2
                rw [unhide HP]
                exact ⟨f, z', rfl, (unhide HF).1, (unhide HF).2.1, (unhide HF).2.2.1, (unhide HF).2.2.2.1, (unhide HF).2.2.2.2, fun i h0 hi hp => by
                  have h1 := (unhide HE).1 i h0 hi hp
                  have h2 := unhide HR
                  unfold Sp.ah at h1
                  rw [(unhide HE).2.1, unhide HRD] at h1
                  rw [Sp.ahead_no] at *
                  omega⟩
        · have hT' : Sp.aheadB (kd : Int) (z' (d * 2 + 1)) (kc : Int) (z' (c * 2 + 1)) = false := by simpa using hT
          have hmin : ∀ i, 0 < i → i < n → (i - 1) / 2 = f → Sp.ah z' i c = false := fun i h0 hi hp => by
            have hi2 : i = c ∨ i = d := by omega
            unfold Sp.ah
            rcases hi2 with rfl | rfl
            · rw [Sp.ahead_no]; omega
            · rw [hzc, hzd]; exact hT'
          have HE := hide (And.intro hmin (And.intro hzc hkc))
          have HN : Hid ((c - 1) / 2 = f ∧ 0 < c) := hide (by omega)
          have HA1 := hide (show ∀ w', Calls Try.prog 96 #[.agg #[.int .i64 (kd : Int), .int .i64 (z' (d * 2 + 1))], .agg #[.int .i64 (kc : Int), .int .i64 (z' (c * 2 + 1))]] w' fun e w'' => e = .returned (.bool false) ∧ Below w'.heap.size w' w'' from fun w' => by have := ahead_any (kd : Int) (z' (d * 2 + 1)) (kc : Int) (z' (c * 2 + 1)) w'; rw [hT'] at this; exact this)
          clear hT hT' hmin hzc hzd hc hd c0 c1 d0 d1 x0 x1 hdn hcn hkk hkk'
          obtain ⟨rc, hrc⟩ : ∃ rc, z' (c * 2 + 1) = rc := ⟨_, rfl⟩
          obtain ⟨rd, hrd⟩ : ∃ rd, z' (d * 2 + 1) = rd := ⟨_, rfl⟩
          rw [hrc, hrd] at HC HA1
          have HRC := hide hrc
          have HRD := hide hrd
          clear hrc hrd
          have hcI : (c : Int) < 300 := by omega
          have hdI : (d : Int) < 300 := by omega
          go_upto_region 3 with fail
          clear m0
          go_region_held3 (fun w' => w'.cell? ⟨b, 600, none⟩ = some (.int .i64 (n : Int)) ∧ w'.cell? ⟨b, c * 2, none⟩ = some (.int .i64 (kc : Int)) ∧ w'.cell? ⟨b, c * 2 + 1, none⟩ = some (.int .i64 rc) ∧ w'.cell? ⟨b, d * 2, none⟩ = some (.int .i64 (kd : Int)) ∧ w'.cell? ⟨b, d * 2 + 1, none⟩ = some (.int .i64 rd))
            (first
              | exact ⟨(unhide HC _ hb8).1, (unhide HC _ hb8).2.2.2⟩
              | exact ⟨(unhide HC _ hbr).1, (unhide HC _ hbr).2.2.2⟩)
            (first
              | (go_at_call 96
                 refine (unhide HA1 _).mono ?_
                 rintro e w8 ⟨rfl, hl8⟩
                 have hb8 : Below wr.heap.size wr w8 := hbr.trans hl8))
          all_goals
            have HG : Hid (∀ w', Below wr.heap.size wr w' → w'.cell? ⟨w.heap.size, 0, none⟩ = some (.int .i64 (k : Int)) ∧ w'.cell? ⟨w.heap.size, 1, none⟩ = some (.int .i64 r) ∧ w'.cell? ⟨b, c * 2, none⟩ = some (.int .i64 (kc : Int)) ∧ w'.cell? ⟨b, c * 2 + 1, none⟩ = some (.int .i64 rc)) := hide fun w' hb => ⟨(unhide HC _ hb).2.1, (unhide HC _ hb).2.2.1, (unhide HC _ hb).2.2.2.1, (unhide HC _ hb).2.2.2.2.1⟩
            have hbW : Below wr.heap.size wr w8.drew := hb8.drew
            clear HC
            by_cases hR : Sp.aheadB (kc : Int) rc (k : Int) r = true
            · obtain ⟨g', rfl⟩ : ∃ g', gk = g' + 1 := ⟨gk - 1, by omega⟩
              have HA := hide (show ∀ w', Calls Try.prog 96 #[.agg #[.int .i64 (kc : Int), .int .i64 rc], .agg #[.int .i64 (k : Int), .int .i64 r]] w' fun e w'' => e = .returned (.bool true) ∧ Below w'.heap.size w' w'' from fun w' => by have := ahead_any (kc : Int) rc (k : Int) r w'; rw [hR] at this; exact this)
              have HR := hide hR
              clear hR
              go_upto_region 5 with fail
              go_region_held3 (fun w' => w'.cell? ⟨w.heap.size, 0, none⟩ = some (.int .i64 (k : Int)) ∧ w'.cell? ⟨w.heap.size, 1, none⟩ = some (.int .i64 r) ∧ w'.cell? ⟨b, c * 2, none⟩ = some (.int .i64 (kc : Int)) ∧ w'.cell? ⟨b, c * 2 + 1, none⟩ = some (.int .i64 rc))
                (first
                  | exact unhide HG _ hb9
                  | exact unhide HG _ hbW)
                (first
                  | (go_at_call 96
                     refine (unhide HA _).mono ?_
                     rintro e w9 ⟨rfl, hl9⟩
                     have hb9 : Below wr.heap.size wr w9 := hbW.trans (hl9.mono hbW.size)))
              all_goals
                obtain ⟨x0, x1, e0, e1⟩ := unhide HG _ hb9
                go_wp2_with fail
                refine (stand_any z' b f kc rc w9 ((unhide HI).2.1.below hb9) (by omega) (unhide HE).2.2).mono ?_
                rintro e w10 ⟨rfl, hbut9, hat9⟩
                have hN := ((unhide HI).2.2.1).sink (c := c) (kc := kc) (unhide HN).2 (by omega) (unhide HN).1 (unhide HE).2.1 (unhide HE).1
                rw [unhide HRC] at hN
                have HF : Hid (But b W1 w10 ∧ HpAt w10 b (Sp.stand z' f kc rc) ∧ Sp.HoI (Sp.stand z' f kc rc) M n c k r ∧ Sp.Up n z (Sp.stand z' f kc rc) ∧ (0 < c → Sp.aheadB (k : Int) r (Sp.stand z' f kc rc ((c - 1) / 2 * 2)) (Sp.stand z' f kc rc ((c - 1) / 2 * 2 + 1)) = false)) := hide ⟨((unhide HI).1.trans (But.of hb9)).trans hbut9, hat9, hN.1, (unhide HI).2.2.2.1.trans (Sp.Up.stand _ _ _ _ hfn), fun _ => by
                  have hR := unhide HR
                  rw [(unhide HN).1, Sp.stand_key _ _ _ _ _ (by omega), Sp.stand_rank _ _ _ _ _ (by omega), if_pos rfl, if_pos rfl, Sp.ahead_no]
                  rw [Sp.ahead_yes] at hR
                  omega⟩
                clear hbut9 hat9 hN HI HG x0 x1 e0 e1
                go_wp2
                go_roundg g'
                case rel => exact ⟨c, _, by have := unhide HN; omega, by omega, rfl, HF⟩
                case measure => omega
            · have hR' : Sp.aheadB (kc : Int) rc (k : Int) r = false := by simpa using hR
              have HA := hide (show ∀ w', Calls Try.prog 96 #[.agg #[.int .i64 (kc : Int), .int .i64 rc], .agg #[.int .i64 (k : Int), .int .i64 r]] w' fun e w'' => e = .returned (.bool false) ∧ Below w'.heap.size w' w'' from fun w' => by have := ahead_any (kc : Int) rc (k : Int) r w'; rw [hR'] at this; exact this)
              have HR := hide hR'
              clear hR hR'
              go_upto_region 5 with fail
              go_region_held3 (fun w' => w'.cell? ⟨w.heap.size, 0, none⟩ = some (.int .i64 (k : Int)) ∧ w'.cell? ⟨w.heap.size, 1, none⟩ = some (.int .i64 r) ∧ w'.cell? ⟨b, c * 2, none⟩ = some (.int .i64 (kc : Int)) ∧ w'.cell? ⟨b, c * 2 + 1, none⟩ = some (.int .i64 rc))
                (first
                  | exact unhide HG _ hb9
                  | exact unhide HG _ hbW)
                (first
                  | (go_at_call 96
                     refine (unhide HA _).mono ?_
                     rintro e w9 ⟨rfl, hl9⟩
                     have hb9 : Below wr.heap.size wr w9 := hbW.trans (hl9.mono hbW.size)))
              all_goals
                have HF : Hid (But b w w9 ∧ HpAt w9 b z' ∧ Sp.HoI z' M n f k r ∧ Sp.Up n z z' ∧ (0 < f → Sp.aheadB (k : Int) r (z' ((f - 1) / 2 * 2)) (z' ((f - 1) / 2 * 2 + 1)) = false)) := hide ⟨(unhide HBW).trans (But.of hb9), (unhide HI).2.1.below hb9, (unhide HI).2.2⟩
                clear HG HI
                go_wp2
                rw [unhide HP]
                exact ⟨f, z', rfl, (unhide HF).1, (unhide HF).2.1, (unhide HF).2.2.1, (unhide HF).2.2.2.1, (unhide HF).2.2.2.2, fun i h0 hi hp => by
                  have h1 := (unhide HE).1 i h0 hi hp
                  have h2 := unhide HR
                  unfold Sp.ah at h1
                  rw [(unhide HE).2.1, unhide HRC] at h1
                  rw [Sp.ahead_no] at *
                  omega⟩
end Go.Proofs.Ytoegjnolccabjab


/- Package heap: settle, find. -/
namespace Go.Proofs.Ytoegjnolccabjab
open Go Go.RowKit

set_option maxRecDepth 100000 in
set_option maxHeartbeats 4000000 in
theorem settle_any (z : Nat → Int) (M : Nat → Option Int) (b n f k : Nat) (r : Int) (w : World) (h : HpAt w b z) (hi : Sp.HoI z M n f k r) :
    Calls Try.prog 85 #[.pointer (some ⟨b, 0, none⟩), .int .i64 (f : Int), .agg #[.int .i64 (k : Int), .int .i64 r]] w fun e w' => ∃ (z' : Nat → Int), e = .returned (.tuple #[]) ∧ But b w w' ∧ HpAt w' b z' ∧ Sp.HpI z' M n ∧ Sp.Up n z z' := by
  have hb := h.lt
  have hnl := hi.le
  have HI0 : Hid (HpAt (w.alloc (.cells #[.int .i64 (k : Int), .int .i64 r] 98)) b z ∧ Sp.HoI z M n f k r) := hide ⟨h.alloc _, hi⟩
  have HX : Hid (∀ wr, But b (w.alloc (.cells #[.int .i64 (k : Int), .int .i64 r] 98)) wr → wr.cell? ⟨w.heap.size, 0, none⟩ = some (.int .i64 (k : Int)) ∧ wr.cell? ⟨w.heap.size, 1, none⟩ = some (.int .i64 r) ∧ But b w wr) := hide fun wr hw => by
    obtain ⟨x0, x1⟩ := item_new w (.int .i64 (k : Int)) (.int .i64 r)
    exact ⟨(hw.cell (by simp) (by show w.heap.size ≠ b; omega)).trans x0, (hw.cell (by simp) (by show w.heap.size ≠ b; omega)).trans x1, ((But.refl b w).alloc _).trans hw⟩
  obtain ⟨P, hP⟩ : ∃ P : Ending → World → Prop, P = fun e w' => ∃ (z' : Nat → Int), e = .returned (.tuple #[]) ∧ But b w w' ∧ HpAt w' b z' ∧ Sp.HpI z' M n ∧ Sp.Up n z z' := ⟨_, rfl⟩
  rw [← hP]
  have HP := hide hP
  obtain ⟨x0, x1, -⟩ := unhide HX _ (But.refl _ _)
  clear hP h hi
  go_enter Try.func85, Try.ntmps85
  go_wp2_with fail
  generalize w.alloc (.cells #[.int .i64 (k : Int), .int .i64 r] 98) = W1 at *
  refine (rise_any z M b n f k r W1 (unhide HI0).1 (unhide HI0).2).mono ?_
  rintro e w2 ⟨f2, z2, rfl, hb2, ha2, hi2, hu2, hp2⟩
  obtain ⟨y0, y1, -⟩ := unhide HX _ hb2
  have H2 := hide (And.intro hb2 (And.intro ha2 (And.intro hi2 (And.intro hu2 hp2))))
  clear hb2 ha2 hi2 hu2 hp2 x0 x1
  go_wp2_with fail
  refine (sink_any z2 M b n f2 k r w2 (unhide H2).2.1 (unhide H2).2.2.1 (unhide H2).2.2.2.2).mono ?_
  rintro e w3 ⟨f3, z3, rfl, hb3, ha3, hi3, hu3, hp3, hd3⟩
  have hb3' := (unhide H2).1.trans hb3
  obtain ⟨x0, x1, hbw⟩ := unhide HX _ hb3'
  have H3 := hide (And.intro hbw (And.intro ha3 (And.intro hi3 (And.intro ((unhide H2).2.2.2.1.trans hu3) (And.intro hp3 hd3)))))
  have hf3 := hi3.fn
  have hk3 := hi3.kl
  clear hb3 hb3' ha3 hi3 hu3 hp3 hd3 hbw y0 y1 H2
  go_wp2_with fail
  refine (stand_any z3 b f3 k r w3 (unhide H3).2.1 (by omega) hk3).mono ?_
  rintro e w4 ⟨rfl, hb4, ha4⟩
  have HF : Hid (But b w w4 ∧ HpAt w4 b (Sp.stand z3 f3 k r) ∧ Sp.HpI (Sp.stand z3 f3 k r) M n ∧ Sp.Up n z (Sp.stand z3 f3 k r)) := hide ⟨(unhide H3).1.trans hb4, ha4, (unhide H3).2.2.1.shut (unhide H3).2.2.2.2.1 (unhide H3).2.2.2.2.2, (unhide H3).2.2.2.1.trans (Sp.Up.stand _ _ _ _ hf3)⟩
  clear hb4 ha4 H3
  go_wp2
  go_end0
  rw [unhide HP]
  exact ⟨_, rfl, unhide HF⟩

/-- Where a key is. -/
def Sp.findB (z : Nat → Int) (k : Int) : Bool := decide (0 ≤ k ∧ k < 300 ∧ z (601 + k.toNat) ≠ 0)
def Sp.findP (z : Nat → Int) (k : Int) : Int := if Sp.findB z k = true then z (601 + k.toNat) - 1 else 0
set_option maxRecDepth 100000 in
set_option maxHeartbeats 4000000 in
theorem find_any (z : Nat → Int) (b : Nat) (k : Int) (w : World) (h : HpAt w b z) (hz : ∀ j, j < 300 → 0 ≤ z (601 + j) ∧ z (601 + j) ≤ 300) :
    Calls Try.prog 84 #[.pointer (some ⟨b, 0, none⟩), .int .i64 k] w fun e w' => e = .returned (.tuple #[.int .i64 (Sp.findP z k), .bool (Sp.findB z k)]) ∧ w' = w := by
  by_cases hk : 0 ≤ k ∧ k < 300
  · obtain ⟨j, rfl⟩ : ∃ j : Nat, k = (j : Int) := ⟨k.toNat, by omega⟩
    have hjI : (j : Int) < 300 := hk.2
    have hK := isKey_any (j : Int) w
    rw [decide_eq_true hk] at hK
    have HK := hide hK
    have c0 := h.cell (j := 601 + j) (by omega)
    have hzj := hz j (by omega)
    by_cases h0 : z (601 + j) = 0
    · have HR : Hid (Sp.findB z (j : Int) = false ∧ Sp.findP z (j : Int) = 0) := hide (by
        have : Sp.findB z (j : Int) = false := by simp [Sp.findB, h0]
        exact ⟨this, by simp [Sp.findP, this]⟩)
      rw [h0] at c0
      generalize Sp.findB z (j : Int) = RB at *
      generalize Sp.findP z (j : Int) = RP at *
      clear hK hk hz h hzj h0
      go_enter Try.func84, Try.ntmps84
      go_wp2_with fail
      go_at_call 83
      refine (unhide HK).mono ?_
      rintro e w' ⟨rfl, hw'⟩
      have := hw'.symm
      subst this
      go_wp2
      go_ret2
      exact ⟨by rw [(unhide HR).1, (unhide HR).2]; rfl, rfl⟩
    · have HR : Hid (Sp.findB z (j : Int) = true ∧ Sp.findP z (j : Int) = z (601 + j) - 1) := hide (by
        have : Sp.findB z (j : Int) = true := by simp [Sp.findB, h0]; omega
        exact ⟨this, by simp [Sp.findP, this]⟩)
      generalize z (601 + j) = zj at *
      have e0 : (zj == 0) = false := by simpa using h0
      generalize Sp.findB z (j : Int) = RB at *
      generalize Sp.findP z (j : Int) = RP at *
      clear hK hk hz h
      go_enter Try.func84, Try.ntmps84
      go_wp2_with fail
      go_at_call 83
      refine (unhide HK).mono ?_
      rintro e w' ⟨rfl, hw'⟩
      have := hw'.symm
      subst this
      go_wp2
      go_ret2
      exact ⟨by rw [(unhide HR).1, (unhide HR).2]; rfl, rfl⟩
  · have hK := isKey_any k w
    rw [decide_eq_false hk] at hK
    have HK := hide hK
    have HR : Hid (Sp.findB z k = false ∧ Sp.findP z k = 0) := hide (by
      have : Sp.findB z k = false := by simp only [Sp.findB, decide_eq_false_iff_not]; omega
      exact ⟨this, by simp [Sp.findP, this]⟩)
    generalize Sp.findB z k = RB at *
    generalize Sp.findP z k = RP at *
    clear hK hk hz h
    go_enter Try.func84, Try.ntmps84
    go_wp2_with fail
    go_at_call 83
    refine (unhide HK).mono ?_
    rintro e w' ⟨rfl, hw'⟩
    have := hw'.symm
    subst this
    go_wp2
    go_ret2
    exact ⟨by rw [(unhide HR).1, (unhide HR).2]; rfl, rfl⟩
end Go.Proofs.Ytoegjnolccabjab


/- Keys by rank: what a heap holds; put, dropped. -/
namespace Go.Proofs.Ytoegjnolccabjab
open Go Go.RowKit

theorem Sp.HpI.congr {z z' : Nat → Int} {M : Nat → Option Int} {n : Nat} (h : Sp.HpI z M n) (h0 : z' 600 = z 600) (h1 : ∀ k, k < 300 → z' (601 + k) = z (601 + k)) (h2 : ∀ i, i < n → z' (i * 2) = z (i * 2) ∧ z' (i * 2 + 1) = z (i * 2 + 1)) : Sp.HpI z' M n := by
  refine ⟨by rw [h0]; exact h.many, h.le, fun i hi => ?_, fun k hk => ?_, fun i hi0 hi => ?_, h.out, h.cnt⟩
  · obtain ⟨k, hk, a, b, c⟩ := h.it i hi
    exact ⟨k, hk, by rw [(h2 i hi).1]; exact a, by rw [h1 k hk]; exact b, by rw [(h2 i hi).2]; exact c⟩
  · rw [h1 k hk]
    rcases h.pl k hk with a | ⟨i, hi, a, b⟩
    · exact .inl a
    · exact .inr ⟨i, hi, a, by rw [(h2 i hi).1]; exact b⟩
  · unfold Sp.ah
    rw [(h2 i hi).1, (h2 i hi).2, (h2 _ (by omega)).1, (h2 _ (by omega)).2]
    exact h.ord i hi0 hi
/-- Behind the row all is nothing. -/
def Sp.Wiped (z : Nat → Int) (n : Nat) : Prop := ∀ i, n ≤ i → i < 300 → z (i * 2) = 0 ∧ z (i * 2 + 1) = 0
/-- A heap that holds M. -/
def HpIs (w : World) (b : Nat) (M : Nat → Option Int) : Prop := ∃ z, HpAt w b z ∧ Sp.HpI z M (Sp.hcnt M) ∧ Sp.Wiped z (Sp.hcnt M)
theorem HpIs.lt {w : World} {b : Nat} {M : Nat → Option Int} (h : HpIs w b M) : b < w.heap.size := by
  obtain ⟨z, h, -⟩ := h; exact h.lt
theorem HpIs.below {w w' : World} {b : Nat} {M : Nat → Option Int} (h : HpIs w b M) (hb : Below w.heap.size w w') : HpIs w' b M := by
  obtain ⟨z, h, h2⟩ := h; exact ⟨z, h.below hb, h2⟩
theorem HpIs.of_block {w w' : World} {b : Nat} {M : Nat → Option Int} (h : HpIs w b M) (e : w'.heap[b]? = w.heap[b]?) : HpIs w' b M := by
  obtain ⟨z, h, h2⟩ := h; exact ⟨z, h.of_block e, h2⟩
theorem Sp.HpI.places {z : Nat → Int} {M : Nat → Option Int} {n : Nat} (h : Sp.HpI z M n) : ∀ j, j < 300 → 0 ≤ z (601 + j) ∧ z (601 + j) ≤ 300 := fun j hj => by
  have := h.le
  rcases h.pl j hj with ⟨a, -⟩ | ⟨i, hi, a, -⟩ <;> rw [a] <;> omega
theorem Sp.HpI.inj {z : Nat → Int} {M : Nat → Option Int} {n : Nat} (h : Sp.HpI z M n) {i j : Nat} (hi : i < n) (hj : j < n) (e : z (i * 2) = z (j * 2)) : i = j := by
  obtain ⟨k, hk, a, b, -⟩ := h.it i hi
  obtain ⟨k', hk', a', b', -⟩ := h.it j hj
  have : k = k' := by omega
  subst this
  omega
/-- A key that is there is put anew: its place is free for it. -/
theorem Sp.HpI.anew {z : Nat → Int} {M : Nat → Option Int} {n f k : Nat} (h : Sp.HpI z M n) (hf : f < n) (hk : k < 300) (hz : z (f * 2) = (k : Int)) (r : Int) : Sp.HoI z (Sp.put M k (some r)) n f k r := by
  obtain ⟨k0, hk0, a0, b0, c0⟩ := h.it f hf
  obtain rfl : k = k0 := by omega
  refine ⟨h.many, h.le, hf, hk, Sp.put_same _ _ _, fun i hi hif => ?_, fun k' hk' hkk => ?_, fun i h0 hi _ _ => h.ord i h0 hi, fun i h0 hi hp hf0 => ?_, fun k' hk' => ?_, ?_⟩
  · obtain ⟨k1, hk1, a1, b1, c1⟩ := h.it i hi
    have hne : k1 ≠ k := fun e => hif (h.inj hi hf (by rw [a1, hz, e]))
    exact ⟨k1, hk1, hne, a1, b1, by rw [Sp.put_other _ _ hne]; exact c1⟩
  · rw [Sp.put_other _ _ hkk]
    rcases h.pl k' hk' with a | ⟨i, hi, a, b⟩
    · exact .inl a
    · exact .inr ⟨i, hi, fun e => by subst e; omega, a, b⟩
  · have := h.ord i h0 hi
    rw [hp] at this
    exact Sp.ah_trans this (h.ord f hf0 hf)
  · rw [Sp.put_other _ _ (by omega)]; exact h.out k' hk'
  · rw [Sp.hcnt_anew M k r _ hk c0]; exact h.cnt
/-- A new key: a place behind the row is free for it. -/
theorem Sp.HpI.new {z : Nat → Int} {M : Nat → Option Int} {n k : Nat} (h : Sp.HpI z M n) (hk : k < 300) (hm : M k = none) (r : Int) : Sp.HoI (Sp.upd z 600 ((n : Int) + 1)) (Sp.put M k (some r)) (n + 1) n k r := by
  have hc := Sp.hcnt_add M k r hk hm
  have hle := Sp.hcnt_le (Sp.put M k (some r))
  have hcn := h.cnt
  have e1 : ∀ i, i < 300 → Sp.upd z 600 ((n : Int) + 1) (i * 2) = z (i * 2) ∧ Sp.upd z 600 ((n : Int) + 1) (i * 2 + 1) = z (i * 2 + 1) := fun i hi => ⟨Sp.upd_other _ _ (by omega), Sp.upd_other _ _ (by omega)⟩
  have e2 : ∀ j, Sp.upd z 600 ((n : Int) + 1) (601 + j) = z (601 + j) := fun j => Sp.upd_other _ _ (by omega)
  refine ⟨by rw [Sp.upd_same]; rfl, by omega, by omega, hk, Sp.put_same _ _ _, fun i hi hif => ?_, fun k' hk' hkk => ?_, fun i h0 hi hin hp => ?_, fun i h0 hi hp hf0 => by omega, fun k' hk' => ?_, by omega⟩
  · obtain ⟨k1, hk1, a1, b1, c1⟩ := h.it i (by omega)
    have hne : k1 ≠ k := fun e => by subst e; rw [hm] at c1; cases c1
    exact ⟨k1, hk1, hne, by rw [(e1 i (by omega)).1]; exact a1, by rw [e2]; exact b1, by rw [Sp.put_other _ _ hne, (e1 i (by omega)).2]; exact c1⟩
  · rw [Sp.put_other _ _ hkk, e2]
    rcases h.pl k' hk' with a | ⟨i, hi, a, b⟩
    · exact .inl a
    · exact .inr ⟨i, by omega, by omega, a, by rw [(e1 i (by omega)).1]; exact b⟩
  · unfold Sp.ah
    rw [(e1 i (by omega)).1, (e1 i (by omega)).2, (e1 _ (by omega)).1, (e1 _ (by omega)).2]
    exact h.ord i h0 (by omega)
  · rw [Sp.put_other _ _ (by omega)]; exact h.out k' hk'
/-- The row without its last item, the one at p taken away: place p is free for the last. -/
theorem Sp.HpI.less {z : Nat → Int} {M : Nat → Option Int} {m p kp km : Nat} (h : Sp.HpI z M (m + 1)) (hp : p < m) (hzp : z (p * 2) = (kp : Int)) (hzm : z (m * 2) = (km : Int)) :
    Sp.HoI (Sp.upd (Sp.upd z 600 (m : Int)) (601 + kp) 0) (Sp.put M kp none) m p km (z (m * 2 + 1)) := by
  have hle := h.le
  obtain ⟨k0, hk0, a0, b0, c0⟩ := h.it p (by omega)
  obtain rfl : kp = k0 := by omega
  obtain ⟨k1, hk1, a1, b1, c1⟩ := h.it m (by omega)
  obtain rfl : km = k1 := by omega
  have hne : km ≠ kp := fun e => by subst e; omega
  have e0 : ∀ i, i < 300 → Sp.upd (Sp.upd z 600 (m : Int)) (601 + kp) 0 (i * 2) = z (i * 2) ∧ Sp.upd (Sp.upd z 600 (m : Int)) (601 + kp) 0 (i * 2 + 1) = z (i * 2 + 1) := fun i hi => ⟨by rw [Sp.upd_other _ _ (by omega), Sp.upd_other _ _ (by omega)], by rw [Sp.upd_other _ _ (by omega), Sp.upd_other _ _ (by omega)]⟩
  have e2 : ∀ j, j ≠ kp → Sp.upd (Sp.upd z 600 (m : Int)) (601 + kp) 0 (601 + j) = z (601 + j) := fun j hj => by rw [Sp.upd_other _ _ (by omega), Sp.upd_other _ _ (by omega)]
  refine ⟨by rw [Sp.upd_other _ _ (by omega), Sp.upd_same], by omega, hp, hk1, by rw [Sp.put_other _ _ hne]; exact c1, fun i hi hif => ?_, fun k' hk' hkk => ?_, fun i h0 hi hin hpp => ?_, fun i h0 hi hpp hf0 => ?_, fun k' hk' => ?_, ?_⟩
  · obtain ⟨k2, hk2, a2, b2, c2⟩ := h.it i (by omega)
    have n1 : k2 ≠ km := fun e => by subst e; omega
    have n2 : k2 ≠ kp := fun e => by subst e; omega
    exact ⟨k2, hk2, n1, by rw [(e0 i (by omega)).1]; exact a2, by rw [e2 _ n2]; exact b2, by rw [Sp.put_other _ _ n2, (e0 i (by omega)).2]; exact c2⟩
  · by_cases hkp : k' = kp
    · subst hkp
      exact .inl ⟨Sp.upd_same _ _ _, Sp.put_same _ _ _⟩
    · rw [e2 _ hkp, Sp.put_other _ _ hkp]
      rcases h.pl k' hk' with a | ⟨i, hi, a, b⟩
      · exact .inl a
      · have n1 : i ≠ m := fun e => by subst e; omega
        have n2 : i ≠ p := fun e => by subst e; omega
        exact .inr ⟨i, by omega, n2, a, by rw [(e0 i (by omega)).1]; exact b⟩
  · unfold Sp.ah
    rw [(e0 i (by omega)).1, (e0 i (by omega)).2, (e0 _ (by omega)).1, (e0 _ (by omega)).2]
    exact h.ord i h0 (by omega)
  · have h1 := h.ord i h0 (by omega)
    rw [hpp] at h1
    have h2 := Sp.ah_trans h1 (h.ord p hf0 (by omega))
    unfold Sp.ah at *
    rw [(e0 i (by omega)).1, (e0 i (by omega)).2, (e0 _ (by omega)).1, (e0 _ (by omega)).2]
    exact h2
  · rw [Sp.put_other _ _ (by omega)]; exact h.out k' hk'
  · have := Sp.hcnt_drop M kp _ hk0 c0
    have := h.cnt
    omega
theorem Sp.HpI.last {z : Nat → Int} {M : Nat → Option Int} {m kp : Nat} (h : Sp.HpI z M (m + 1)) (hzp : z (m * 2) = (kp : Int)) :
    Sp.HpI (Sp.upd (Sp.upd z 600 (m : Int)) (601 + kp) 0) (Sp.put M kp none) m := by
  have hle := h.le
  obtain ⟨k0, hk0, a0, b0, c0⟩ := h.it m (by omega)
  obtain rfl : kp = k0 := by omega
  have e0 : ∀ i, i < 300 → Sp.upd (Sp.upd z 600 (m : Int)) (601 + kp) 0 (i * 2) = z (i * 2) ∧ Sp.upd (Sp.upd z 600 (m : Int)) (601 + kp) 0 (i * 2 + 1) = z (i * 2 + 1) := fun i hi => ⟨by rw [Sp.upd_other _ _ (by omega), Sp.upd_other _ _ (by omega)], by rw [Sp.upd_other _ _ (by omega), Sp.upd_other _ _ (by omega)]⟩
  have e2 : ∀ j, j ≠ kp → Sp.upd (Sp.upd z 600 (m : Int)) (601 + kp) 0 (601 + j) = z (601 + j) := fun j hj => by rw [Sp.upd_other _ _ (by omega), Sp.upd_other _ _ (by omega)]
  refine ⟨by rw [Sp.upd_other _ _ (by omega), Sp.upd_same], by omega, fun i hi => ?_, fun k' hk' => ?_, fun i h0 hi => ?_, fun k' hk' => ?_, ?_⟩
  · obtain ⟨k2, hk2, a2, b2, c2⟩ := h.it i (by omega)
    have n2 : k2 ≠ kp := fun e => by subst e; omega
    exact ⟨k2, hk2, by rw [(e0 i (by omega)).1]; exact a2, by rw [e2 _ n2]; exact b2, by rw [Sp.put_other _ _ n2, (e0 i (by omega)).2]; exact c2⟩
  · by_cases hkp : k' = kp
    · subst hkp
      exact .inl ⟨Sp.upd_same _ _ _, Sp.put_same _ _ _⟩
    · rw [e2 _ hkp, Sp.put_other _ _ hkp]
      rcases h.pl k' hk' with a | ⟨i, hi, a, b⟩
      · exact .inl a
      · have n1 : i ≠ m := fun e => by subst e; omega
        exact .inr ⟨i, by omega, a, by rw [(e0 i (by omega)).1]; exact b⟩
  · unfold Sp.ah
    rw [(e0 i (by omega)).1, (e0 i (by omega)).2, (e0 _ (by omega)).1, (e0 _ (by omega)).2]
    exact h.ord i h0 (by omega)
  · rw [Sp.put_other _ _ (by omega)]; exact h.out k' hk'
  · have := Sp.hcnt_drop M kp _ hk0 c0
    have := h.cnt
    omega
/-- The first item is ahead of all others. -/
theorem Sp.HpI.first {z : Nat → Int} {M : Nat → Option Int} {n : Nat} (h : Sp.HpI z M n) : ∀ i, i < n → Sp.ah z i 0 = false := by
  intro i
  induction i using Nat.strongRecOn with
  | ind i ih =>
    intro hi
    by_cases h0 : i = 0
    · subst h0; unfold Sp.ah; rw [Sp.ahead_no]; omega
    · exact Sp.ah_trans (h.ord i (by omega) hi) (ih _ (by omega) (by omega))
end Go.Proofs.Ytoegjnolccabjab


/- Package heap: remove. -/
namespace Go.Proofs.Ytoegjnolccabjab
open Go Go.RowKit

theorem wiped_is {w : World} {b m : Nat} {z : Nat → Int} {M : Nat → Option Int} (h : HpAt w b z) (hi : Sp.HpI z M m) (hw : Sp.Wiped z (m + 1)) (hm : m < 300) :
    HpIs ((w.setCell ⟨b, m * 2, none⟩ (.int .i64 0)).setCell ⟨b, m * 2 + 1, none⟩ (.int .i64 0)).drew b M := by
  have hc := hi.cnt
  refine ⟨_, ((h.set _ _).set _ _).drew, ?_, ?_⟩
  · rw [← hc]
    exact hi.congr (by rw [Sp.upd_other _ _ (by omega), Sp.upd_other _ _ (by omega)]) (fun k hk => by rw [Sp.upd_other _ _ (by omega), Sp.upd_other _ _ (by omega)]) (fun i hi' => ⟨by rw [Sp.upd_other _ _ (by omega), Sp.upd_other _ _ (by omega)], by rw [Sp.upd_other _ _ (by omega), Sp.upd_other _ _ (by omega)]⟩)
  · rw [← hc]
    intro i h1 h2
    by_cases him : i = m
    · subst him
      rw [Sp.upd_other _ _ (by omega), Sp.upd_same, Sp.upd_same]; exact ⟨rfl, rfl⟩
    · rw [Sp.upd_other _ _ (by omega), Sp.upd_other _ _ (by omega), Sp.upd_other _ _ (by omega), Sp.upd_other _ _ (by omega)]
      exact hw i (by omega) h2
set_option maxRecDepth 100000 in
theorem run_clear_item (w : World) (b : Nat) (z : Nat → Int) (m c : Nat) (h : HpAt w b z) (hm : m < 300) (ty : TypeId) :
    (Builtin.clear_ #[126] ty #[.slice (some ⟨b, m * 2, none⟩) 1 c]).run Try.prog w.drew = .ok (.tuple #[]) ((w.setCell ⟨b, m * 2, none⟩ (.int .i64 0)).setCell ⟨b, m * 2 + 1, none⟩ (.int .i64 0)).drew := by
  have c0 := h.cell (j := m * 2) (by omega)
  have c1 := h.cell (j := m * 2 + 1) (by omega)
  have c1' : (w.setCell ⟨b, m * 2, none⟩ (.int .i64 0)).cell? ⟨b, m * 2 + 1, none⟩ = some (.int .i64 (z (m * 2 + 1))) := by rw [cell_set_ne (by omega)]; exact c1
  have f := fun j => h.frozen j none
  have ht : Try.prog.underlying 126 = some (.slice 98) := by rfl
  have hv : ∀ w, (zeroValue 98).run Try.prog w = .ok (.agg #[.int .i64 0, .int .i64 0]) w := fun w => by rfl
  have hzc : (Builtin.zeroCells (Value.agg #[.int .i64 0, .int .i64 0]).cells 1).toList = [.int .i64 0, .int .i64 0] := by
    show (Builtin.zeroCells #[.int .i64 0, .int .i64 0] 1).toList = _
    simp [Builtin.zeroCells, List.range_succ]
  have hst := run_storeCells_cells (P := Try.prog) b (m * 2) [.int .i64 0, .int .i64 0] 0 w.drew (fun j hj => by
    rcases j with _ | _ | j
    · rw [World.cell?_drew]; simp [c0]
    · rw [World.cell?_drew]; simp [c1]
    · simp at hj; omega) (fun j _ => f _) (fun v hv' => by
    simp at hv'; subst hv'; rfl)
  simp only [Nat.add_zero] at hst
  simp [Builtin.clear_, run_underlying ht, hv, hzc, hst]
  rfl
set_option maxRecDepth 100000 in
theorem run_slice_item (b m : Nat) (hm : m < 300) (w : World) : (Instr.sliceAt 108 (.pointer (some ⟨b, 0, none⟩)) (some (.int .i64 (m : Int))) (some (.int .i64 ((m : Int) + 1))) none).run Try.prog w = .ok (.slice (some ⟨b, m * 2, none⟩) 1 (300 - m)) w := by
  have ht : Try.prog.underlying 108 = some (.array (Try.prog.arrayLen 108) (Try.prog.elem 108)) := by rfl
  have hn : Try.prog.arrayLen 108 = 300 := by rfl
  have hs : ∀ w, (sizeOf (Try.prog.elem 108)).run Try.prog w = .ok 2 w := fun w => by rfl
  rw [run_sliceAt_array_lh w _ _ ht .i64 .i64 _ _ (by omega) (by omega) (by rw [hn]; omega), hs, hn]
  simp only [Result.andThen_ok, slicedAt, Addr.add]
  have e1 : ((m : Int)).toNat = m := by omega
  have e2 : ((m : Int) + 1).toNat = m + 1 := by omega
  rw [e1, e2, if_neg (by omega)]
  have e3 : m + 1 - m = 1 := by omega
  rw [e3]
  by_cases h0 : m = 0
  · subst h0; rfl
  · rw [if_neg (by omega), Nat.zero_add]
set_option maxRecDepth 100000 in
set_option maxHeartbeats 4000000 in
theorem remove_any (z : Nat → Int) (M : Nat → Option Int) (b m p kp : Nat) (w : World) (h : HpAt w b z) (hi : Sp.HpI z M (m + 1)) (hw : Sp.Wiped z (m + 1)) (hp : p < m + 1) (hzp : z (p * 2) = (kp : Int)) :
    Calls Try.prog 87 #[.pointer (some ⟨b, 0, none⟩), .int .i64 (p : Int)] w fun e w' => e = .returned (.tuple #[]) ∧ But b w w' ∧ HpIs w' b (Sp.put M kp none) := by
  have hle := hi.le
  have hb := h.lt
  obtain ⟨k0, hk0, a0, -, -⟩ := hi.it p hp
  obtain rfl : kp = k0 := by omega
  obtain ⟨km, hkm, hzm, -, -⟩ := hi.it m (by omega)
  have c6 := h.cell (j := 600) (by omega)
  rw [hi.many] at c6
  have f6 := h.frozen 600 none
  have hm1 : (m : Int) < 300 := by omega
  have hpI : (p : Int) < 300 := by omega
  have H0 := hide (And.intro h (And.intro hi hw))
  have HZ := hide (And.intro hzp (And.intro hzm a0))
  have hm2 : ((m + 1 : Nat) : Int) - 1 = (m : Int) := by omega
  rw [show (((m + 1 : Nat) : Int)) = (m : Int) + 1 from rfl] at c6
  have hm3 : (m : Int) + 1 - 1 = (m : Int) := by omega
  clear h hi hw hzp hzm a0 hm2
  obtain ⟨P, hP⟩ : ∃ P : Ending → World → Prop, P = fun e w' => e = .returned (.tuple #[]) ∧ But b w w' ∧ HpIs w' b (Sp.put M kp none) := ⟨_, rfl⟩
  rw [← hP]
  have HP := hide hP
  clear hP
  go_enter Try.func87, Try.ntmps87
  go_wp2_with fail
  obtain ⟨W1, hW1⟩ : ∃ W1, W1 = w.setCell ⟨b, 600, none⟩ (.int .i64 (m : Int)) := ⟨_, rfl⟩
  have h1 : HpAt W1 b (Sp.upd z 600 (m : Int)) := by rw [hW1]; exact (unhide H0).1.set _ _
  have HB1 : Hid (But b w W1) := hide (by rw [hW1]; exact (But.refl b w).set _ _ _)
  have hs1 : Hid (W1.heap.size = w.heap.size) := hide (by rw [hW1]; simp [World.setCell])
  rw [← hW1]
  clear hW1 c6 f6
  have c6 := h1.cell (j := 600) (by omega)
  rw [Sp.upd_same] at c6
  have c0 := h1.cell (j := m * 2) (by omega)
  rw [Sp.upd_other _ _ (by omega), (unhide HZ).2.1] at c0
  have c1 := h1.cell (j := m * 2 + 1) (by omega)
  rw [Sp.upd_other _ _ (by omega)] at c1
  have g6 := fun o => (h1.alloc o).cell (j := 600) (by omega)
  rw [Sp.upd_same] at g6
  have g0 := fun o => (h1.alloc o).cell (j := m * 2) (by omega)
  rw [Sp.upd_other _ _ (by omega), (unhide HZ).2.1] at g0
  have g1 := fun o => (h1.alloc o).cell (j := m * 2 + 1) (by omega)
  rw [Sp.upd_other _ _ (by omega)] at g1
  have H1 := hide h1
  clear h1
  obtain ⟨rm, hrm⟩ : ∃ rm, z (m * 2 + 1) = rm := ⟨_, rfl⟩
  rw [hrm] at c1 g1
  have HRM := hide hrm
  clear hrm
  go_region
  go_wp2_with fail
  obtain ⟨W2, hW2⟩ : ∃ W2, W2 = (W1.alloc (.cells #[.int .i64 (km : Int), .int .i64 rm] 98)).drew := ⟨_, rfl⟩
  have h2 : HpAt W2 b (Sp.upd z 600 (m : Int)) := by rw [hW2]; exact ((unhide H1).alloc _).drew
  have HB2 : Hid (But b w W2) := hide (by rw [hW2]; exact ((unhide HB1).alloc _).drew)
  obtain ⟨y0, y1⟩ : W2.cell? ⟨W1.heap.size, 0, none⟩ = some (.int .i64 (km : Int)) ∧ W2.cell? ⟨W1.heap.size, 1, none⟩ = some (.int .i64 rm) := by rw [hW2]; exact item_new W1 _ _
  rw [← hW2]
  obtain ⟨B1, hB1⟩ : ∃ B1, B1 = W1.heap.size := ⟨_, rfl⟩
  have hbB : b ≠ B1 := by rw [hB1, unhide hs1]; omega
  rw [← hB1] at y0 y1 ⊢
  clear hW2 c6 c0 c1 g6 g0 g1 H1 HB1 hs1 hB1
  have hkpI : (kp : Int) < 300 := by omega
  have c0 := h2.cell (j := p * 2) (by omega)
  rw [Sp.upd_other _ _ (by omega), (unhide HZ).1] at c0
  have c1 := h2.cell (j := 601 + kp) (by omega)
  have f1 := fun j => h2.frozen j none
  have H2 := hide h2
  clear h2
  go_region
  obtain ⟨W3, hW3⟩ : ∃ W3, W3 = (W2.setCell ⟨b, 601 + kp, none⟩ (.int .i64 0)).drew := ⟨_, rfl⟩
  have h3 : HpAt W3 b (Sp.upd (Sp.upd z 600 (m : Int)) (601 + kp) 0) := by rw [hW3]; exact ((unhide H2).set _ _).drew
  have HB3 : Hid (But b w W3) := hide (by rw [hW3]; exact ((unhide HB2).set _ _ _).drew)
  have x0 : W3.cell? ⟨B1, 0, none⟩ = some (.int .i64 (km : Int)) := by
    rw [hW3]; show World.cell? (World.setCell _ _ _) _ = _; rw [cell_set_ne (by omega)]; exact y0
  have x1 : W3.cell? ⟨B1, 1, none⟩ = some (.int .i64 rm) := by
    rw [hW3]; show World.cell? (World.setCell _ _ _) _ = _; rw [cell_set_ne (by omega)]; exact y1
  rw [← hW3]
  clear hW3 c0 c1 f1 y0 y1 H2 HB2
  have c6 := h3.cell (j := 600) (by omega)
  rw [Sp.upd_other _ _ (by omega), Sp.upd_same] at c6
  have HWi : Hid (∀ i, m + 1 ≤ i → i < 300 → Sp.upd (Sp.upd z 600 (m : Int)) (601 + kp) 0 (i * 2) = 0 ∧ Sp.upd (Sp.upd z 600 (m : Int)) (601 + kp) 0 (i * 2 + 1) = 0) := hide fun i h1 h2 => by
    rw [Sp.upd_other _ _ (by omega), Sp.upd_other _ _ (by omega), Sp.upd_other _ _ (by omega), Sp.upd_other _ _ (by omega)]
    exact (unhide H0).2.2 i h1 h2
  by_cases hpm : p < m
  · have hpmI : (p : Int) < (m : Int) := by omega
    have hS := (unhide H0).2.1.less hpm (unhide HZ).1 (unhide HZ).2.1
    rw [unhide HRM] at hS
    have H3 := hide (And.intro h3 hS)
    clear h3 hS
    go_wp2_with fail
    refine (settle_any _ _ b m p km rm W3 (unhide H3).1 (unhide H3).2).mono ?_
    rintro e w4 ⟨z4, rfl, hb4, ha4, hi4, hu4⟩
    have H4 : Hid (But b w w4 ∧ HpAt w4 b z4 ∧ Sp.HpI z4 (Sp.put M kp none) m ∧ Sp.Wiped z4 (m + 1)) := hide ⟨(unhide HB3).trans hb4, ha4, hi4, fun i h1 h2 => by
      rw [(hu4 i (by omega) h2).1, (hu4 i (by omega) h2).2]; exact unhide HWi i h1 h2⟩
    clear hb4 ha4 hi4 hu4 H3 x0 x1 c6 HWi HB3
    have c6 := (unhide H4).2.1.cell (j := 600) (by omega)
    rw [(unhide H4).2.2.1.many] at c6
    have c0 := (unhide H4).2.1.cell (j := m * 2) (by omega)
    have c1 := (unhide H4).2.1.cell (j := m * 2 + 1) (by omega)
    have hwm : IntKind.i64.wrap ((m : Int) + 1) = (m : Int) + 1 := by rw [IntKind.wrap_i64]; omega
    have hsl := run_slice_item b m (by omega)
    have hcl : ∀ ty, (Builtin.clear_ #[126] ty #[.slice (some ⟨b, m * 2, none⟩) 1 (300 - m)]).run Try.prog w4.drew = .ok (.tuple #[]) ((w4.setCell ⟨b, m * 2, none⟩ (.int .i64 0)).setCell ⟨b, m * 2 + 1, none⟩ (.int .i64 0)).drew := fun ty => run_clear_item w4 b _ m (300 - m) (unhide H4).2.1 (by omega) ty
    have HF : Hid (But b w ((w4.setCell ⟨b, m * 2, none⟩ (.int .i64 0)).setCell ⟨b, m * 2 + 1, none⟩ (.int .i64 0)).drew ∧ HpIs ((w4.setCell ⟨b, m * 2, none⟩ (.int .i64 0)).setCell ⟨b, m * 2 + 1, none⟩ (.int .i64 0)).drew b (Sp.put M kp none)) := hide ⟨(((unhide H4).1.set _ _ _).set _ _ _).drew, wiped_is (unhide H4).2.1 (unhide H4).2.2.1 (unhide H4).2.2.2 (by omega)⟩
    clear H4
    go_wp2_with fail
    go_region
    go_wp2
    go_end0
    rw [unhide HP]
    exact ⟨rfl, unhide HF⟩
  · have hpmI : ¬ (p : Int) < (m : Int) := by omega
    obtain rfl : p = m := by omega
    have H4 : Hid (But b w W3 ∧ HpAt W3 b (Sp.upd (Sp.upd z 600 (p : Int)) (601 + kp) 0) ∧ Sp.HpI (Sp.upd (Sp.upd z 600 (p : Int)) (601 + kp) 0) (Sp.put M kp none) p ∧ Sp.Wiped (Sp.upd (Sp.upd z 600 (p : Int)) (601 + kp) 0) (p + 1)) := hide ⟨unhide HB3, h3, (unhide H0).2.1.last (unhide HZ).1, unhide HWi⟩
    clear h3 x0 x1 HWi HB3
    go_wp2_with fail
    clear c6
    have c6 := (unhide H4).2.1.cell (j := 600) (by omega)
    rw [(unhide H4).2.2.1.many] at c6
    have c0 := (unhide H4).2.1.cell (j := p * 2) (by omega)
    have c1 := (unhide H4).2.1.cell (j := p * 2 + 1) (by omega)
    have hwm : IntKind.i64.wrap ((p : Int) + 1) = (p : Int) + 1 := by rw [IntKind.wrap_i64]; omega
    have hsl := run_slice_item b p (by omega)
    have hcl : ∀ ty, (Builtin.clear_ #[126] ty #[.slice (some ⟨b, p * 2, none⟩) 1 (300 - p)]).run Try.prog W3.drew = .ok (.tuple #[]) ((W3.setCell ⟨b, p * 2, none⟩ (.int .i64 0)).setCell ⟨b, p * 2 + 1, none⟩ (.int .i64 0)).drew := fun ty => run_clear_item W3 b _ p (300 - p) (unhide H4).2.1 (by omega) ty
    have HF : Hid (But b w ((W3.setCell ⟨b, p * 2, none⟩ (.int .i64 0)).setCell ⟨b, p * 2 + 1, none⟩ (.int .i64 0)).drew ∧ HpIs ((W3.setCell ⟨b, p * 2, none⟩ (.int .i64 0)).setCell ⟨b, p * 2 + 1, none⟩ (.int .i64 0)).drew b (Sp.put M kp none)) := hide ⟨(((unhide H4).1.set _ _ _).set _ _ _).drew, wiped_is (unhide H4).2.1 (unhide H4).2.2.1 (unhide H4).2.2.2 (by omega)⟩
    clear H4
    go_wp2_with fail
    go_region
    go_wp2
    go_end0
    rw [unhide HP]
    exact ⟨rfl, unhide HF⟩
end Go.Proofs.Ytoegjnolccabjab


/- Package heap: New, Len. -/
namespace Go.Proofs.Ytoegjnolccabjab
open Go Go.RowKit

theorem hnew_zero (w : World) : (zeroValue 111).run Try.prog w = .ok (.agg (List.replicate 901 (.int .i64 0)).toArray) w :=
  (zero_of_info (P := Try.prog) (t := 111) (v := .agg (List.replicate 901 (.int .i64 0)).toArray) (n := 901) (by kernel_rfl)).1 w
set_option maxRecDepth 100000 in
set_option maxHeartbeats 4000000 in
theorem hnew_any (w : World) :
    Calls Try.prog 65 #[] w fun e w' => e = .returned (.pointer (some ⟨w.heap.size, 0, none⟩)) ∧ w' = w.alloc (.cells (List.replicate 901 (.int .i64 0)).toArray 111) := by
  have hz := hnew_zero
  generalize (List.replicate 901 (Value.int .i64 0)).toArray = Z at *
  go_enter Try.func65, Try.ntmps65
  go_wp2
  go_ret
  exact ⟨rfl, rfl⟩
theorem Sp.cntN_none : ∀ N, Sp.cntN (fun _ => none) N = 0
  | 0 => rfl
  | N + 1 => by simp [Sp.cntN, Sp.cntN_none N]
theorem hnew_is (w : World) : HpIs (w.alloc (.cells (List.replicate 901 (.int .i64 0)).toArray 111)) w.heap.size (fun _ => none) := by
  have hc : Sp.hcnt (fun _ => none) = 0 := Sp.cntN_none 300
  refine ⟨fun _ => 0, ⟨(List.replicate 901 (.int .i64 0)).toArray, ?_, by rw [List.size_toArray, List.length_replicate], fun j hj => ?_⟩, ?_, fun i _ _ => ⟨rfl, rfl⟩⟩
  · show (w.heap.push _)[w.heap.size]? = _
    rw [Array.getElem?_push, if_pos rfl]
  · rw [List.getElem?_toArray, List.getElem?_replicate, if_pos hj]
  · rw [hc]
    exact ⟨rfl, by omega, fun i hi => by omega, fun k _ => .inl ⟨rfl, rfl⟩, fun i _ hi => by omega, fun _ _ => rfl, hc.symm⟩

/-- A key's rank. -/
def Sp.look (M : Nat → Option Int) (k : Int) : Option Int := if 0 ≤ k then M k.toNat else none
theorem Sp.HpI.look_none {z : Nat → Int} {M : Nat → Option Int} {n : Nat} (h : Sp.HpI z M n) {k : Int} (hl : Sp.look M k = none) : Sp.findB z k = false ∧ Sp.findP z k = 0 := by
  have : Sp.findB z k = false := by
    rw [Sp.findB, decide_eq_false_iff_not]
    rintro ⟨h0, h1, h2⟩
    rw [Sp.look, if_pos h0] at hl
    rcases h.pl k.toNat (by omega) with ⟨a, -⟩ | ⟨i, hi, a, b⟩
    · exact h2 a
    · obtain ⟨k', -, c, -, d⟩ := h.it i hi
      have : k' = k.toNat := by omega
      rw [this, hl] at d
      cases d
  exact ⟨this, by rw [Sp.findP, this]; rfl⟩
theorem Sp.HpI.look_some {z : Nat → Int} {M : Nat → Option Int} {n : Nat} (h : Sp.HpI z M n) {k r : Int} (hl : Sp.look M k = some r) : ∃ i j : Nat, Sp.findB z k = true ∧ Sp.findP z k = (i : Int) ∧ i < n ∧ k = (j : Int) ∧ j < 300 ∧ z (i * 2) = (j : Int) ∧ z (i * 2 + 1) = r ∧ M j = some r := by
  by_cases h0 : 0 ≤ k
  · rw [Sp.look, if_pos h0] at hl
    obtain ⟨j, rfl⟩ : ∃ j : Nat, k = (j : Int) := ⟨k.toNat, by omega⟩
    rw [Int.toNat_natCast] at hl
    have hj : j < 300 := by
      rcases Nat.lt_or_ge j 300 with h1 | h1
      · exact h1
      · rw [h.out j h1] at hl; cases hl
    rcases h.pl j hj with ⟨-, a⟩ | ⟨i, hi, a, b⟩
    · rw [hl] at a; cases a
    · obtain ⟨k', -, c, -, d⟩ := h.it i hi
      obtain rfl : k' = j := by omega
      rw [hl] at d
      have hB : Sp.findB z (k' : Int) = true := by rw [Sp.findB, decide_eq_true_eq, Int.toNat_natCast]; omega
      exact ⟨i, k', hB, by rw [Sp.findP, if_pos hB, Int.toNat_natCast]; omega, hi, rfl, hj, b, (Option.some.inj d).symm, hl⟩
  · rw [Sp.look, if_neg h0] at hl; cases hl
end Go.Proofs.Ytoegjnolccabjab


/- Package heap: Put, Drop, Least, Take. -/
namespace Go.Proofs.Ytoegjnolccabjab
open Go Go.RowKit

/-- What a heap holds behind Put, behind Drop. -/
def Sp.putK (M : Nat → Option Int) (k r : Int) : Nat → Option Int := if 0 ≤ k ∧ k < 300 then Sp.put M k.toNat (some r) else M
theorem up_wiped {z z' : Nat → Int} {n : Nat} (h : Sp.Wiped z n) (hu : Sp.Up n z z') : Sp.Wiped z' n := fun i h1 h2 => by
  rw [(hu i h1 h2).1, (hu i h1 h2).2]; exact h i h1 h2
theorem HpIs.of_settled {w : World} {b n : Nat} {z : Nat → Int} {M : Nat → Option Int} (h : HpAt w b z) (hi : Sp.HpI z M n) (hw : Sp.Wiped z n) : HpIs w b M := by
  have := hi.cnt
  subst this
  exact ⟨z, h, hi, hw⟩
set_option maxRecDepth 100000 in
set_option maxHeartbeats 4000000 in
theorem hput_any (M : Nat → Option Int) (b : Nat) (k r : Int) (w : World) (h : HpIs w b M) :
    Calls Try.prog 66 #[.pointer (some ⟨b, 0, none⟩), .int .i64 k, .int .i64 r] w fun e w' => e = .returned (.bool (decide (0 ≤ k ∧ k < 300))) ∧ But b w w' ∧ HpIs w' b (Sp.putK M k r) := by
  have hK := isKey_any k w
  by_cases hk : 0 ≤ k ∧ k < 300
  · rw [decide_eq_true hk] at hK ⊢
    have HPK : Hid (Sp.putK M k r = Sp.put M k.toNat (some r)) := hide (if_pos hk)
    obtain ⟨j, rfl⟩ : ∃ j : Nat, k = (j : Int) := ⟨k.toNat, by omega⟩
    rw [Int.toNat_natCast] at HPK
    have hj : j < 300 := by omega
    have HK := hide hK
    clear hK
    obtain ⟨z, h1, h2, h3⟩ := h
    have hF := find_any z b (j : Int) w h1 h2.places
    cases hl : Sp.look M (j : Int) with
    | none =>
      obtain ⟨e1, e2⟩ := h2.look_none hl
      rw [e1, e2] at hF
      rw [Sp.look, if_pos hk.1, Int.toNat_natCast] at hl
      have HF := hide hF
      have hI := h2.new hj hl r
      have hle := hI.le
      have c6 := h1.cell (j := 600) (by omega)
      rw [h2.many] at c6
      have f6 := h1.frozen 600 none
      have HW : Hid (Sp.Wiped (Sp.upd z 600 ((Sp.hcnt M : Int) + 1)) (Sp.hcnt M + 1)) := hide fun i g1 g2 => by
        rw [Sp.upd_other _ _ (by omega), Sp.upd_other _ _ (by omega)]; exact h3 i (by omega) g2
      have H1 := hide (And.intro h1 hI)
      generalize Sp.hcnt M = n at *
      have hwn : IntKind.i64.wrap ((n : Int) + 1) = (n : Int) + 1 := by rw [IntKind.wrap_i64]; omega
      clear hF e1 e2 h1 h2 h3 hl hI hk
      go_enter Try.func66, Try.ntmps66
      go_wp2_with fail
      go_at_call 83
      refine (unhide HK).mono ?_
      rintro e w' ⟨rfl, hw'⟩
      have := hw'.symm
      subst this
      go_wp2_with fail
      go_at_call 84
      refine (unhide HF).mono ?_
      rintro e w' ⟨rfl, hw'⟩
      have := hw'.symm
      subst this
      go_wp2_with fail
      refine (settle_any _ _ b (n + 1) n j r _ ((unhide H1).1.set 600 ((n : Int) + 1)) (unhide H1).2).mono ?_
      rintro e w4 ⟨z4, rfl, hb4, ha4, hi4, hu4⟩
      have HQ : Hid (But b w w4 ∧ HpIs w4 b (Sp.putK M (j : Int) r)) := hide ⟨((But.refl b w).set _ _ _).trans hb4, by rw [unhide HPK]; exact HpIs.of_settled ha4 hi4 (up_wiped (unhide HW) hu4)⟩
      clear hb4 ha4 hi4 hu4 H1 HW
      go_wp2
      go_ret
      exact ⟨rfl, unhide HQ⟩
    | some r0 =>
      obtain ⟨i, j', e1, e2, hi, ej, hj', e3, e4, e5⟩ := h2.look_some hl
      obtain rfl : j = j' := by omega
      rw [e1, e2] at hF
      have HF := hide hF
      have hI := h2.anew hi hj e3 r
      have H1 := hide (And.intro h1 (And.intro hI h3))
      generalize Sp.hcnt M = n at *
      clear hF e1 e2 h1 h2 h3 hl hI hk ej e3 e4 e5
      go_enter Try.func66, Try.ntmps66
      go_wp2_with fail
      go_at_call 83
      refine (unhide HK).mono ?_
      rintro e w' ⟨rfl, hw'⟩
      have := hw'.symm
      subst this
      go_wp2_with fail
      go_at_call 84
      refine (unhide HF).mono ?_
      rintro e w' ⟨rfl, hw'⟩
      have := hw'.symm
      subst this
      go_wp2_with fail
      refine (settle_any _ _ b n i j r _ (unhide H1).1 (unhide H1).2.1).mono ?_
      rintro e w4 ⟨z4, rfl, hb4, ha4, hi4, hu4⟩
      have HQ : Hid (But b w w4 ∧ HpIs w4 b (Sp.putK M (j : Int) r)) := hide ⟨hb4, by rw [unhide HPK]; exact HpIs.of_settled ha4 hi4 (up_wiped (unhide H1).2.2 hu4)⟩
      clear hb4 ha4 hi4 hu4 H1
      go_wp2
      go_ret
      exact ⟨rfl, unhide HQ⟩
  · rw [decide_eq_false hk] at hK ⊢
    have HQ : Hid (But b w w ∧ HpIs w b (Sp.putK M k r)) := hide ⟨But.refl _ _, by rw [Sp.putK, if_neg hk]; exact h⟩
    have HK := hide hK
    clear hK hk h
    go_enter Try.func66, Try.ntmps66
    go_wp2_with fail
    go_at_call 83
    refine (unhide HK).mono ?_
    rintro e w' ⟨rfl, hw'⟩
    have := hw'.symm
    subst this
    go_wp2
    go_ret
    exact ⟨rfl, unhide HQ⟩
end Go.Proofs.Ytoegjnolccabjab


