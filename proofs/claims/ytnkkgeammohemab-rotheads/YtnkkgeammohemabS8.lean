/- The walk of package rot: rounds. -/
import Derived.Test.YtnkkgeammohemabS7
namespace Go.Proofs.Ytnkkgeammohemab
open Go Go.RowKit

theorem piece_cell (wr : World) (v : Value) : ∀ j u, [v][j]? = some u → (wr.alloc (.cells #[v] 23)).cell? ((⟨wr.heap.size, 0, none⟩ : Addr).add j) = some u := by
  intro j u hj
  exact (World.ownsRow_lit (base := 0) (size := 1) (e := 23) wr #[v] 1 (Nat.zero_le _) (by unfold maxLen; omega) rfl).cells rfl j u hj
theorem dart_cell (wr : World) (a : Addr) (v x : Value) : ∀ j u, [v][j]? = some u → ((wr.setCell a x).alloc (.cells #[v] 3)).cell? ((⟨wr.heap.size, 0, none⟩ : Addr).add j) = some u := by
  intro j u hj
  have hs : wr.heap.size = (wr.setCell a x).heap.size := by simp
  rw [hs]
  exact (World.ownsRow_lit (base := 0) (size := 1) (e := 3) (wr.setCell a x) #[v] 1 (Nat.zero_le _) (by unfold maxLen; omega) rfl).cells rfl j u hj
theorem one_cell1 (v : Value) (h : v.oneCell' = true) : ∀ u ∈ [v], u.oneCell' = true := by
  intro u hu
  rw [List.mem_singleton] at hu
  rw [hu]; exact h
theorem row_far {B M n l' : Nat} {W wr : World} {row : List Int} {ps : List (Nat × Nat)} {lq : Value} (hl : row.length = l') (h : RKeep B M n W wr row ps lq) (d : Nat) {ob : Obj} : ((wr.setCell ⟨M, d, none⟩ (.bool true)).alloc ob).ownsRow B 3 1 (.slice (some ⟨B, 0, none⟩) l' n) l' (row.map (Value.int .i64)) := by
  subst hl
  have hm := h.met
  have hlt := h.lt
  unfold OwnB at hm
  rw [Sp.metL_len] at hm
  exact (World.ownsRow.kept h.rw1 (World.ownsRow.stored hm d (.bool true)).2 (.inr (by simp [Value.ownBlock]; omega))).alloc ob
set_option maxRecDepth 100000 in
set_option maxHeartbeats 2000000 in
theorem rounds_any (st : List Int) (sv : Value) (w : World) (hv : Ints w sv st) (hn : st.length ≤ 240) (hx : ∀ x ∈ st, 0 ≤ x ∧ x < (st.length : Int)) :
    Calls Try.prog 35 #[sv] w (RoundsPost st w) := by
  obtain ⟨sa, sc, rfl, hsc, hsm, HT⟩ := hv.all
  clear hv
  obtain ⟨iB, hiB, hB0, hB1, hB2⟩ := info_parts infoB
  obtain ⟨iI, hiI, hI0, hI1, hI2⟩ := info_parts info3
  obtain ⟨iL, hiL, hL0, hL1, hL2⟩ := info_parts infoL
  have Hx := hide hx
  clear hx
  unfold maxLen at hsm
  obtain ⟨n, hnn⟩ : ∃ n, st.length = n := ⟨_, rfl⟩
  obtain ⟨P, hP⟩ : ∃ P, P = RoundsPost st w := ⟨_, rfl⟩
  rw [← hP]
  have HP := hide hP
  clear hP
  rw [hnn] at hn hsc ⊢
  have Hnn := hide hnn
  clear hnn
  go_enter Try.func35, Try.ntmps35
  go_wp2
  go_step3
  go_wp2_with (at_make; refine wpList_make_own _ rfl _ _ 23 rfl w.heap.size 3 iI (.int .i64 0) 1 Try.underlying23 hiI hI0 hI1 .i64 .i64 _ n rfl rfl rfl (by rw [hI2]; omega) (by unfold maxLen; omega) (Nat.le_refl _) ?_)
  intro w1 hown1 hg1
  go_wp2_with (at_make; refine wpList_make_full _ rfl _ _ 56 rfl w.heap.size 4 iB (.bool false) 1 Try.underlying56 hiB hB0 hB1 .i64 .i64 _ _ n rfl rfl rfl rfl (by rw [hB2]; omega) (by unfold maxLen; omega) hg1.size ?_)
  intro w2 hown2 hg2
  have hs1 := (hown1.lt w.heap.size rfl).2
  have hle1 := hg1.size
  generalize w1.heap.size = M at *
  have HK0 : Hid (RKeep w.heap.size M n w w2 [] [] (.slice none 0 0) ∧ RFit n [] ∧ Sp.rgo st n 0 [] [] = Sp.rnds st) := by
    refine hide ⟨⟨?_, ?_, ?_, ?_, ?_, hs1⟩, ⟨by simp, by simp⟩, by rw [← unhide Hnn]; rfl⟩
    · exact hown1.kept hg2 (.inr (by simp [Value.ownBlock]))
    · unfold OwnB
      rw [Sp.metL_nil, List.length_replicate, ← made_bools']
      exact hown2
    · exact World.ownsRow_nil _ _ _ _
    · exact ((Below.refl _ w).grown hg1 (Nat.le_refl _) (by simp)).grown hg2 hg1.size (by simp)
    · exact (hown2.lt M rfl).2
  clear hown1 hg1 hown2 hg2 hs1 hle1
  go_wp2
  go_step3
  go_wp2
  go_loopg [4, 6, 18] n (fun g s4 s6 s18 wr => ∃ (k : Nat) (row : List Int) (ps : List (Nat × Nat)) (lq : Value), lq = s6 ∧ ps.length ≤ k ∧ k + g = n ∧ s18 = .int .i64 (k : Int) ∧ s4 = .slice (some ⟨w.heap.size, 0, none⟩) row.length n ∧ Hid (RKeep w.heap.size M n w wr row ps lq ∧ RFit n row ∧ Sp.rgo st g k row ps = Sp.rnds st))
  case atStart => exact ⟨0, [], [], _, rfl, Nat.le_refl _, by omega, rfl, rfl, HK0⟩
  case round =>
    clear HK0
    obtain ⟨k, row, ps, lq, rfl, hpk, hkg, rfl, rfl, HK⟩ := hrel
    obtain ⟨ll, hll⟩ : ∃ ll, row.length = ll := ⟨_, rfl⟩
    have hln : ll ≤ n := by rw [← hll]; exact (unhide HK).2.1.le
    have Hll := hide hll
    rw [hll]
    clear hll
    cases gk with
    | zero =>
      have hkn : k = n := by omega
      subst hkn
      have HF := (unhide HK)
      clear HK
      have HF := hide HF
      go_wp2
      rw [unhide HP]
      refine ⟨(unhide HF).1.bel, ?_, ?_⟩
      · intro row' ps' he
        obtain ⟨h1, h2, h3⟩ := unhide HF
        rw [he] at h3
        simp only [Sp.rgo, Option.some.injEq, Prod.mk.injEq] at h3
        obtain ⟨rfl, rfl⟩ := h3
        rw [unhide Hnn]
        exact ⟨_, rfl, h1.rw1, owns_base h1.ls (by have := h1.lt; omega)⟩
      · intro he
        have h3 := (unhide HF).2.2
        rw [he] at h3
        simp [Sp.rgo] at h3
    | succ g' =>
      have hlt : k < n := by omega
      have hltI : (k : Int) < (n : Int) := by omega
      have m1 := (unhide HK).1.metCell k hlt
      by_cases hm : (k : Int) ∈ row
      · rw [decide_eq_true hm] at m1
        have HN : Hid (RKeep w.heap.size M n w wr row ps lq ∧ RFit n row ∧ Sp.rgo st g' (k + 1) row ps = Sp.rnds st) := by
          obtain ⟨h1, h2, h3⟩ := unhide HK
          rw [Sp.rgo, if_pos hm] at h3
          exact hide ⟨h1, h2, h3⟩
        clear hm
        go_wp2
        go_roundg g'
        case rel => exact ⟨k + 1, row, ps, lq, rfl, by omega, by omega, by go_num, by rw [unhide Hll], HN⟩
        case measure => omega
      · rw [decide_eq_false hm] at m1
        have HM := hide hm
        clear hm
        go_wp2
        go_loopg [4, 6, 9] (n + 1 - ll) (fun g s4 s6 s9 wr => ∃ (d : Nat) (rw' : List Int) (l' : Nat) (lz : Value), lz = s6 ∧ lq = lz ∧ l' + g = n + 1 ∧ d < n ∧ s9 = .int .i64 (d : Int) ∧ s4 = .slice (some ⟨w.heap.size, 0, none⟩) l' n ∧ Hid (rw'.length = l' ∧ (ll < l' ∨ rw' = row) ∧ RKeep w.heap.size M n w wr rw' ps lq ∧ RFit n rw' ∧ Sp.walkR st k g d rw' = Sp.walkR st k (n + 1 - ll) k row))
        case atStart => exact ⟨k, row, ll, _, rfl, rfl, by omega, hlt, rfl, rfl, hide ⟨unhide Hll, .inr rfl, (unhide HK).1, (unhide HK).2.1, rfl⟩⟩
        case round =>
          obtain ⟨d, rw', l', lz, rfl, rfl, hlg, hdn, rfl, rfl, HI⟩ := hrel
          clear m1
          have hl'n : l' ≤ n := by rw [← (unhide HI).1]; exact (unhide HI).2.2.2.1.le
          have m2 := (unhide HI).2.2.1.metCell d hdn
          have f2 := (unhide HI).2.2.1.metOpen d
          have hdnI : (d : Int) < (n : Int) := by omega
          obtain ⟨g2, rfl⟩ : ∃ g2, gk = g2 + 1 := ⟨gk - 1, by omega⟩
          by_cases hd : (d : Int) ∈ rw'
          · rw [decide_eq_true hd] at m2
            by_cases hk : d = k
            · subst hk
              have hne : ll < l' := by
                rcases (unhide HI).2.1 with h | h
                · exact h
                · rw [h] at hd; exact absurd hd (unhide HM)
              have HN : Hid (Sp.rgo st g' (d + 1) rw' (ps ++ [(ll, l')]) = Sp.rnds st) := by
                have h3 := (unhide HK).2.2
                have h5 := (unhide HI).2.2.2.2
                rw [Sp.walkR, if_pos hd, if_pos rfl] at h5
                rw [Sp.rgo, if_neg (unhide HM), unhide Hnn, unhide Hll, ← h5] at h3
                simp only [(unhide HI).1] at h3
                exact hide h3
              have hkk : ((d : Int) == (d : Int)) = true := beq_self_eq_true _
              clear hd
              have HL := hide (unhide HI).2.2.1
              have hbig := (unhide HI).2.2.1.big
              have hpl : ps.length ≤ 240 := by omega
              go_wp2_with (at_builtin; refine wpList_append_own (w := wr.alloc (.cells #[.slice (some ⟨w.heap.size, ll, none⟩) (l' - ll) (l' - ll)] 23)) rfl _ _ 49 rfl (M + 1) 23 iL (.slice none 0 0) 1 24 Try.underlying49 hiL hL0 hL1 hL2 rfl (by decide) lq ps.length (ps.map (pieceV w.heap.size)) rfl (World.ownsRow.alloc (unhide HL).ls _) ⟨wr.heap.size, 0, none⟩ 1 1 [pieceV w.heap.size (ll, l')] rfl rfl (piece_cell wr _) (one_cell1 _ rfl) (by unfold maxLen; omega) (by omega) (by simp; omega) ?_)
              intro l6 w6 hown6 hgr6 hnil6
              have HN2 : Hid (RKeep w.heap.size M n w w6 rw' (ps ++ [(ll, l')]) l6 ∧ RFit n rw' ∧ Sp.rgo st g' (d + 1) rw' (ps ++ [(ll, l')]) = Sp.rnds st) := by
                have h1 := (unhide HI).1
                subst h1
                exact hide ⟨(unhide HL).round ll _ w6 hgr6 hown6, (unhide HI).2.2.2.1, unhide HN⟩
              clear hown6 hgr6 hnil6
              go_wp2
              go_roundg g'
              case rel => exact ⟨d + 1, rw', _, l6, rfl, by simp; omega, by omega, by go_num, by rw [(unhide HI).1], HN2⟩
              case measure => omega
            · have hkI : ((d : Int) == (k : Int)) = false := beq_eq_false_iff_ne.2 (by omega)
              have HN : Hid (Sp.rnds st = none) := by
                have h3 := (unhide HK).2.2
                have h5 := (unhide HI).2.2.2.2
                rw [Sp.walkR, if_pos hd, if_neg (by omega)] at h5
                rw [Sp.rgo, if_neg (unhide HM), unhide Hnn, unhide Hll, ← h5] at h3
                exact hide h3.symm
              clear hd
              go_wp2
              rw [unhide HP]
              refine ⟨(unhide HI).2.2.1.bel, ⟨?_, fun _ => rfl⟩⟩
              intro _ _ he
              rw [unhide HN] at he
              cases he
          · rw [decide_eq_false hd] at m2
            have HD := hide hd
            have hlt' : l' < n := by
              have := ((unhide HI).2.2.2.1.snoc d hdn hd).le
              rw [List.length_append, (unhide HI).1] at this
              simp only [List.length_cons, List.length_nil] at this
              omega
            obtain ⟨b, o, hsa, -, hcx⟩ := unhide HT d (by rw [unhide Hnn]; exact hdn)
            subst hsa
            obtain ⟨x, hxx⟩ : ∃ x : Nat, st[d]'(by rw [unhide Hnn]; exact hdn) = (x : Int) := ⟨(st[d]'(by rw [unhide Hnn]; exact hdn)).toNat, by have := unhide Hx _ (List.getElem_mem (by rw [unhide Hnn]; exact hdn)); omega⟩
            have hxn : x < n := by have := (unhide Hx _ (List.getElem_mem (l := st) (n := d) (by rw [unhide Hnn]; exact hdn))).2; rw [hxx, unhide Hnn] at this; omega
            rw [hxx] at hcx
            have HXX : Hid (st.getD (d : Int).toNat 0 = (x : Int)) := hide (by rw [Int.toNat_natCast, Sp.getD_eq _ _ (by rw [unhide Hnn]; exact hdn)]; exact hxx)
            have HCX := hide hcx
            have hbig := (unhide HI).2.2.1.big
            have hBM := (unhide HI).2.2.1.lt
            have HL := hide (unhide HI).2.2.1
            clear hd hxx hcx
            go_wp2_with (at_builtin; refine wpList_append_fits (wr.setCell ⟨M, d, none⟩ (.bool true) |>.alloc (.cells #[.int .i64 (d : Int)] 3)) rfl _ _ 23 rfl w.heap.size 3 iI 1 Try.underlying23 hiI hI1 w.heap.size l' n (rw'.map (Value.int .i64)) rfl (row_far (unhide HI).1 (unhide HL) d) ⟨wr.heap.size, 0, none⟩ 1 1 [.int .i64 (d : Int)] rfl rfl (dart_cell wr _ _ _) (one_cell1 _ rfl) (by omega) ?_)
            intro w6 hown6 hgr6
            have HK6 : Hid (RKeep w.heap.size M n w w6 (rw' ++ [(d : Int)]) ps lq) := by
              have h1 := (unhide HI).1
              subst h1
              exact hide ((unhide HL).push d _ w6 hgr6 hown6)
            have g6 := unhide HCX w6 (unhide HK6).bel
            clear hown6 hgr6 f2 m2
            go_wp2
            go_roundg g2
            case rel => 
              refine ⟨x, rw' ++ [(d : Int)], l' + 1, _, rfl, rfl, by omega, hxn, rfl, rfl, hide ⟨?_, ?_, unhide HK6, (unhide HI).2.2.2.1.snoc d hdn (unhide HD), ?_⟩⟩
              · rw [List.length_append, (unhide HI).1]; rfl
              · rcases (unhide HI).2.1 with h | h
                · exact .inl (by omega)
                · exact .inl (by rw [← (unhide HI).1, h, unhide Hll]; omega)
              · rw [← (unhide HI).2.2.2.2, Sp.walkR, if_neg (unhide HD), unhide HXX]
            case measure => omega
end Go.Proofs.Ytnkkgeammohemab


