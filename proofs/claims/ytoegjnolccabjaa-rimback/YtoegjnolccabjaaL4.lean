/- What the proof needs, part 4. -/
import Derived.Laws.CopyOwn
import Derived.Deep.RegionLaw
import Derived.Test.YtoegjnolccabjaaL3
/- Next ones that are each one's once: from each dart on the way comes round. -/
namespace Go.Proofs.Ytoegjnolccabjaa
open Go Go.RowKit

structure Sp.Perm (st : List Int) : Prop where
  bd : ∀ x ∈ st, 0 ≤ x ∧ x < (st.length : Int)
  inj : ∀ i j, i < st.length → j < st.length → st.getD i 0 = st.getD j 0 → i = j
theorem least_of {p : Nat → Prop} (h : ∃ n, p n) : ∃ n, p n ∧ ∀ m, p m → n ≤ m := by
  obtain ⟨n, hn⟩ := h
  induction n using Nat.strongRecOn with
  | _ n ih =>
    by_cases hm : ∃ m, m < n ∧ p m
    · obtain ⟨m, hlt, hp⟩ := hm
      exact ih m hlt hp
    · exact ⟨n, hn, fun m hp => Nat.le_of_not_lt fun hlt => hm ⟨m, hlt, hp⟩⟩
theorem Sp.Perm.back {st : List Int} (h : Sp.Perm st) {d : Nat} (hd : d < st.length) : ∀ i j, Sp.nth st d (i + j) = Sp.nth st d i → Sp.nth st d j = d
  | 0, j, e => by rw [Nat.zero_add] at e; exact e
  | i + 1, j, e => by
    refine Sp.Perm.back h hd i j ?_
    have b1 := Sp.nth_bd (d := (d : Int)) rfl h.bd (by omega) (by omega) (i + j)
    have b2 := Sp.nth_bd (d := (d : Int)) rfl h.bd (by omega) (by omega) i
    have e2 : st.getD (Sp.nth st d (i + j)).toNat 0 = st.getD (Sp.nth st d i).toNat 0 := by
      have : i + 1 + j = (i + j) + 1 := by omega
      rw [this] at e
      exact e
    have := h.inj _ _ (by omega) (by omega) e2
    omega
theorem Sp.Perm.twice {st : List Int} (h : Sp.Perm st) {d : Nat} (hd : d < st.length) : ∃ i j, i < j ∧ j ≤ st.length ∧ Sp.nth st d i = Sp.nth st d j := by
  apply Classical.byContradiction
  intro hno
  have hnd : (Sp.rounds st d (st.length + 1)).Nodup := by
    unfold List.Nodup
    rw [List.pairwise_iff_getElem]
    intro i j hi hj hij
    rw [Sp.rounds_len] at hi hj
    simp only [Sp.rounds, List.getElem_map, List.getElem_range]
    intro e
    exact hno ⟨i, j, hij, by omega, e⟩
  have hle := nodup_le st.length _ hnd (fun x hx => by
    obtain ⟨k, -, rfl⟩ := List.mem_map.1 hx
    exact Sp.nth_bd rfl h.bd (by omega) (by omega) k)
  rw [Sp.rounds_len] at hle
  omega
/-- From each dart on the way comes round. -/
theorem Sp.Perm.round {st : List Int} (h : Sp.Perm st) {d : Nat} (hd : d < st.length) : ∃ m, 1 ≤ m ∧ m ≤ st.length ∧ Sp.nth st d m = d ∧ ∀ i, 0 < i → i < m → Sp.nth st d i ≠ d := by
  obtain ⟨i, j, hij, hj, e⟩ := h.twice hd
  have e2 : Sp.nth st d (j - i) = d := h.back hd i (j - i) (by rw [show i + (j - i) = j by omega]; exact e.symm)
  obtain ⟨m, ⟨h1, h2⟩, h3⟩ := least_of (p := fun m => 1 ≤ m ∧ Sp.nth st d m = d) ⟨j - i, by omega, e2⟩
  refine ⟨m, h1, ?_, h2, fun k hk0 hk e3 => ?_⟩
  · have := h3 (j - i) ⟨by omega, e2⟩
    omega
  · have := h3 k ⟨by omega, e3⟩
    omega
theorem oth_inj {a b : Nat} (h : Sp.oth a = Sp.oth b) : a = b := by rw [← oth_oth a, h, oth_oth]
theorem Sp.Perm.behind {nx : List Int} (h : Sp.Perm nx) (hev : nx.length % 2 = 0) : Sp.Perm (Sp.behindL nx) := by
  refine ⟨?_, ?_⟩
  · rw [Sp.behindL_len]
    exact Sp.behindL_bd nx hev h.bd
  · intro i j hi hj e
    rw [Sp.behindL_len] at hi hj
    rw [Sp.behindL_get nx i hi, Sp.behindL_get nx j hj] at e
    exact oth_inj (h.inj _ _ (oth_lt hi hev) (oth_lt hj hev) e)
theorem getD_set_eq (l : List Int) (i j : Nat) (x : Int) (hj : j < l.length) : (l.set j x).getD i 0 = if i = j then x else l.getD i 0 := by
  by_cases h : i = j
  · subst h
    rw [if_pos rfl, List.getD_eq_getElem?_getD, List.getElem?_set_self hj]; rfl
  · rw [if_neg h, List.getD_eq_getElem?_getD, List.getElem?_set_ne (Ne.symm h), ← List.getD_eq_getElem?_getD]
/-- A dart that was its own next one, laid behind another. -/
theorem Sp.Perm.lay {l : List Int} (h : Sp.Perm l) (bh d : Nat) (hb : bh < l.length) (hd : d < l.length) (hfix : l.getD d 0 = (d : Int)) : Sp.Perm (Sp.layIn l bh d) := by
  have hlen : (Sp.layIn l bh d).length = l.length := by simp [Sp.layIn]
  have key : ∀ i, i < l.length → (Sp.layIn l bh d).getD i 0 = l.getD (if i = bh then d else if i = d then bh else i) 0 := by
    intro i hi
    unfold Sp.layIn
    rw [getD_set_eq _ _ _ _ (by rw [List.length_set]; exact hb), getD_set_eq _ _ _ _ hd]
    by_cases h1 : i = bh
    · rw [if_pos h1, if_pos h1, hfix]
    · rw [if_neg h1, if_neg h1]
      by_cases h2 : i = d
      · rw [if_pos h2, if_pos h2]
      · rw [if_neg h2, if_neg h2]
  have kb : ∀ i, i < l.length → (if i = bh then d else if i = d then bh else i) < l.length := by
    intro i hi
    split
    · exact hd
    · split
      · exact hb
      · exact hi
  refine ⟨?_, ?_⟩
  · intro x hx
    rw [hlen]
    obtain ⟨i, hi, rfl⟩ := List.mem_iff_getElem.1 hx
    rw [hlen] at hi
    rw [← Sp.getD_eq (Sp.layIn l bh d) i (by rw [hlen]; exact hi), key i hi]
    exact h.bd _ (Sp.getD_mem (kb i hi))
  · intro i j hi hj e
    rw [hlen] at hi hj
    rw [key i hi, key j hj] at e
    have := h.inj _ _ (kb i hi) (kb j hj) e
    split at this <;> split at this <;> (try split at this) <;> (try split at this) <;> omega
theorem Sp.Perm.add {l : List Int} (h : Sp.Perm l) : Sp.Perm (l ++ [(l.length : Int), ((l.length + 1 : Nat) : Int)]) := by
  have key : ∀ i, i < l.length + 2 → (l ++ [(l.length : Int), ((l.length + 1 : Nat) : Int)]).getD i 0 = if i < l.length then l.getD i 0 else (i : Int) := by
    intro i hi
    rw [List.getD_eq_getElem?_getD]
    by_cases h1 : i < l.length
    · rw [if_pos h1, List.getElem?_append_left h1, ← List.getD_eq_getElem?_getD]
    · rw [if_neg h1, List.getElem?_append_right (by omega)]
      have : i = l.length ∨ i = l.length + 1 := by omega
      rcases this with rfl | rfl
      · simp
      · simp
  have hlen : (l ++ [(l.length : Int), ((l.length + 1 : Nat) : Int)]).length = l.length + 2 := by simp
  have hold : ∀ i, i < l.length → 0 ≤ l.getD i 0 ∧ l.getD i 0 < (l.length : Int) := fun i hi => h.bd _ (Sp.getD_mem hi)
  refine ⟨?_, ?_⟩
  · intro x hx
    rw [hlen]
    rcases List.mem_append.1 hx with hx | hx
    · have := h.bd x hx; omega
    · simp only [List.mem_cons, List.not_mem_nil, or_false] at hx
      omega
  · intro i j hi hj e
    rw [hlen] at hi hj
    rw [key i hi, key j hj] at e
    by_cases h1 : i < l.length <;> by_cases h2 : j < l.length
    · rw [if_pos h1, if_pos h2] at e; exact h.inj _ _ h1 h2 e
    · rw [if_pos h1, if_neg h2] at e; have := hold i h1; omega
    · rw [if_neg h1, if_pos h2] at e; have := hold j h2; omega
    · rw [if_neg h1, if_neg h2] at e; omega
/-- How long the round from d on is. -/
def Sp.perGo (st : List Int) (d : Nat) : Nat → Nat → Nat
  | 0, m => m
  | f + 1, m => if Sp.nth st d m = d then m else Sp.perGo st d f (m + 1)
def Sp.per (st : List Int) (d : Nat) : Nat := Sp.perGo st d st.length 1
theorem Sp.perGo_eq (st : List Int) (d m : Nat) (h2 : Sp.nth st d m = d) (h3 : ∀ i, 0 < i → i < m → Sp.nth st d i ≠ d) : ∀ f i, 0 < i → i ≤ m → m < i + f → Sp.perGo st d f i = m
  | 0, i, _, h, h' => by omega
  | f + 1, i, h0, h, h' => by
    rw [Sp.perGo]
    by_cases e : i = m
    · subst e; rw [if_pos h2]
    · rw [if_neg (h3 i h0 (by omega))]
      exact Sp.perGo_eq st d m h2 h3 f (i + 1) (by omega) (by omega) (by omega)
theorem Sp.Perm.per {st : List Int} (h : Sp.Perm st) {d : Nat} (hd : d < st.length) : 1 ≤ Sp.per st d ∧ Sp.per st d ≤ st.length ∧ Sp.nth st d (Sp.per st d) = d ∧ ∀ i, 0 < i → i < Sp.per st d → Sp.nth st d i ≠ d := by
  obtain ⟨m, h1, h2, h3, h4⟩ := h.round hd
  have e : Sp.per st d = m := Sp.perGo_eq st d m h3 h4 st.length 1 (by omega) h1 (by omega)
  rw [e]
  exact ⟨h1, h2, h3, h4⟩
end Go.Proofs.Ytoegjnolccabjaa


/- The walk of package rot: rounds. -/
namespace Go.Proofs.Ytoegjnolccabjaa
open Go Go.RowKit

theorem piece_cell (wr : World) (v : Value) : ∀ j u, [v][j]? = some u → (wr.alloc (.cells #[v] 22)).cell? ((⟨wr.heap.size, 0, none⟩ : Addr).add j) = some u := by
  intro j u hj
  exact (World.ownsRow_lit (base := 0) (size := 1) (e := 22) wr #[v] 1 (Nat.zero_le _) (by unfold maxLen; omega) rfl).cells rfl j u hj
theorem dart_cell (wr : World) (a : Addr) (v x : Value) : ∀ j u, [v][j]? = some u → ((wr.setCell a x).alloc (.cells #[v] 3)).cell? ((⟨wr.heap.size, 0, none⟩ : Addr).add j) = some u := by
  intro j u hj
  have hs : wr.heap.size = (wr.setCell a x).heap.size := by simp
  rw [hs]
  exact (World.ownsRow_lit (base := 0) (size := 1) (e := 3) (wr.setCell a x) #[v] 1 (Nat.zero_le _) (by unfold maxLen; omega) rfl).cells rfl j u hj
theorem one_cell1 (v : Value) (h : v.oneCell' = true) : ∀ u ∈ [v], u.oneCell' = true := by
  intro u hu
  rw [List.mem_singleton] at hu
  rw [hu]; exact h
theorem row_far {B M n l' : Nat} {W wr : World} {row : List Int} {ps : List (Nat × Nat)} {lq : Value} (hl : row.length = l') (h : RKeep B M n W wr row ps lq) (d : Nat) {ob : Obj} : ((wr.setCell ⟨M, d, none⟩ (.bool true)).alloc ob).ownsRow B 3 1 (.slice (some ⟨B, 0, none⟩) l' n) l' (row.map (Value.int .i64)) := by
  subst hl
  have hm := h.met
  have hlt := h.lt
  unfold OwnB at hm
  rw [Sp.metL_len] at hm
  exact (World.ownsRow.kept h.rw1 (World.ownsRow.stored hm d (.bool true)).2 (.inr (by simp [Value.ownBlock]; omega))).alloc ob
set_option maxRecDepth 100000 in
set_option maxHeartbeats 2000000 in
theorem rounds_any (st : List Int) (sv : Value) (w : World) (hv : Ints w sv st) (hn : st.length ≤ 240) (hx : ∀ x ∈ st, 0 ≤ x ∧ x < (st.length : Int)) :
    Calls Try.prog 92 #[sv] w (RoundsPost st w) := by
  obtain ⟨sa, sc, rfl, hsc, hsm, HT⟩ := hv.all
  clear hv
  obtain ⟨iB, hiB, hB0, hB1, hB2⟩ := info_parts infoB
  obtain ⟨iI, hiI, hI0, hI1, hI2⟩ := info_parts info3
  obtain ⟨iL, hiL, hL0, hL1, hL2⟩ := info_parts infoL
  have Hx := hide hx
  clear hx
  unfold maxLen at hsm
  obtain ⟨n, hnn⟩ : ∃ n, st.length = n := ⟨_, rfl⟩
  obtain ⟨P, hP⟩ : ∃ P, P = RoundsPost st w := ⟨_, rfl⟩
  rw [← hP]
  have HP := hide hP
  clear hP
  rw [hnn] at hn hsc ⊢
  have Hnn := hide hnn
  clear hnn
  go_enter Try.func92, Try.ntmps92
  go_wp2
  go_step3
  go_wp2_with (at_make; refine wpList_make_own _ rfl _ _ 22 rfl w.heap.size 3 iI (.int .i64 0) 1 Try.underlying22 hiI hI0 hI1 .i64 .i64 _ n rfl rfl rfl (by rw [hI2]; omega) (by unfold maxLen; omega) (Nat.le_refl _) ?_)
  intro w1 hown1 hg1
  go_wp2_with (at_make; refine wpList_make_full _ rfl _ _ 47 rfl w.heap.size 4 iB (.bool false) 1 Try.underlying47 hiB hB0 hB1 .i64 .i64 _ _ n rfl rfl rfl rfl (by rw [hB2]; omega) (by unfold maxLen; omega) hg1.size ?_)
  intro w2 hown2 hg2
  have hs1 := (hown1.lt w.heap.size rfl).2
  have hle1 := hg1.size
  generalize w1.heap.size = M at *
  have HK0 : Hid (RKeep w.heap.size M n w w2 [] [] (.slice none 0 0) ∧ RFit n [] ∧ Sp.rgo st n 0 [] [] = Sp.rnds st) := by
    refine hide ⟨⟨?_, ?_, ?_, ?_, ?_, hs1⟩, ⟨by simp, by simp⟩, by rw [← unhide Hnn]; rfl⟩
    · exact hown1.kept hg2 (.inr (by simp [Value.ownBlock]))
    · unfold OwnB
      rw [Sp.metL_nil, List.length_replicate, ← made_bools']
      exact hown2
    · exact World.ownsRow_nil _ _ _ _
    · exact ((Below.refl _ w).grown hg1 (Nat.le_refl _) (by simp)).grown hg2 hg1.size (by simp)
    · exact (hown2.lt M rfl).2
  clear hown1 hg1 hown2 hg2 hs1 hle1
  go_wp2
  go_step3
  go_wp2
  go_loopg [4, 6, 18] n (fun g s4 s6 s18 wr => ∃ (k : Nat) (row : List Int) (ps : List (Nat × Nat)) (lq : Value), lq = s6 ∧ ps.length ≤ k ∧ k + g = n ∧ s18 = .int .i64 (k : Int) ∧ s4 = .slice (some ⟨w.heap.size, 0, none⟩) row.length n ∧ Hid (RKeep w.heap.size M n w wr row ps lq ∧ RFit n row ∧ Sp.rgo st g k row ps = Sp.rnds st))
  case atStart => exact ⟨0, [], [], _, rfl, Nat.le_refl _, by omega, rfl, rfl, HK0⟩
  case round =>
    clear HK0
    obtain ⟨k, row, ps, lq, rfl, hpk, hkg, rfl, rfl, HK⟩ := hrel
    obtain ⟨ll, hll⟩ : ∃ ll, row.length = ll := ⟨_, rfl⟩
    have hln : ll ≤ n := by rw [← hll]; exact (unhide HK).2.1.le
    have Hll := hide hll
    rw [hll]
    clear hll
    cases gk with
    | zero =>
      have hkn : k = n := by omega
      subst hkn
      have HF := (unhide HK)
      clear HK
      have HF := hide HF
      go_wp2
      rw [unhide HP]
      refine ⟨(unhide HF).1.bel, ?_, ?_⟩
      · intro row' ps' he
        obtain ⟨h1, h2, h3⟩ := unhide HF
        rw [he] at h3
        simp only [Sp.rgo, Option.some.injEq, Prod.mk.injEq] at h3
        obtain ⟨rfl, rfl⟩ := h3
        rw [unhide Hnn]
        exact ⟨_, rfl, h1.rw1, owns_base h1.ls (by have := h1.lt; omega)⟩
      · intro he
        have h3 := (unhide HF).2.2
        rw [he] at h3
        simp [Sp.rgo] at h3
    | succ g' =>
      have hlt : k < n := by omega
      have hltI : (k : Int) < (n : Int) := by omega
      have m1 := (unhide HK).1.metCell k hlt
      by_cases hm : (k : Int) ∈ row
      · rw [decide_eq_true hm] at m1
        have HN : Hid (RKeep w.heap.size M n w wr row ps lq ∧ RFit n row ∧ Sp.rgo st g' (k + 1) row ps = Sp.rnds st) := by
          obtain ⟨h1, h2, h3⟩ := unhide HK
          rw [Sp.rgo, if_pos hm] at h3
          exact hide ⟨h1, h2, h3⟩
        clear hm
        go_wp2
        go_roundg g'
        case rel => exact ⟨k + 1, row, ps, lq, rfl, by omega, by omega, by go_num, by rw [unhide Hll], HN⟩
        case measure => omega
      · rw [decide_eq_false hm] at m1
        have HM := hide hm
        clear hm
        go_wp2
        go_loopg [4, 6, 9] (n + 1 - ll) (fun g s4 s6 s9 wr => ∃ (d : Nat) (rw' : List Int) (l' : Nat) (lz : Value), lz = s6 ∧ lq = lz ∧ l' + g = n + 1 ∧ d < n ∧ s9 = .int .i64 (d : Int) ∧ s4 = .slice (some ⟨w.heap.size, 0, none⟩) l' n ∧ Hid (rw'.length = l' ∧ (ll < l' ∨ rw' = row) ∧ RKeep w.heap.size M n w wr rw' ps lq ∧ RFit n rw' ∧ Sp.walkR st k g d rw' = Sp.walkR st k (n + 1 - ll) k row))
        case atStart => exact ⟨k, row, ll, _, rfl, rfl, by omega, hlt, rfl, rfl, hide ⟨unhide Hll, .inr rfl, (unhide HK).1, (unhide HK).2.1, rfl⟩⟩
        case round =>
          obtain ⟨d, rw', l', lz, rfl, rfl, hlg, hdn, rfl, rfl, HI⟩ := hrel
          clear m1
          have hl'n : l' ≤ n := by rw [← (unhide HI).1]; exact (unhide HI).2.2.2.1.le
          have m2 := (unhide HI).2.2.1.metCell d hdn
          have f2 := (unhide HI).2.2.1.metOpen d
          have hdnI : (d : Int) < (n : Int) := by omega
          obtain ⟨g2, rfl⟩ : ∃ g2, gk = g2 + 1 := ⟨gk - 1, by omega⟩
          by_cases hd : (d : Int) ∈ rw'
          · rw [decide_eq_true hd] at m2
            by_cases hk : d = k
            · subst hk
              have hne : ll < l' := by
                rcases (unhide HI).2.1 with h | h
                · exact h
                · rw [h] at hd; exact absurd hd (unhide HM)
              have HN : Hid (Sp.rgo st g' (d + 1) rw' (ps ++ [(ll, l')]) = Sp.rnds st) := by
                have h3 := (unhide HK).2.2
                have h5 := (unhide HI).2.2.2.2
                rw [Sp.walkR, if_pos hd, if_pos rfl] at h5
                rw [Sp.rgo, if_neg (unhide HM), unhide Hnn, unhide Hll, ← h5] at h3
                simp only [(unhide HI).1] at h3
                exact hide h3
              have hkk : ((d : Int) == (d : Int)) = true := beq_self_eq_true _
              clear hd
              have HL := hide (unhide HI).2.2.1
              have hbig := (unhide HI).2.2.1.big
              have hpl : ps.length ≤ 240 := by omega
              go_wp2_with (at_builtin; refine wpList_append_own (w := wr.alloc (.cells #[.slice (some ⟨w.heap.size, ll, none⟩) (l' - ll) (l' - ll)] 22)) rfl _ _ 28 rfl (M + 1) 22 iL (.slice none 0 0) 1 24 Try.underlying28 hiL hL0 hL1 hL2 rfl (by decide) lq ps.length (ps.map (pieceV w.heap.size)) rfl (World.ownsRow.alloc (unhide HL).ls _) ⟨wr.heap.size, 0, none⟩ 1 1 [pieceV w.heap.size (ll, l')] rfl rfl (piece_cell wr _) (one_cell1 _ rfl) (by unfold maxLen; omega) (by omega) (by simp; omega) ?_)
              intro l6 w6 hown6 hgr6 hnil6
              have HN2 : Hid (RKeep w.heap.size M n w w6 rw' (ps ++ [(ll, l')]) l6 ∧ RFit n rw' ∧ Sp.rgo st g' (d + 1) rw' (ps ++ [(ll, l')]) = Sp.rnds st) := by
                have h1 := (unhide HI).1
                subst h1
                exact hide ⟨(unhide HL).round ll _ w6 hgr6 hown6, (unhide HI).2.2.2.1, unhide HN⟩
              clear hown6 hgr6 hnil6
              go_wp2
              go_roundg g'
              case rel => exact ⟨d + 1, rw', _, l6, rfl, by simp; omega, by omega, by go_num, by rw [(unhide HI).1], HN2⟩
              case measure => omega
            · have hkI : ((d : Int) == (k : Int)) = false := beq_eq_false_iff_ne.2 (by omega)
              have HN : Hid (Sp.rnds st = none) := by
                have h3 := (unhide HK).2.2
                have h5 := (unhide HI).2.2.2.2
                rw [Sp.walkR, if_pos hd, if_neg (by omega)] at h5
                rw [Sp.rgo, if_neg (unhide HM), unhide Hnn, unhide Hll, ← h5] at h3
                exact hide h3.symm
              clear hd
              go_wp2
              rw [unhide HP]
              refine ⟨(unhide HI).2.2.1.bel, ⟨?_, fun _ => rfl⟩⟩
              intro _ _ he
              rw [unhide HN] at he
              cases he
          · rw [decide_eq_false hd] at m2
            have HD := hide hd
            have hlt' : l' < n := by
              have := ((unhide HI).2.2.2.1.snoc d hdn hd).le
              rw [List.length_append, (unhide HI).1] at this
              simp only [List.length_cons, List.length_nil] at this
              omega
            obtain ⟨b, o, hsa, -, hcx⟩ := unhide HT d (by rw [unhide Hnn]; exact hdn)
            subst hsa
            obtain ⟨x, hxx⟩ : ∃ x : Nat, st[d]'(by rw [unhide Hnn]; exact hdn) = (x : Int) := ⟨(st[d]'(by rw [unhide Hnn]; exact hdn)).toNat, by have := unhide Hx _ (List.getElem_mem (by rw [unhide Hnn]; exact hdn)); omega⟩
            have hxn : x < n := by have := (unhide Hx _ (List.getElem_mem (l := st) (n := d) (by rw [unhide Hnn]; exact hdn))).2; rw [hxx, unhide Hnn] at this; omega
            rw [hxx] at hcx
            have HXX : Hid (st.getD (d : Int).toNat 0 = (x : Int)) := hide (by rw [Int.toNat_natCast, Sp.getD_eq _ _ (by rw [unhide Hnn]; exact hdn)]; exact hxx)
            have HCX := hide hcx
            have hbig := (unhide HI).2.2.1.big
            have hBM := (unhide HI).2.2.1.lt
            have HL := hide (unhide HI).2.2.1
            clear hd hxx hcx
            go_wp2_with (at_builtin; refine wpList_append_fits (wr.setCell ⟨M, d, none⟩ (.bool true) |>.alloc (.cells #[.int .i64 (d : Int)] 3)) rfl _ _ 22 rfl w.heap.size 3 iI 1 Try.underlying22 hiI hI1 w.heap.size l' n (rw'.map (Value.int .i64)) rfl (row_far (unhide HI).1 (unhide HL) d) ⟨wr.heap.size, 0, none⟩ 1 1 [.int .i64 (d : Int)] rfl rfl (dart_cell wr _ _ _) (one_cell1 _ rfl) (by omega) ?_)
            intro w6 hown6 hgr6
            have HK6 : Hid (RKeep w.heap.size M n w w6 (rw' ++ [(d : Int)]) ps lq) := by
              have h1 := (unhide HI).1
              subst h1
              exact hide ((unhide HL).push d _ w6 hgr6 hown6)
            have g6 := unhide HCX w6 (unhide HK6).bel
            clear hown6 hgr6 f2 m2
            go_wp2
            go_roundg g2
            case rel => 
              refine ⟨x, rw' ++ [(d : Int)], l' + 1, _, rfl, rfl, by omega, hxn, rfl, rfl, hide ⟨?_, ?_, unhide HK6, (unhide HI).2.2.2.1.snoc d hdn (unhide HD), ?_⟩⟩
              · rw [List.length_append, (unhide HI).1]; rfl
              · rcases (unhide HI).2.1 with h | h
                · exact .inl (by omega)
                · exact .inl (by rw [← (unhide HI).1, h, unhide Hll]; omega)
              · rw [← (unhide HI).2.2.2.2, Sp.walkR, if_neg (unhide HD), unhide HXX]
            case measure => omega
end Go.Proofs.Ytoegjnolccabjaa


/- What rounds tells is sound; the walk of package rot: turning. -/
namespace Go.Proofs.Ytoegjnolccabjaa
open Go Go.RowKit

theorem walkR_ok {st : List Int} {n : Nat} (hn : st.length = n) (hx : ∀ x ∈ st, 0 ≤ x ∧ x < (n : Int)) (least : Int) : ∀ f d row row', Sp.walkR st least f d row = some row' → 0 ≤ d → d < (n : Int) → RFit n row → RFit n row' ∧ least ∈ row' ∧ ∃ m, row' = row ++ m
  | 0, d, row, row', h, _, _, _ => by simp [Sp.walkR] at h
  | f + 1, d, row, row', h, h0, h1, hf => by
    rw [Sp.walkR] at h
    by_cases hd : d ∈ row
    · rw [if_pos hd] at h
      by_cases hl : d = least
      · rw [if_pos hl] at h
        cases h
        exact ⟨hf, hl ▸ hd, [], by simp⟩
      · rw [if_neg hl] at h
        cases h
    · rw [if_neg hd] at h
      have hdn : d.toNat < n := by omega
      have hdd : ((d.toNat : Nat) : Int) = d := by omega
      have hs := hf.snoc d.toNat hdn (by rw [hdd]; exact hd)
      rw [hdd] at hs
      have hb := hx _ (Sp.getD_mem (l := st) (k := d.toNat) (by omega))
      obtain ⟨r1, r2, m, r3⟩ := walkR_ok hn hx least f _ _ _ h hb.1 hb.2 hs
      exact ⟨r1, r2, d :: m, by rw [r3]; simp⟩
structure POk (n : Nat) (row : List Int) (ps : List (Nat × Nat)) : Prop where
  fit : RFit n row
  ok : ∀ p ∈ ps, p.1 < p.2 ∧ p.2 ≤ row.length
theorem rgo_ok {st : List Int} {n : Nat} (hn : st.length = n) (hx : ∀ x ∈ st, 0 ≤ x ∧ x < (n : Int)) : ∀ f k row ps row' ps', k + f = n → Sp.rgo st f k row ps = some (row', ps') → POk n row ps → POk n row' ps' ∧ ps'.length ≤ ps.length + f
  | 0, k, row, ps, row', ps', _, h, hp => by
    simp only [Sp.rgo, Option.some.injEq, Prod.mk.injEq] at h
    obtain ⟨rfl, rfl⟩ := h
    exact ⟨hp, by omega⟩
  | f + 1, k, row, ps, row', ps', hk, h, hp => by
    rw [Sp.rgo] at h
    by_cases hm : (k : Int) ∈ row
    · rw [if_pos hm] at h
      obtain ⟨r1, r2⟩ := rgo_ok hn hx f (k + 1) row ps row' ps' (by omega) h hp
      exact ⟨r1, by omega⟩
    · rw [if_neg hm] at h
      cases hw : Sp.walkR st k (st.length + 1 - row.length) k row with
      | none => rw [hw] at h; cases h
      | some row1 =>
        rw [hw] at h
        obtain ⟨q1, q2, m, q3⟩ := walkR_ok hn hx k _ _ _ _ hw (by omega) (by omega) hp.fit
        have hlen : row.length < row1.length := by
          cases m with
          | nil => rw [List.append_nil] at q3; subst q3; exact absurd q2 hm
          | cons a r => rw [q3]; simp
        obtain ⟨r1, r2⟩ := rgo_ok hn hx f (k + 1) row1 _ row' ps' (by omega) h ⟨q1, fun p hpm => by
          rcases List.mem_append.1 hpm with hpm | hpm
          · have := hp.ok p hpm; omega
          · rw [List.mem_singleton] at hpm; subst hpm; exact ⟨hlen, Nat.le_refl _⟩⟩
        exact ⟨r1, by simp at r2; omega⟩
theorem rnds_ok {st : List Int} (hx : ∀ x ∈ st, 0 ≤ x ∧ x < (st.length : Int)) {row : List Int} {ps : List (Nat × Nat)} (h : Sp.rnds st = some (row, ps)) : POk st.length row ps ∧ ps.length ≤ st.length := by
  have := rgo_ok rfl hx st.length 0 [] [] row ps (by omega) h ⟨⟨by simp, by simp⟩, by simp⟩
  simpa using this
def Sp.piece (row : List Int) (p : Nat × Nat) : List Int := (row.drop p.1).take (p.2 - p.1)
theorem Sp.piece_len {row : List Int} {p : Nat × Nat} (h : p.2 ≤ row.length) : (Sp.piece row p).length = p.2 - p.1 := by
  simp [Sp.piece]; omega
theorem Sp.piece_get {row : List Int} {p : Nat × Nat} (h : p.2 ≤ row.length) (j : Nat) (hj : j < (Sp.piece row p).length) : (Sp.piece row p)[j] = row[p.1 + j]'(by rw [Sp.piece_len h] at hj; omega) := by
  simp [Sp.piece]
def Sp.turnGo (tl row : List Int) : List (Nat × Nat) → List Int → Bool
  | [], _ => true
  | p :: r, bg => if tl.getD (row.getD p.1 0).toNat 0 ∈ bg then false
      else if (Sp.piece row p).all (fun d => tl.getD d.toNat 0 == tl.getD (row.getD p.1 0).toNat 0) then Sp.turnGo tl row r (bg ++ [tl.getD (row.getD p.1 0).toNat 0]) else false
def Sp.rndsD (st : List Int) : List Int × List (Nat × Nat) := (Sp.rnds st).getD ([], [])
/-- Are each vertex's darts one round? -/
def Sp.turningB (q : Sp.Net) : Bool := Sp.turnGo q.tail (Sp.rndsD q.next).1 (Sp.rndsD q.next).2 [] && (Sp.rnds q.next).isSome
theorem owns_all {w : World} {base n : Nat} {e : TypeId} {v : Value} {xs : List Value} (h : w.ownsRow base e 1 v n xs) :
    ∃ a c, v = .slice a n c ∧ n ≤ c ∧ c ≤ maxLen ∧ Hid (∀ k, (hk : k < xs.length) → ∃ b, a = some ⟨b, 0, none⟩ ∧ b < w.heap.size ∧ base ≤ b ∧ ∀ w', Below w.heap.size w w' → w'.cell? ⟨b, k, none⟩ = some xs[k]) := by
  have h0 := h
  obtain ⟨h1, h2 | ⟨g, cap, cur, rfl, hg, hh, hnc, hcm, hsz, htk⟩⟩ := h
  · obtain ⟨rfl, rfl⟩ := h2
    refine ⟨none, 0, rfl, by omega, by unfold maxLen; omega, hide fun k hk => ?_⟩
    omega
  · refine ⟨_, cap, rfl, hnc, hcm, hide fun k hk => ⟨g, rfl, (h0.lt g rfl).2, hg, fun w' hb => ?_⟩⟩
    have h3 := own_below h0 hb
    rw [World.ownsRow.cellAt h3 k (by omega), List.getElem?_eq_getElem hk]
/-- What rounds leaves, in one form. -/
theorem RoundsPost.one {st : List Int} {w w' : World} {e : Ending} (h : RoundsPost st w e w') (hx : ∀ x ∈ st, 0 ≤ x ∧ x < (st.length : Int)) :
    ∃ lv, e = .returned (.tuple #[lv, .bool (Sp.rnds st).isSome]) ∧ Below w.heap.size w w' ∧ (Sp.rndsD st).2.length ≤ st.length ∧ POk st.length (Sp.rndsD st).1 (Sp.rndsD st).2 ∧ w'.ownsRow w.heap.size 22 1 lv (Sp.rndsD st).2.length ((Sp.rndsD st).2.map (pieceV w.heap.size))
      ∧ (∀ k, (hk : k < (Sp.rndsD st).1.length) → ∀ w'', Below w'.heap.size w' w'' → w''.cell? ⟨w.heap.size, k, none⟩ = some (.int .i64 (Sp.rndsD st).1[k]) ∧ w''.frozen? ⟨w.heap.size, k, none⟩ = false) := by
  obtain ⟨hb, hs, hn⟩ := h
  unfold Sp.rndsD
  cases hr : Sp.rnds st with
  | none =>
    refine ⟨_, hn hr, hb, by simp, ⟨⟨by simp, by simp⟩, by simp⟩, World.ownsRow_nil _ _ _ _, ?_⟩
    intro k hk
    simp at hk
  | some rp =>
    obtain ⟨row, ps⟩ := rp
    obtain ⟨lv, he, ho, hl⟩ := hs row ps hr
    obtain ⟨h1, h2⟩ := rnds_ok hx hr
    refine ⟨lv, he, hb, h2, h1, hl, ?_⟩
    intro k hk w'' hb'
    have h3 : OwnI w'' w.heap.size (.slice (some ⟨w.heap.size, 0, none⟩) row.length st.length) row := own_below ho hb'
    exact ⟨own_cell h3 k hk, own_frozen h3 k⟩
end Go.Proofs.Ytoegjnolccabjaa


/- The walk of package rot: turning. -/
namespace Go.Proofs.Ytoegjnolccabjaa
open Go Go.RowKit

theorem all_take_snoc' {α : Type} (p : α → Bool) (L : List α) (k : Nat) (h : k < L.length) : (L.take (k + 1)).all p = ((L.take k).all p && p L[k]) := by
  rw [List.take_succ_eq_append_getElem h, List.all_append]; simp
theorem owns_bool {w : World} {base g n : Nat} {l : List Bool} (h : OwnB w base (.slice (some ⟨g, 0, none⟩) n n) l) (hl : l.length = n) (d : Nat) (hd : d < n) : w.cell? ⟨g, d, none⟩ = some (.bool (l[d]'(by omega))) := by
  unfold OwnB at h
  rw [hl] at h
  rw [World.ownsRow.cellAt h d (by omega), List.getElem?_eq_getElem (by simp; omega)]
  simp
set_option maxRecDepth 100000 in
set_option maxHeartbeats 2000000 in
theorem turning_any (q : Sp.Net) (v tv nv cv : Value) (w : World) (hv : NetI w v q tv nv cv) (hq1 : q.tail.length = q.next.length) (hn : q.next.length ≤ 240) (hx : ∀ x ∈ q.next, 0 ≤ x ∧ x < (q.next.length : Int)) (hN0 : 0 ≤ q.n) (hN1 : q.n ≤ 60) (ht : ∀ x ∈ q.tail, 0 ≤ x ∧ x < q.n) :
    Calls Try.prog 78 #[v] w fun e w' => e = .returned (.bool (Sp.turningB q)) ∧ Below w.heap.size w w' := by
  obtain ⟨rfl, h1, h2, h3⟩ := hv
  obtain ⟨ta, tc, rfl, htc, htm, HT⟩ := h1.all
  have h2' := h2
  obtain ⟨na, nc, rfl, -, -⟩ := h2.form
  obtain ⟨ca, cc, rfl, -, -⟩ := h3.form
  clear h1 h2 h3
  obtain ⟨iB, hiB, hB0, hB1, hB2⟩ := info_parts infoB
  obtain ⟨N, hN⟩ : ∃ N : Nat, q.n = (N : Int) := ⟨q.n.toNat, by omega⟩
  rw [hN] at hN0 hN1 ht ⊢
  have HBX := hide (box_new w (N : Int) (.slice ta q.tail.length tc) (.slice na q.next.length nc) (.slice ca q.cap.length cc))
  obtain ⟨W1, hW1⟩ : ∃ W1, W1 = w.alloc (.cells #[.int .i64 (N : Int), .slice ta q.tail.length tc, .slice na q.next.length nc, .slice ca q.cap.length cc] 25) := ⟨_, rfl⟩
  rw [← hW1] at HBX
  have hb1 : Below w.heap.size w W1 := by rw [hW1]; exact (Below.refl _ w).alloc (Nat.le_refl _) _
  have hs1 : W1.heap.size = w.heap.size + 1 := by rw [hW1]; simp
  have HW : Hid (∀ w', Below (w.heap.size + 1) W1 w' → Below w.heap.size w w') := hide fun w' hb => hb1.trans (hb.mono (by omega))
  have HS1 := hide hs1
  have HN1 := hide (h2'.below hb1)
  have HX := hide hx
  have Ht := hide ht
  have Hq1 := hide hq1
  have hx2 := (unhide HBX W1 (Below.refl _ _)).2.2.1
  have Hq : Hid (Sp.turningB q = (Sp.turnGo q.tail (Sp.rndsD q.next).1 (Sp.rndsD q.next).2 [] && (Sp.rnds q.next).isSome)) := hide rfl
  generalize Sp.turningB q = R at *
  clear hb1 hs1 h2' hx ht hq1 hN
  subst hW1
  have HC := hide (rounds_any q.next _ (w.alloc (.cells #[.int .i64 (N : Int), .slice ta q.tail.length tc, .slice na q.next.length nc, .slice ca q.cap.length cc] 25)) (unhide HN1) hn (unhide HX))
  go_enter Try.func78, Try.ntmps78
  go_wp2_with fail
  go_at_call 92
  refine (unhide HC).mono ?_
  clear HC
  generalize w.alloc (.cells #[.int .i64 (N : Int), .slice ta q.tail.length tc, .slice na q.next.length nc, .slice ca q.cap.length cc] 25) = W1 at *
  intro e w2 hpost
  obtain ⟨lv, rfl, hb2, hpl, hpo, hls, hcells⟩ := hpost.one (unhide HX)
  clear hpost
  generalize (Sp.rndsD q.next).1 = row at *
  generalize (Sp.rndsD q.next).2 = ps at *
  generalize (Sp.rnds q.next).isSome = is at *
  rw [unhide HS1] at hb2 hls hcells
  have hle2 := hb2.size
  rw [unhide HS1] at hle2
  have Hb2 := hide hb2
  obtain ⟨la, lc, rfl, hlc, hlm, HL⟩ := owns_all hls
  have HPO := hide hpo
  have HCE := hide hcells
  obtain ⟨y0, y1, y2, y3, -⟩ := unhide HBX _ hb2
  clear hls hpo hcells hx2 y3 y2 y1
  go_wp2_with (at_make; refine wpList_make_full _ rfl _ _ 47 rfl w2.heap.size 4 iB (.bool false) 1 Try.underlying47 hiB hB0 hB1 .i64 .i64 _ _ N rfl rfl rfl rfl (by rw [hB2]; omega) (by unfold maxLen; omega) (Nat.le_refl _) ?_)
  intro w3 hown3 hg3
  have HO3 : Hid (OwnB w3 w2.heap.size (.slice (some ⟨w2.heap.size, 0, none⟩) N N) (Sp.metL N [])) := by
    refine hide ?_
    unfold OwnB
    rw [Sp.metL_nil, List.length_replicate, ← made_bools']
    exact hown3
  have hb3 : Below w2.heap.size w2 w3 := (Below.refl _ _).grown hg3 (Nat.le_refl _) (by simp)
  have HB3 := hide hb3
  clear hown3 hg3 hb3 y0 hb2
  go_wp2
  go_loopg [22] ps.length (fun g i wr => ∃ (k : Nat) (bg : List Int), k + g = ps.length ∧ i = .int .i64 (k : Int) ∧ Hid (Below w2.heap.size w2 wr ∧ OwnB wr w2.heap.size (.slice (some ⟨w2.heap.size, 0, none⟩) N N) (Sp.metL N bg) ∧ Sp.turnGo q.tail row ps [] = Sp.turnGo q.tail row (ps.drop k) bg))
  case atStart => exact ⟨0, [], by omega, rfl, hide ⟨unhide HB3, unhide HO3, by simp⟩⟩
  case round =>
    clear HO3 HB3
    obtain ⟨k, bg, hkg, rfl, HI⟩ := hrel
    cases gk with
    | zero =>
      obtain rfl : k = ps.length := by omega
      have HF : Hid (R = is) := by
        have := (unhide HI).2.2
        rw [List.drop_eq_nil_of_le (Nat.le_refl _), Sp.turnGo] at this
        rw [this] at Hq
        simpa using Hq
      have HBf : Hid (Below w.heap.size w wr) := hide (unhide HW _ ((unhide Hb2).trans ((unhide HI).1.mono (by omega))))
      go_wp2
      go_ret
      exact ⟨by rw [unhide HF]; rfl, unhide HBf⟩
    | succ g' =>
      have hlt : k < ps.length := by omega
      have hltI : (k : Int) < (ps.length : Int) := by omega
      have hpk := (unhide HPO).ok ps[k] (List.getElem_mem hlt)
      have HTG : Hid (Sp.turnGo q.tail row (ps.drop k) bg = Sp.turnGo q.tail row (ps[k] :: ps.drop (k + 1)) bg) := hide (by rw [← List.drop_eq_getElem_cons hlt])
      obtain ⟨lb, hla, hlbs, -, hlcell⟩ := unhide HL k (by simpa using hlt)
      subst hla
      have hlc1 := hlcell wr (unhide HI).1
      rw [List.getElem_map] at hlc1
      generalize ps[k] = pp at *
      obtain ⟨b, e⟩ := pp
      obtain ⟨hbe, herow⟩ := hpk
      simp only at hbe herow
      have hlc2 : wr.cell? ⟨lb, k, none⟩ = some (.slice (some ⟨w.heap.size + 1, b, none⟩) (e - b) (e - b)) := hlc1
      clear hlc1 hlcell
      have hBw : Below w.heap.size w wr := unhide HW _ ((unhide Hb2).trans ((unhide HI).1.mono (by omega)))
      have HBw := hide hBw
      have y1 := (unhide HBX _ ((unhide Hb2).trans ((unhide HI).1.mono (by omega)))).2.1
      have hrb : b < row.length := by omega
      have c1 := (unhide HCE b hrb wr (unhide HI).1).1
      have hbd := (unhide HPO).fit.bd row[b] (List.getElem_mem hrb)
      have HG1 : Hid (row.getD b 0 = row[b]) := hide (Sp.getD_eq _ _ hrb)
      generalize row[b] = rb at *
      obtain ⟨x, rfl⟩ : ∃ x : Nat, rb = (x : Int) := ⟨rb.toNat, by omega⟩
      have hxt : x < q.tail.length := by rw [unhide Hq1]; omega
      obtain ⟨tb, to', hta, -, htcell⟩ := unhide HT x hxt
      subst hta
      have c2 := htcell wr hBw
      have hbt := unhide Ht q.tail[x] (List.getElem_mem hxt)
      have HG2 : Hid (q.tail.getD (row.getD b 0).toNat 0 = q.tail[x]) := hide (by rw [unhide HG1, Int.toNat_natCast]; exact Sp.getD_eq _ _ hxt)
      generalize q.tail[x] = tx at *
      obtain ⟨vv, rfl⟩ : ∃ vv : Nat, tx = (vv : Int) := ⟨tx.toNat, by omega⟩
      have hvN : vv < N := by omega
      have hvI : (vv : Int) < (N : Int) := by omega
      have hxI : (x : Int) < (q.tail.length : Int) := by omega
      have c3 := owns_bool (unhide HI).2.1 (Sp.metL_len _ _) vv hvN
      rw [Sp.metL_get] at c3
      have f3 : wr.frozen? ⟨w2.heap.size, vv, none⟩ = false := by
        have h := (unhide HI).2.1
        unfold OwnB at h
        rw [Sp.metL_len] at h
        exact World.ownsRow.frozenAt h vv
      have hm0 : (0 : Int) < ((e - b : Nat) : Int) := by omega
      have hm00 : 0 < e - b := by omega
      have he240 : e ≤ 240 := by have := (unhide HPO).fit.le; omega
      have HTG2 : Hid (Sp.turnGo q.tail row ps [] = if (vv : Int) ∈ bg then false else if (Sp.piece row (b, e)).all (fun d => q.tail.getD d.toNat 0 == (vv : Int)) then Sp.turnGo q.tail row (ps.drop (k + 1)) (bg ++ [(vv : Int)]) else false) := by
        refine hide ?_
        rw [(unhide HI).2.2, unhide HTG, Sp.turnGo, unhide HG2]
      clear htcell HTG hbd hbt hBw
      by_cases hmem : (vv : Int) ∈ bg
      · rw [decide_eq_true hmem] at c3
        have HF : Hid (R = false) := by
          have h := unhide HTG2
          rw [if_pos hmem] at h
          rw [h] at Hq
          simpa using Hq
        clear hmem
        go_wp2
        go_quiet (fail)
        go_wp2
        go_ret
        exact ⟨by rw [unhide HF]; rfl, below_dn (unhide HBw) _⟩
      · rw [decide_eq_false hmem] at c3
        have HMem := hide hmem
        clear hmem
        go_wp2
        go_quiet (fail)
        go_wp2
        have HM : Hid (Below w2.heap.size w2 ((wr.drewN nq).setCell ⟨w2.heap.size, vv, none⟩ (.bool true)) ∧ OwnB ((wr.drewN nq).setCell ⟨w2.heap.size, vv, none⟩ (.bool true)) w2.heap.size (.slice (some ⟨w2.heap.size, 0, none⟩) N N) (Sp.metL N (bg ++ [(vv : Int)]))) := by
          refine hide ⟨(below_dn (unhide HI).1 nq).setCell (by exact Nat.le_refl _) _, ?_⟩
          have h := (unhide HI).2.1
          unfold OwnB at h ⊢
          rw [Sp.metL_len] at h ⊢
          have h2 : (wr.drewN nq).ownsRow w2.heap.size 4 1 (.slice (some ⟨w2.heap.size, 0, none⟩) N N) N ((Sp.metL N bg).map Value.bool) := h
          have h3 := (World.ownsRow.stored h2 vv (.bool true)).1
          rw [← Sp.metL_set, List.map_set]
          exact h3
        clear c1 c2 c3 f3 y1 hlc2 HBw
        generalize (wr.drewN nq).setCell ⟨w2.heap.size, vv, none⟩ (.bool true) = wm at *
        have HBw : Hid (Below w.heap.size w wm) := hide (unhide HW _ ((unhide Hb2).trans ((unhide HM).1.mono (by omega))))
        have y1 := (unhide HBX _ ((unhide Hb2).trans ((unhide HM).1.mono (by omega)))).2.1
        have HPL : Hid ((Sp.piece row (b, e)).length = e - b) := hide (Sp.piece_len herow)
        go_loop [42] (fun i => ∃ j : Nat, j ≤ e - b ∧ i = .int .i64 (j : Int) ∧ Hid (((Sp.piece row (b, e)).take j).all (fun d => q.tail.getD d.toNat 0 == (vv : Int)) = true)) (fun i => e - b - (intOf i).toNat)
        case atStart => exact ⟨0, by omega, rfl, hide rfl⟩
        case round =>
          obtain ⟨j, hj, rfl, HA⟩ := hrel
          by_cases hjl : j < e - b
          · have hjI : (j : Int) < ((e - b : Nat) : Int) := by omega
            have HJ := hide hjl
            have hrj : b + j < row.length := by omega
            have c1 := (unhide HCE (b + j) hrj wm (unhide HM).1).1
            have hbd := (unhide HPO).fit.bd row[b + j] (List.getElem_mem hrj)
            have HS : Hid (((Sp.piece row (b, e)).take (j + 1)).all (fun d => q.tail.getD d.toNat 0 == (vv : Int)) = (((Sp.piece row (b, e)).take j).all (fun d => q.tail.getD d.toNat 0 == (vv : Int)) && (q.tail.getD row[b + j].toNat 0 == (vv : Int)))) := hide (by
              rw [all_take_snoc' _ _ j (by rw [unhide HPL]; exact hjl), Sp.piece_get herow])
            have HX2 : Hid ((q.tail.getD row[b + j].toNat 0 == (vv : Int)) = false → (Sp.piece row (b, e)).all (fun d => q.tail.getD d.toNat 0 == (vv : Int)) = false) := hide (fun h => by
              rw [List.all_eq_false]
              refine ⟨_, List.getElem_mem (l := Sp.piece row (b, e)) (n := j) (by rw [unhide HPL]; exact hjl), ?_⟩
              rw [Sp.piece_get herow, h]; simp)
            generalize row[b + j] = rj at *
            obtain ⟨x2, rfl⟩ : ∃ x2 : Nat, rj = (x2 : Int) := ⟨rj.toNat, by omega⟩
            have hxt2 : x2 < q.tail.length := by rw [unhide Hq1]; omega
            obtain ⟨tb2, to2, hta, -, htcell⟩ := unhide HT x2 hxt2
            injection hta with hta
            injection hta with hta1 hta2
            subst hta1 hta2
            have c2 := htcell wm (unhide HBw)
            have HG : Hid (q.tail.getD (x2 : Int).toNat 0 = q.tail[x2]) := hide (by rw [Int.toNat_natCast]; exact Sp.getD_eq _ _ hxt2)
            have hx2I : (x2 : Int) < (q.tail.length : Int) := by omega
            rw [unhide HG] at HS HX2
            generalize q.tail[x2] = t2 at *
            clear htcell hbd
            by_cases hc : t2 = (vv : Int)
            · subst hc
              have hkk : (((vv : Int)) != (vv : Int)) = false := by simp
              have HN : Hid (((Sp.piece row (b, e)).take (j + 1)).all (fun d => q.tail.getD d.toNat 0 == (vv : Int)) = true) := hide (by rw [unhide HS, unhide HA]; simp)
              go_wp2
              go_round
              case rel => exact ⟨j + 1, unhide HJ, by go_num, HN⟩
              case measure =>
                simp [intOf]
                omega
            · have hkk : (t2 != (vv : Int)) = true := by simpa using hc
              have HF : Hid (R = false) := by
                have h := unhide HTG2
                rw [if_neg (unhide HMem), unhide HX2 (by simpa using hc)] at h
                rw [h] at Hq
                simpa using Hq
              go_wp2
              go_ret
              exact ⟨by rw [unhide HF]; rfl, unhide HBw⟩
          · obtain rfl : j = e - b := by omega
            have HTG3 : Hid (Sp.turnGo q.tail row ps [] = Sp.turnGo q.tail row (ps.drop (k + 1)) (bg ++ [(vv : Int)])) := by
              have h := unhide HTG2
              have hA := unhide HA
              rw [List.take_of_length_le (by rw [unhide HPL]; exact Nat.le_refl _)] at hA
              rw [if_neg (unhide HMem), hA] at h
              exact hide h
            go_wp2
            go_roundg g'
            case rel => exact ⟨k + 1, bg ++ [(vv : Int)], by omega, by go_num, hide ⟨(unhide HM).1, (unhide HM).2, unhide HTG3⟩⟩
            case measure => omega
end Go.Proofs.Ytoegjnolccabjaa


/- The walk of package rot: Faces. -/
namespace Go.Proofs.Ytoegjnolccabjaa
open Go Go.RowKit

structure WalkQ (q : Sp.Net) : Prop where
  n1 : q.n ≤ 60
  n0 : 0 ≤ q.n
  big : q.tail.length ≤ 240
  ev : q.tail.length % 2 = 0
  nx : q.next.length = q.tail.length
  cp : q.cap.length = q.tail.length
  nb : ∀ x ∈ q.next, 0 ≤ x ∧ x < (q.next.length : Int)
  tb : ∀ x ∈ q.tail, 0 ≤ x ∧ x < q.n
theorem walkQ {q : Sp.Net} (h : Sp.walkB q = true) : WalkQ q := by
  simp only [Sp.walkB, Sp.fewB, Sp.matchedB, Sp.placedB, Bool.and_eq_true, decide_eq_true_eq, List.all_eq_true, Sp.inB] at h
  obtain ⟨⟨h1, h2⟩, ⟨⟨h3, h4, h5⟩, h6⟩, h7, h8⟩ := h
  exact ⟨h1, h8, h2, h3, h4, h5, fun x hx => by rw [h4]; exact h6 x hx, h7⟩
theorem walkB_of {q : Sp.Net} (h : WalkQ q) : Sp.walkB q = true := by
  simp only [Sp.walkB, Sp.fewB, Sp.matchedB, Sp.placedB, Bool.and_eq_true, decide_eq_true_eq, List.all_eq_true, Sp.inB]
  exact ⟨⟨h.n1, h.big⟩, ⟨⟨h.ev, h.nx, h.cp⟩, fun x hx => by rw [← h.nx]; exact h.nb x hx⟩, h.tb, h.n0⟩
def Sp.paint (k : Int) (of : List Int) (ds : List Int) : List Int := ds.foldl (fun o d => o.set d.toNat k) of
theorem Sp.paint_len (k : Int) : ∀ (ds of : List Int), (Sp.paint k of ds).length = of.length
  | [], _ => rfl
  | d :: r, of => by
    show (Sp.paint k (of.set d.toNat k) r).length = _
    rw [Sp.paint_len k r]; simp
def Sp.facesGo (row : List Int) : List (Nat × Nat) → Nat → List Int → List Int
  | [], _, of => of
  | p :: r, k, of => Sp.facesGo row r (k + 1) (Sp.paint k of (Sp.piece row p))
/-- Each dart's face. -/
def Sp.facesL (q : Sp.Net) : List Int := Sp.facesGo (Sp.rndsD (Sp.behindL q.next)).1 (Sp.rndsD (Sp.behindL q.next)).2 0 (List.replicate q.tail.length 0)
def Sp.facesN (q : Sp.Net) : Nat := max (Sp.rndsD (Sp.behindL q.next)).2.length 1
theorem ret_tup (a : Value) {x y : Int} (h : x = y) : Ending.returned (.tuple #[a, .int .i64 x]) = Ending.returned (.tuple #[a, .int .i64 y]) := by rw [h]
set_option maxRecDepth 100000 in
set_option maxHeartbeats 2000000 in
theorem faces_any (q : Sp.Net) (v tv nv cv : Value) (w : World) (hv : NetI w v q tv nv cv) (hw : Sp.walkB q = true) :
    Calls Try.prog 81 #[v] w fun e w' => ∃ fv, e = .returned (.tuple #[fv, .int .i64 ((Sp.facesN q : Nat) : Int)]) ∧ OwnI w' w.heap.size fv (Sp.facesL q) ∧ Below w.heap.size w w' := by
  have hq := walkQ hw
  have hv' := hv
  obtain ⟨rfl, h1, h2, h3⟩ := hv
  obtain ⟨ta, tc, rfl, htc, htm⟩ := h1.form
  obtain ⟨na, nc, rfl, -, -⟩ := h2.form
  obtain ⟨ca, cc, rfl, -, -⟩ := h3.form
  clear h1 h2 h3
  have HBX := hide (box_new w q.n (.slice ta q.tail.length tc) (.slice na q.next.length nc) (.slice ca q.cap.length cc))
  obtain ⟨W1, hW1⟩ : ∃ W1, W1 = w.alloc (.cells #[.int .i64 q.n, .slice ta q.tail.length tc, .slice na q.next.length nc, .slice ca q.cap.length cc] 25) := ⟨_, rfl⟩
  rw [← hW1] at HBX
  have hb1 : Below w.heap.size w W1 := by rw [hW1]; exact (Below.refl _ w).alloc (Nat.le_refl _) _
  have hs1 : W1.heap.size = w.heap.size + 1 := by rw [hW1]; simp
  have HW : Hid (∀ w', Below (w.heap.size + 1) W1 w' → Below w.heap.size w w') := hide fun w' hb => hb1.trans (hb.mono (by omega))
  have HS1 := hide hs1
  have HV : Hid (∀ w', Below (w.heap.size + 1) W1 w' → NetI w' (.agg #[.int .i64 q.n, .slice ta q.tail.length tc, .slice na q.next.length nc, .slice ca q.cap.length cc]) q (.slice ta q.tail.length tc) (.slice na q.next.length nc) (.slice ca q.cap.length cc)) := hide fun w' hb => hv'.below (unhide HW _ hb)
  have HC1 := hide (rwalkable_any q _ _ _ _ W1 (unhide HV W1 (Below.refl _ _)))
  rw [hw] at HC1
  have Hb := Sp.behindL_bd q.next (by rw [hq.nx]; exact hq.ev) hq.nb
  have Hl := Sp.behindL_len q.next
  have HQ := hide hq
  have hbig := hq.big
  have HF1 : Hid (Sp.facesL q = Sp.facesGo (Sp.rndsD (Sp.behindL q.next)).1 (Sp.rndsD (Sp.behindL q.next)).2 0 (List.replicate q.tail.length 0)) := hide rfl
  have HF2 : Hid (Sp.facesN q = max (Sp.rndsD (Sp.behindL q.next)).2.length 1) := hide rfl
  generalize Sp.facesL q = R at *
  generalize Sp.facesN q = RN at *
  have HBD : Hid (∀ x ∈ Sp.behindL q.next, 0 ≤ x ∧ x < ((Sp.behindL q.next).length : Int)) := hide (by rw [Hl]; exact Hb)
  have HLN := hide Hl
  obtain ⟨x0, x1, x2, x3, -⟩ := unhide HBX W1 (Below.refl _ _)
  clear hb1 hs1 hv' hw hq Hb Hl
  obtain ⟨P, hP⟩ : ∃ P : Ending → World → Prop, P = fun e w' => ∃ fv, e = .returned (.tuple #[fv, .int .i64 ((RN : Nat) : Int)]) ∧ OwnI w' w.heap.size fv R ∧ Below w.heap.size w w' := ⟨_, rfl⟩
  rw [← hP]
  have HP := hide hP
  clear hP
  subst hW1
  go_enter Try.func81, Try.ntmps81
  go_wp2_with fail
  go_at_call 83
  refine (unhide HC1).mono ?_
  clear HC1 x0 x1 x2 x3
  generalize w.alloc (.cells #[.int .i64 q.n, .slice ta q.tail.length tc, .slice na q.next.length nc, .slice ca q.cap.length cc] 25) = W1 at *
  rintro e w2 ⟨rfl, hb2⟩
  rw [unhide HS1] at hb2
  obtain ⟨x0, x1, x2, x3, hsz2⟩ := unhide HBX w2 hb2
  have HC2 := hide (behind_any q _ _ _ _ w2 (unhide HV w2 hb2) (by rw [(unhide HQ).nx]; exact (unhide HQ).ev) (by rw [(unhide HQ).nx]; exact (unhide HQ).big))
  have Hb2 := hide hb2
  clear hb2
  go_wp2_with fail
  go_at_call 85
  refine (unhide HC2).mono ?_
  clear HC2
  rintro e w3 ⟨sv, rfl, hown3, hb3⟩
  have hown3' : OwnI w3 w2.heap.size sv (Sp.behindL q.next) := hown3
  have HC3 := hide (rounds_any (Sp.behindL q.next) sv w3 hown3'.ints (by rw [unhide HLN, (unhide HQ).nx]; exact (unhide HQ).big) (unhide HBD))
  have Hb3 : Hid (Below (w.heap.size + 1) W1 w3) := hide ((unhide Hb2).trans (hb3.mono hsz2))
  have hsz3 := Nat.le_trans hsz2 hb3.size
  clear hown3 hown3' hb3 x0 x1 x2 x3
  go_wp2_with fail
  go_at_call 92
  refine (unhide HC3).mono ?_
  clear HC3
  intro e w4 hpost
  obtain ⟨lv, rfl, hb4, hpl, hpo, hls, hcells⟩ := hpost.one (unhide HBD)
  clear hpost
  generalize (Sp.rndsD (Sp.behindL q.next)).1 = row at *
  generalize (Sp.rndsD (Sp.behindL q.next)).2 = ps at *
  generalize (Sp.rnds (Sp.behindL q.next)).isSome = is at *
  rw [unhide HLN, (unhide HQ).nx] at hpl hpo
  have Hb4 : Hid (Below (w.heap.size + 1) W1 w4) := hide ((unhide Hb3).trans (hb4.mono hsz3))
  have hsz4 := Nat.le_trans hsz3 hb4.size
  obtain ⟨la, lc, rfl, hlc, hlm, HL⟩ := owns_all hls
  have HPO := hide hpo
  have HCE := hide hcells
  obtain ⟨x0, x1, x2, x3, -⟩ := unhide HBX w4 (unhide Hb4)
  clear hls hpo hcells hb4 x0 x2 x3
  go_wp2_with (at_make; refine wpList_mk rfl _ _ rfl w4.heap.size q.tail.length rfl rfl (by omega) (Nat.le_refl _) ?_)
  intro w5 hown5 hb5 hlt5
  have HO5 := hide hown5
  have HB5 := hide hb5
  clear hown5 hlt5 hb5 x1
  obtain ⟨n, hn⟩ : ∃ n, q.tail.length = n := ⟨_, rfl⟩
  rw [hn] at HF1 HO5 HPO hbig htc hpl ⊢
  clear hn
  go_wp2
  go_loopg [26] ps.length (fun g i wr => ∃ (k : Nat) (L : List Int), k + g = ps.length ∧ i = .int .i64 (k : Int) ∧ Hid (L.length = n ∧ Below w4.heap.size w4 wr ∧ OwnI wr w4.heap.size (.slice (some ⟨w4.heap.size, 0, none⟩) n n) L ∧ R = Sp.facesGo row (ps.drop k) k L))
  case atStart => exact ⟨0, _, by omega, rfl, hide ⟨List.length_replicate, unhide HB5, unhide HO5, unhide HF1⟩⟩
  case round =>
    clear HO5 HB5
    obtain ⟨k, L, hkg, rfl, HI⟩ := hrel
    cases gk with
    | zero =>
      obtain rfl : k = ps.length := by omega
      have HF : Hid (R = L) := by
        have := (unhide HI).2.2.2
        rw [List.drop_eq_nil_of_le (Nat.le_refl _), Sp.facesGo] at this
        exact hide this
      have HBf : Hid (Below w.heap.size w wr) := hide (unhide HW _ ((unhide Hb4).trans ((unhide HI).2.1.mono (by omega))))
      go_wp2
      all_goals
        rw [unhide HP]
        exact ⟨_, ret_tup _ (by rw [unhide HF2]; omega), by rw [unhide HF]; exact own_base (unhide HI).2.2.1 (by omega), unhide HBf⟩
    | succ g' =>
      have hlt : k < ps.length := by omega
      have hltI : (k : Int) < (ps.length : Int) := by omega
      have hpk := (unhide HPO).ok ps[k] (List.getElem_mem hlt)
      have HTG : Hid (R = Sp.facesGo row (ps.drop (k + 1)) (k + 1) (Sp.paint k L (Sp.piece row ps[k]))) := hide (by
        have h := (unhide HI).2.2.2
        rw [List.drop_eq_getElem_cons hlt, Sp.facesGo] at h
        exact h)
      obtain ⟨lb, hla, hlbs, -, hlcell⟩ := unhide HL k (by simpa using hlt)
      subst hla
      have hlc1 := hlcell wr (unhide HI).2.1
      rw [List.getElem_map] at hlc1
      generalize ps[k] = pp at *
      obtain ⟨b, e⟩ := pp
      obtain ⟨hbe, herow⟩ := hpk
      simp only at hbe herow
      have hlc2 : wr.cell? ⟨lb, k, none⟩ = some (.slice (some ⟨w3.heap.size, b, none⟩) (e - b) (e - b)) := hlc1
      have he240 : e ≤ 240 := by have := (unhide HPO).fit.le; omega
      have HPL : Hid ((Sp.piece row (b, e)).length = e - b) := hide (Sp.piece_len herow)
      clear hlc1 hlcell
      go_wp2
      clear hlc2
      go_loopg [33] (e - b) (fun g i wr => ∃ (j : Nat) (L2 : List Int), j + g = e - b ∧ i = .int .i64 (j : Int) ∧ Hid (L2.length = n ∧ Below w4.heap.size w4 wr ∧ OwnI wr w4.heap.size (.slice (some ⟨w4.heap.size, 0, none⟩) n n) L2 ∧ Sp.paint k L (Sp.piece row (b, e)) = Sp.paint k L2 ((Sp.piece row (b, e)).drop j)))
      case atStart => exact ⟨0, L, by omega, rfl, hide ⟨(unhide HI).1, (unhide HI).2.1, (unhide HI).2.2.1, rfl⟩⟩
      case round =>
        obtain ⟨j, L2, hjg, rfl, HJ⟩ := hrel
        cases gk with
        | zero =>
          obtain rfl : j = e - b := by omega
          have HN : Hid (R = Sp.facesGo row (ps.drop (k + 1)) (k + 1) L2) := by
            have h := (unhide HJ).2.2.2
            rw [List.drop_eq_nil_of_le (by rw [unhide HPL]; exact Nat.le_refl _)] at h
            have h2 := unhide HTG
            rw [h] at h2
            exact hide h2
          go_wp2
          go_roundg g'
          case rel => exact ⟨k + 1, L2, by omega, by go_num, hide ⟨(unhide HJ).1, (unhide HJ).2.1, (unhide HJ).2.2.1, unhide HN⟩⟩
          case measure => omega
        | succ g2 =>
          have hjl : j < e - b := by omega
          have hjI : (j : Int) < ((e - b : Nat) : Int) := by omega
          have hrj : b + j < row.length := by omega
          have c1 := (unhide HCE (b + j) hrj wr (unhide HJ).2.1).1
          have hbd := (unhide HPO).fit.bd row[b + j] (List.getElem_mem hrj)
          have HN : Hid (Sp.paint k L (Sp.piece row (b, e)) = Sp.paint k (L2.set row[b + j].toNat k) ((Sp.piece row (b, e)).drop (j + 1))) := by
            have h := (unhide HJ).2.2.2
            rw [List.drop_eq_getElem_cons (by rw [unhide HPL]; exact hjl), Sp.piece_get herow] at h
            exact hide h
          generalize row[b + j] = rj at *
          obtain ⟨x, rfl⟩ : ∃ x : Nat, rj = (x : Int) := ⟨rj.toNat, by omega⟩
          rw [Int.toNat_natCast] at HN
          have hxn : x < n := by omega
          have hxI : (x : Int) < (n : Int) := by omega
          have f1 := own_frozen (unhide HJ).2.2.1 x
          have c2 := own_cell (unhide HJ).2.2.1 x (by rw [(unhide HJ).1]; exact hxn)
          generalize L2[x]'_ = z at *
          clear hbd
          go_wp2
          go_roundg g2
          case rel => exact ⟨j + 1, L2.set x k, by omega, by go_num, hide ⟨by rw [List.length_set]; exact (unhide HJ).1, (unhide HJ).2.1.setCell (by exact Nat.le_refl _) _, own_setCell (unhide HJ).2.2.1 x k, unhide HN⟩⟩
          case measure => omega
end Go.Proofs.Ytoegjnolccabjaa


/- The walks of the library's bits.Mul and slices.Repeat, as far as they are called. -/
namespace Go.Proofs.Ytoegjnolccabjaa
open Go Go.RowKit

theorem and_mask : ∀ d : Fin 61, bits .and .u64 ((d.val : Nat) : Int) 4294967295 = ((d.val : Nat) : Int) := by decide +kernel
set_option maxRecDepth 100000 in
set_option maxHeartbeats 1000000 in
theorem mul64_any (N : Nat) (w : World) (hN : N ≤ 60) :
    Calls Try.prog 95 #[.int .u64 1, .int .u64 (N : Int)] w fun e w' => e = .returned (.tuple #[.int .u64 0, .int .u64 (N : Int)]) ∧ w' = w := by
  have h1 := and_mask ⟨N, by omega⟩
  simp only at h1
  have h2 : bits .and .u64 1 4294967295 = 1 := by decide +kernel
  have h3 : bits .and .u64 0 4294967295 = 0 := by decide +kernel
  have h4 : (N : Int) / 4294967296 = 0 := by omega
  have h5 : IntKind.u64.wrap (N : Int) = (N : Int) := by simp [IntKind.wrap, IntKind.bits]; omega
  have h6 : IntKind.u64.wrap 0 = 0 := by decide +kernel
  obtain ⟨P, hP⟩ : ∃ P : Ending → World → Prop, P = fun e w' => e = .returned (.tuple #[.int .u64 0, .int .u64 (N : Int)]) ∧ w' = w := ⟨_, rfl⟩
  rw [← hP]
  have HP := hide hP
  clear hP
  go_enter Try.func95, Try.ntmps95
  go_wp2
  rw [unhide HP]
  exact ⟨rfl, rfl⟩
set_option maxRecDepth 100000 in
set_option maxHeartbeats 1000000 in
theorem mul_any (N : Nat) (w : World) (hN : N ≤ 60) :
    Calls Try.prog 82 #[.int .u64 1, .int .u64 (N : Int)] w fun e w' => e = .returned (.tuple #[.int .u64 0, .int .u64 (N : Int)]) ∧ w' = w := by
  have HC := hide (mul64_any N w hN)
  obtain ⟨P, hP⟩ : ∃ P : Ending → World → Prop, P = fun e w' => e = .returned (.tuple #[.int .u64 0, .int .u64 (N : Int)]) ∧ w' = w := ⟨_, rfl⟩
  rw [← hP]
  have HP := hide hP
  clear hP
  go_enter Try.func82, Try.ntmps82
  go_wp2_with fail
  go_at_call 95
  refine (unhide HC).mono ?_
  rintro e w' ⟨rfl, rfl⟩
  go_wp2
  rw [unhide HP]
  exact ⟨rfl, rfl⟩
theorem own_heap {w : World} {B g n : Nat} {l : List Int} (h : OwnI w B (.slice (some ⟨g, 0, none⟩) n n) l) (hl : l.length = n) : w.heap[g]? = some (.cells (l.map (Value.int .i64)).toArray 3 (0, 0)) ∧ B ≤ g := by
  obtain ⟨h1, ⟨h2, -⟩ | ⟨g', cap, cur, e, hg, hh, hnc, hcm, hsz, htk⟩⟩ := h
  · cases h2
  · injection e with e1 e2 e3
    injection e1 with e1
    injection e1 with e1 _
    subst e1 e3
    rw [hl] at e2 hnc htk
    have : cur.toList = l.map (Value.int .i64) := by
      rw [← htk, List.take_of_length_le]
      simp; omega
    rw [← this]
    exact ⟨by simpa using hh, hg⟩
theorem own_of_heap {w : World} {B g n : Nat} {l : List Int} (h : w.heap[g]? = some (.cells (l.map (Value.int .i64)).toArray 3 (0, 0))) (hl : l.length = n) (hB : B ≤ g) (hn : n ≤ 1000000) : OwnI w B (.slice (some ⟨g, 0, none⟩) n n) l := by
  subst hl
  exact ⟨by simp, .inr ⟨g, l.length, _, rfl, hB, h, Nat.le_refl _, by unfold maxLen; omega, by simp, by rw [List.take_of_length_le (by simp)]⟩⟩
theorem splice_rep (N m c : Nat) (x : Int) (h : m + c ≤ N) : splice ((List.replicate m x ++ List.replicate (N - m) (0 : Int)).map (Value.int .i64)) m ((List.replicate c x).map (Value.int .i64)) = (List.replicate (m + c) x ++ List.replicate (N - (m + c)) (0 : Int)).map (Value.int .i64) := by
  unfold splice
  rw [List.map_append, List.take_left' (by simp), List.drop_append]
  simp only [List.length_replicate, List.map_replicate, List.map_append, List.drop_replicate]
  rw [show m - (m + c) = 0 by omega, show N - m - (m + c - m) = N - (m + c) by omega, List.replicate_zero, List.nil_append, ← List.append_assoc, List.replicate_append_replicate]
theorem run_copy_rep (w : World) (B g m N : Nat) (x : Int) (hm : m < N) (hN : N ≤ 60) (hB : B ≤ g) (hO : OwnI w B (.slice (some ⟨g, 0, none⟩) N N) (List.replicate m x ++ List.replicate (N - m) (0 : Int))) :
    ∃ w4, (Builtin.copy_ #[22, 22] 3 #[.slice (some ⟨g, m, none⟩) (N - m) (N - m), .slice (some ⟨g, 0, none⟩) m N]).run Try.prog w = .ok (.int .i64 ((min m (N - m) : Nat) : Int)) w4 ∧ OwnI w4 B (.slice (some ⟨g, 0, none⟩) N N) (List.replicate (m + min m (N - m)) x ++ List.replicate (N - (m + min m (N - m))) (0 : Int)) ∧ Below B w w4 := by
  have hszI : (Try.prog.info? 3).map (·.size) = some 1 := by kernel_rfl
  have hh := (own_heap hO (by simp; omega)).1
  have hsp := splice_rep N m (min m (N - m)) x (by omega)
  have h := run_copy_row (P := Try.prog) w 22 22 3 3 g m (N - m) (N - m) ⟨g, 0, none⟩ m N _ 3 ((List.replicate (min m (N - m)) x).map (Value.int .i64)) Try.underlying22 hszI hh (by simp)
    (fun j v hj => by
      obtain ⟨hj1, hj2⟩ := List.getElem?_eq_some_iff.1 hj
      simp only [List.length_map, List.length_replicate] at hj1
      rw [← hj2]
      simp only [List.getElem_map, List.getElem_replicate, Addr.add_lit, Nat.zero_add]
      have h := own_cell hO j (by simp; omega)
      rw [List.getElem_append_left (by simp; omega), List.getElem_replicate] at h
      exact h) (by simp; omega) (ints_oneCell _ _)
  have hl : ((List.replicate (min m (N - m)) x).map (Value.int .i64)).length = min m (N - m) := by simp
  rw [hl] at h
  refine ⟨_, h, own_of_heap ?_ (by simp; omega) hB (by omega), below_setRow (Below.refl _ _) hB _⟩
  rw [setRow_heap w g _ _ _ _ hh, ← hsp, splice, hl, List.append_assoc]
set_option maxRecDepth 100000 in
set_option maxHeartbeats 1000000 in
theorem repeat_any (x : Int) (xb N : Nat) (w : World) (hN : N ≤ 60) (hc : w.cell? ⟨xb, 0, none⟩ = some (.int .i64 x)) (hxb : xb < w.heap.size) :
    Calls Try.prog 54 #[.slice (some ⟨xb, 0, none⟩) 1 1, .int .i64 (N : Int)] w fun e w' => e = .returned (.slice (some ⟨w.heap.size, 0, none⟩) N N) ∧ OwnI w' w.heap.size (.slice (some ⟨w.heap.size, 0, none⟩) N N) (List.replicate N x) ∧ Below w.heap.size w w' := by
  have HC := hide (mul_any N w hN)
  have Hc := hide hc
  clear hc
  have h5 : IntKind.u64.wrap (N : Int) = (N : Int) := by simp [IntKind.wrap, IntKind.bits]; omega
  have hszI : (Try.prog.info? 3).map (·.size) = some 1 := by kernel_rfl
  have HsI := hide hszI
  clear hszI
  go_enter Try.func54, Try.ntmps54
  go_wp2_with fail
  go_at_call 82
  refine (unhide HC).mono ?_
  clear HC
  rintro e w' ⟨rfl, rfl⟩
  go_wp2_with (at_make; refine wpList_mk rfl _ _ rfl w'.heap.size N rfl rfl (by omega) (Nat.le_refl _) ?_)
  intro w3 hown3 hb3 hlt3
  have HO3 := hide hown3
  have HB3 := hide hb3
  clear hown3 hb3 hlt3
  obtain ⟨cs, hcs⟩ : ∃ cs, cs = List.replicate (min 1 N) x := ⟨_, rfl⟩
  have hcl : cs.length = min 1 N := by rw [hcs]; simp
  have HCL1 : Hid ((cs.map (Value.int .i64)).length = Nat.min 1 N) := hide (by rw [List.length_map]; exact hcl)
  have HCL2 : Hid (0 + (cs.map (Value.int .i64)).length ≤ ((List.replicate N (0 : Int)).map (Value.int .i64)).length) := hide (by rw [List.length_map, List.length_map, List.length_replicate, hcl]; omega)
  have HPOS : Hid (0 < (cs.map (Value.int .i64)).length → some (⟨w'.heap.size, 0, none⟩ : Addr) = some ⟨w'.heap.size, 0, none⟩ ∧ ∃ ad, some (⟨xb, 0, none⟩ : Addr) = some ad ∧ ∀ j v, (cs.map (Value.int .i64))[j]? = some v → w3.cell? (ad.add j) = some v) := by
    refine hide fun _ => ⟨rfl, _, rfl, ?_⟩
    intro j v hj
    obtain ⟨hj1, hj2⟩ := List.getElem?_eq_some_iff.1 hj
    rw [List.length_map, hcl] at hj1
    have hj0 : j = 0 := by omega
    subst hj0 hcs
    rw [← hj2]
    simp only [List.getElem_map, List.getElem_replicate, Addr.add_lit]
    exact ((unhide HB3).cell (by exact hxb)).trans (unhide Hc)
  have HSP : Hid (splice ((List.replicate N (0 : Int)).map (Value.int .i64)) 0 (cs.map (Value.int .i64)) = (List.replicate (min 1 N) x ++ List.replicate (N - min 1 N) (0 : Int)).map (Value.int .i64)) := by
    have h := splice_rep N 0 (min 1 N) x (by omega)
    simp only [List.replicate_zero, List.nil_append, Nat.sub_zero, Nat.zero_add] at h
    rw [hcs]
    exact hide h
  have HCL3 : Hid (((cs.map (Value.int .i64)).length : Int) = ((min 1 N : Nat) : Int)) := hide (by rw [List.length_map, hcl])
  have HONE : Hid (∀ v ∈ cs.map (Value.int .i64), v.oneCell' = true) := hide (ints_oneCell _ _)
  have HOH := hide (own_heap (unhide HO3) (by simp)).1
  clear hcs hcl HO3
  generalize cs.map (Value.int .i64) = cv at *
  generalize (List.replicate N (0 : Int)).map (Value.int .i64) = zv at *
  go_wp2_with ((refine wpList_copy_splice rfl _ _ 22 22 rfl 3 Try.underlying22 (unhide HsI) (some ⟨w'.heap.size, 0, none⟩) (some ⟨xb, 0, none⟩) N N 1 1 rfl rfl w'.heap.size 0 zv 3 (unhide HOH) cv (unhide HCL1) (unhide HPOS) (unhide HCL2) (unhide HONE) w'.heap.size w' (unhide HB3) (Nat.le_refl _) ?_))
  intro w4 hh4 hb4
  rw [unhide HSP] at hh4
  have HO4 : Hid (OwnI w4 w'.heap.size (.slice (some ⟨w'.heap.size, 0, none⟩) N N) (List.replicate (min 1 N) x ++ List.replicate (N - min 1 N) (0 : Int))) := hide (own_of_heap (unhide hh4) (by simp; omega) (Nat.le_refl _) (by omega))
  have HB4 := hide hb4
  have hcvl : (cv.length : Int) = ((min 1 N : Nat) : Int) := unhide HCL3
  rw [hcvl]
  clear hh4 hb4 HOH HONE HSP HPOS HCL1 HCL2 HCL3 HB3 hcvl
  have hm1 : (1 ≤ min 1 N ∨ N = 0) ∧ min 1 N ≤ N := by omega
  generalize min 1 N = m0 at *
  go_wp2
  go_loopg [8] N (fun g i wr => ∃ m : Nat, (1 ≤ m ∨ N = 0) ∧ m ≤ N ∧ N - m ≤ g ∧ i = .int .i64 (m : Int) ∧ Hid (OwnI wr w'.heap.size (.slice (some ⟨w'.heap.size, 0, none⟩) N N) (List.replicate m x ++ List.replicate (N - m) (0 : Int)) ∧ Below w'.heap.size w' wr))
  case atStart => exact ⟨m0, hm1.1, hm1.2, by omega, rfl, hide ⟨unhide HO4, unhide HB4⟩⟩
  case round =>
    clear HO4 HB4 hm1
    obtain ⟨m, hm1, hmN, hmg, rfl, HI⟩ := hrel
    by_cases hlt : m < N
    · have hltI : (m : Int) < (N : Int) := by omega
      obtain ⟨c, hc⟩ : ∃ c, c = min m (N - m) := ⟨_, rfl⟩
      obtain ⟨w4, hrun, hown4, hb4⟩ := run_copy_rep wr.drew w'.heap.size w'.heap.size m N x hlt hN (Nat.le_refl _) (own_drew (unhide HI).1)
      rw [← hc] at hrun hown4
      have HO4 := hide hown4
      have HB4 : Hid (Below w'.heap.size w' w4) := hide ((unhide HI).2.drew.trans hb4)
      have Hc := hide hc
      have hne1 : ¬ N = m := by omega
      have hcb : c ≤ N - m := by omega
      have hc1 : 1 ≤ c := by omega
      clear hown4 hb4 hc
      go_wp2
      go_region
      go_wp2
      go_roundg (N - (m + c))
      case rel => exact ⟨m + c, by omega, by omega, by omega, by go_num, hide ⟨unhide HO4, unhide HB4⟩⟩
      case measure => omega
    · obtain rfl : m = N := by omega
      have HF : Hid (OwnI wr w'.heap.size (.slice (some ⟨w'.heap.size, 0, none⟩) m m) (List.replicate m x)) := by
        have h := (unhide HI).1
        simp only [Nat.sub_self, List.replicate_zero, List.append_nil] at h
        exact hide h
      go_wp2
      go_ret
      exact ⟨rfl, unhide HF, (unhide HI).2⟩
end Go.Proofs.Ytoegjnolccabjaa


