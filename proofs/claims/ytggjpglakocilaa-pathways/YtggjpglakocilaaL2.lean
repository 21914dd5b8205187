/- What the proof needs, part 2. -/
import Derived.OwnWalk
import Derived.Below
import Derived.Deep.RegionHeld3
import Derived.Deep.DeepCutAuto
import Derived.BigRegion
import Derived.Deep.LoopGhost
import Derived.Test.YtggjpglakocilaaL1
/- The walk of package rot: behind. -/
namespace Go.Proofs.Ytggjpglakocilaa
open Go Go.RowKit

theorem made_ints (n : Nat) : (madeCells (Value.int .i64 0).cells (n * 1)).toList = (List.replicate n (0 : Int)).map (Value.int .i64) := by
  show (madeCells #[.int .i64 0] (n * 1)).toList = _
  rw [Nat.mul_one, toList_madeCells_one]
  simp
theorem wpList_mk {w : World} {ops : Array Oper} {rest : List Oper} {o : Oper} {a : Act} {Q : Exit → Act → World → Prop} (hg : o.guard = none) (l c : Operand) (hop : o.op = Op.makeSlice 22 l c)
    (base n : Nat) (hl : a.eval l = .int .i64 (n : Int)) (hc : a.eval c = .int .i64 (n : Int)) (hn : n ≤ 1000000) (b4 : base ≤ w.heap.size)
    (hK : ∀ w', OwnI w' base (.slice (some ⟨w.heap.size, 0, none⟩) n n) (List.replicate n 0) → Below base w w' → w.heap.size < w'.heap.size → wpList Try.prog ops Q rest (a.put o.dst (.slice (some ⟨w.heap.size, 0, none⟩) n n)) w') : wpList Try.prog ops Q (o :: rest) a w := by
  obtain ⟨i0, hi, hz0, hz1, hz2⟩ := info_parts info3
  refine wpList_make_full w hg l c 22 hop base 3 i0 (.int .i64 0) 1 Try.underlying22 hi hz0 hz1 .i64 .i64 _ _ n hl hc rfl rfl (by rw [hz2]; omega) (by unfold maxLen; omega) b4 ?_
  intro w' h1 h2
  rw [made_ints] at h1
  have h1' : OwnI w' base (.slice (some ⟨w.heap.size, 0, none⟩) n n) (List.replicate n 0) := by
    unfold OwnI
    rw [List.length_replicate]
    exact h1
  exact hK w' h1' ((Below.refl _ _).grown h2 b4 fun k hk => by cases hk) (h1'.lt w.heap.size rfl).2
end Go.Proofs.Ytggjpglakocilaa


/- Package path: isPlace, isArc, forward, sound. -/
namespace Go.Proofs.Ytggjpglakocilaa
open Go Go.RowKit

/-- Arcs that may be, between n places. -/
structure Sp.Snd (n : Nat) (L : List Sp.Arc) : Prop where
  few : L.length ≤ 1000
  at_ : ∀ a ∈ L, a.f < n ∧ a.t < n ∧ -1099511627776 ≤ a.l ∧ a.l ≤ 1099511627776
theorem Ints.allA {w : World} {v : Value} {l : List Int} (h : Ints w v l) : ∃ (a : Option Addr) (c : Nat), v = .slice a l.length c ∧ l.length ≤ c ∧ c ≤ maxLen ∧ Hid (∀ k, k < l.length → ∃ b o, a = some ⟨b, o, none⟩ ∧ b < w.heap.size ∧ ∀ w', Below w.heap.size w w' → w'.cell? ⟨b, o + k, none⟩ = some (.int .i64 (l.getD k 0))) := by
  obtain ⟨a, c, e, h1, h2, h3⟩ := h
  refine ⟨a, c, e, h1, h2, hide fun k hk => ?_⟩
  obtain ⟨b, o, e1, e2, e3⟩ := h3 k hk
  refine ⟨b, o, e1, e2, fun w' hb => ?_⟩
  rw [hb.cell (p := ⟨b, o + k, none⟩) e2, e3, List.getD_eq_getElem?_getD, List.getElem?_eq_getElem hk]; rfl
theorem Sp.getD_memA {l : List Int} {k : Nat} (h : k < l.length) : l.getD k 0 ∈ l := by
  rw [List.getD_eq_getElem?_getD, List.getElem?_eq_getElem h]; exact List.getElem_mem h
theorem Sp.arc_mem {L : List Sp.Arc} {k : Nat} (h : k < L.length) : L.getD k Sp.arc0 ∈ L := by
  rw [List.getD_eq_getElem?_getD, List.getElem?_eq_getElem h]; exact List.getElem_mem h
set_option maxRecDepth 100000 in
set_option maxHeartbeats 1000000 in
theorem isPlace_yes (n v : Int) (w : World) (h0 : 0 ≤ v) (h1 : v < n) : Calls Try.prog 35 #[.int .i64 n, .int .i64 v] w fun e w' => e = .returned (.bool true) ∧ w' = w := by
  go_enter Try.func35, Try.ntmps35
  go_wp2
  go_ret
  exact ⟨rfl, rfl⟩
set_option maxRecDepth 100000 in
set_option maxHeartbeats 1000000 in
theorem isArc_yes (n : Int) (f t l : Int) (w : World) (h0 : 0 ≤ f) (h1 : f < n) (h2 : 0 ≤ t) (h3 : t < n) (h4 : -1099511627776 ≤ l) (h5 : l ≤ 1099511627776) : Calls Try.prog 38 #[.int .i64 n, .agg #[.int .i64 f, .int .i64 t, .int .i64 l]] w fun e w' => e = .returned (.bool true) ∧ Below w.heap.size w w' := by
  have HC1 := hide (isPlace_yes n f (w.alloc (.cells #[.int .i64 f, .int .i64 t, .int .i64 l] 30)) h0 h1)
  have HC2 := hide (isPlace_yes n t (w.alloc (.cells #[.int .i64 f, .int .i64 t, .int .i64 l] 30)) h2 h3)
  obtain ⟨x0, x1, x2⟩ := arc_new w (.int .i64 f) (.int .i64 t) (.int .i64 l)
  have HB := hide ((Below.refl _ w).alloc (Nat.le_refl _) (.cells #[.int .i64 f, .int .i64 t, .int .i64 l] 30))
  clear h0 h1 h2 h3
  go_enter Try.func38, Try.ntmps38
  go_wp2_with fail
  go_at_call 35
  generalize w.alloc (.cells #[.int .i64 f, .int .i64 t, .int .i64 l] 30) = W1 at *
  refine (unhide HC1).mono ?_
  rintro e w2 ⟨rfl, rfl⟩
  go_wp2_with fail
  go_at_call 35
  refine (unhide HC2).mono ?_
  rintro e w3 ⟨rfl, rfl⟩
  go_wp2
  go_ret
  exact ⟨by rfl, unhide HB⟩
set_option maxRecDepth 100000 in
set_option maxHeartbeats 1000000 in
theorem psound1_any (n v : Int) (b : Nat) (w : World) (h0 : 0 ≤ v) (h1 : v < n) (hc : w.cell? ⟨b, 0, none⟩ = some (.int .i64 n)) : Calls Try.prog 34 #[.int .i64 v, .pointer (some ⟨b, 0, none⟩)] w fun e w' => e = .returned (.bool false) ∧ Below w.heap.size w w' := by
  have HC1 := hide (isPlace_yes n v w h0 h1)
  have HB := hide (Below.refl w.heap.size w)
  clear h0 h1
  go_enter Try.func34, Try.ntmps34
  go_wp2_with fail
  go_at_call 35
  refine (unhide HC1).mono ?_
  rintro e w2 ⟨rfl, rfl⟩
  go_wp2
  go_ret
  exact ⟨by rfl, unhide HB⟩
set_option maxRecDepth 100000 in
set_option maxHeartbeats 1000000 in
theorem psound2_any (n f t l : Int) (b : Nat) (w : World) (h0 : 0 ≤ f) (h1 : f < n) (h2 : 0 ≤ t) (h3 : t < n) (h4 : -1099511627776 ≤ l) (h5 : l ≤ 1099511627776) (hb : b < w.heap.size) (hc : w.cell? ⟨b, 0, none⟩ = some (.int .i64 n)) : Calls Try.prog 37 #[.agg #[.int .i64 f, .int .i64 t, .int .i64 l], .pointer (some ⟨b, 0, none⟩)] w fun e w' => e = .returned (.bool false) ∧ Below w.heap.size w w' := by
  have HC1 := hide (isArc_yes n f t l (w.alloc (.cells #[.int .i64 f, .int .i64 t, .int .i64 l] 30)) h0 h1 h2 h3 h4 h5)
  obtain ⟨x0, x1, x2⟩ := arc_new w (.int .i64 f) (.int .i64 t) (.int .i64 l)
  have hb1 := (Below.refl _ w).alloc (Nat.le_refl _) (.cells #[.int .i64 f, .int .i64 t, .int .i64 l] 30)
  have hc1 := (hb1.cell hb).trans hc
  have HB := hide (And.intro hb1 hb1.size)
  clear h0 h1 h2 h3 h4 h5 hb1
  go_enter Try.func37, Try.ntmps37
  go_wp2_with fail
  go_at_call 38
  generalize w.alloc (.cells #[.int .i64 f, .int .i64 t, .int .i64 l] 30) = W1 at *
  refine (unhide HC1).mono ?_
  rintro e w2 ⟨rfl, hb2⟩
  have HB2 := hide ((unhide HB).1.trans (hb2.mono (unhide HB).2))
  clear hb2
  go_wp2
  go_ret
  exact ⟨by rfl, unhide HB2⟩
set_option maxRecDepth 100000 in
set_option maxHeartbeats 1000000 in
theorem pforward1_any (f t l : Int) (w : World) (h0 : ¬ l < 0) : Calls Try.prog 39 #[.agg #[.int .i64 f, .int .i64 t, .int .i64 l]] w fun e w' => e = .returned (.bool false) ∧ Below w.heap.size w w' := by
  obtain ⟨x0, x1, x2⟩ := arc_new w (.int .i64 f) (.int .i64 t) (.int .i64 l)
  have HB := hide ((Below.refl _ w).alloc (Nat.le_refl _) (.cells #[.int .i64 f, .int .i64 t, .int .i64 l] 30))
  go_enter Try.func39, Try.ntmps39
  go_wp2
  go_ret
  exact ⟨by rfl, unhide HB⟩
set_option maxRecDepth 100000 in
set_option maxHeartbeats 2000000 in
theorem indexEnds (n : Nat) (L : List Int) (lv : Value) (b : Nat) (w : World) (hl : Ints w lv L) (h1000 : L.length ≤ 1000) (hld : ∀ x ∈ L, 0 ≤ x ∧ x < (n : Int)) (hb : b < w.heap.size) (hc : w.cell? ⟨b, 0, none⟩ = some (.int .i64 (n : Int))) :
    Calls Try.prog 49 #[lv, .func (.func 34) #[] #[.pointer (some ⟨b, 0, none⟩)]] w fun e w' => e = .returned (.int .i64 (-1)) ∧ Below w.heap.size w w' := by
  have HC : Hid (∀ w' j, Below w.heap.size w w' → j < L.length → Calls Try.prog 34 #[.int .i64 (L.getD j 0), .pointer (some ⟨b, 0, none⟩)] w' fun e w'' => e = .returned (.bool false) ∧ Below w'.heap.size w' w'') := hide fun w' j hw hj =>
    psound1_any n (L.getD j 0) b w' (hld _ (Sp.getD_memA hj)).1 (hld _ (Sp.getD_memA hj)).2 ((hw.cell hb).trans hc)
  obtain ⟨la, lc, rfl, -, -, HL⟩ := hl.allA
  obtain ⟨P, hP⟩ : ∃ P : Ending → World → Prop, P = fun e w' => e = .returned (.int .i64 (-1)) ∧ Below w.heap.size w w' := ⟨_, rfl⟩
  rw [← hP]
  have HP := hide hP
  clear hP hl hld hb hc
  go_enter Try.func49, Try.ntmps49
  go_wp2
  go_loopg [8] L.length (fun g s8 wr => ∃ k : Nat, k + g = L.length ∧ s8 = .int .i64 (k : Int) ∧ Hid (Below w.heap.size w wr))
  case atStart => exact ⟨0, by omega, rfl, hide (Below.refl _ _)⟩
  case round =>
    obtain ⟨k, hk, rfl, HB⟩ := hrel
    cases gk with
    | zero =>
      obtain rfl : k = L.length := by omega
      go_wp2
      rw [unhide HP]
      exact ⟨by rfl, unhide HB⟩
    | succ g' =>
      have hlt : k < L.length := by omega
      have hltI : (k : Int) < (L.length : Int) := by omega
      obtain ⟨b', o, rfl, -, hcx⟩ := unhide HL k hlt
      have c1 := hcx wr (unhide HB)
      have HCl := hide (unhide HC wr k (unhide HB) hlt)
      generalize L.getD k 0 = z at *
      clear hcx
      go_wp2_with fail
      go_at_call 34
      refine (unhide HCl).mono ?_
      rintro e w2 ⟨rfl, hb2⟩
      have HB2 := hide ((unhide HB).trans (hb2.mono (unhide HB).size))
      clear hb2 HCl HB c1
      go_wp2
      go_roundg g'
      case rel => exact ⟨k + 1, by omega, by go_num, HB2⟩
      case measure => omega
set_option maxRecDepth 100000 in
set_option maxHeartbeats 1000000 in
theorem containsEnds (n : Nat) (L : List Int) (lv : Value) (b : Nat) (w : World) (hl : Ints w lv L) (h1000 : L.length ≤ 1000) (hld : ∀ x ∈ L, 0 ≤ x ∧ x < (n : Int)) (hb : b < w.heap.size) (hc : w.cell? ⟨b, 0, none⟩ = some (.int .i64 (n : Int))) :
    Calls Try.prog 33 #[lv, .func (.func 34) #[] #[.pointer (some ⟨b, 0, none⟩)]] w fun e w' => e = .returned (.bool false) ∧ Below w.heap.size w w' := by
  have HL := hide (indexEnds n L lv b w hl h1000 hld hb hc)
  clear hl hld hb hc
  go_enter Try.func33, Try.ntmps33
  go_wp2_with fail
  go_at_call 49
  refine (unhide HL).mono ?_
  rintro e w2 ⟨rfl, hb2⟩
  have HB := hide hb2
  clear hb2
  go_wp2
  go_ret
  exact ⟨by rfl, unhide HB⟩
set_option maxRecDepth 100000 in
set_option maxHeartbeats 2000000 in
theorem indexArcs (n : Nat) (L : List Sp.Arc) (lv : Value) (b : Nat) (w : World) (hl : ArcsI w lv L) (h1000 : L.length ≤ 1000) (hld : Sp.Snd n L) (hb : b < w.heap.size) (hc : w.cell? ⟨b, 0, none⟩ = some (.int .i64 (n : Int))) :
    Calls Try.prog 50 #[lv, .func (.func 37) #[] #[.pointer (some ⟨b, 0, none⟩)]] w fun e w' => e = .returned (.int .i64 (-1)) ∧ Below w.heap.size w w' := by
  have HC : Hid (∀ w' j, Below w.heap.size w w' → j < L.length → Calls Try.prog 37 #[.agg #[.int .i64 ((L.getD j Sp.arc0).f : Int), .int .i64 ((L.getD j Sp.arc0).t : Int), .int .i64 (L.getD j Sp.arc0).l], .pointer (some ⟨b, 0, none⟩)] w' fun e w'' => e = .returned (.bool false) ∧ Below w'.heap.size w' w'') := hide fun w' j hw hj =>
    psound2_any n _ _ _ b w' (by omega) (by have := (hld.at_ _ (Sp.arc_mem hj)).1; omega) (by omega) (by have := (hld.at_ _ (Sp.arc_mem hj)).2.1; omega) (hld.at_ _ (Sp.arc_mem hj)).2.2.1 (hld.at_ _ (Sp.arc_mem hj)).2.2.2 (by have := hw.size; omega) ((hw.cell hb).trans hc)
  obtain ⟨la, lc, rfl, -, -, HL⟩ := hl.all
  obtain ⟨P, hP⟩ : ∃ P : Ending → World → Prop, P = fun e w' => e = .returned (.int .i64 (-1)) ∧ Below w.heap.size w w' := ⟨_, rfl⟩
  rw [← hP]
  have HP := hide hP
  clear hP hl hld hb hc
  go_enter Try.func50, Try.ntmps50
  go_wp2
  go_loopg [8] L.length (fun g s8 wr => ∃ k : Nat, k + g = L.length ∧ s8 = .int .i64 (k : Int) ∧ Hid (Below w.heap.size w wr))
  case atStart => exact ⟨0, by omega, rfl, hide (Below.refl _ _)⟩
  case round =>
    obtain ⟨k, hk, rfl, HB⟩ := hrel
    cases gk with
    | zero =>
      obtain rfl : k = L.length := by omega
      go_wp2
      rw [unhide HP]
      exact ⟨by rfl, unhide HB⟩
    | succ g' =>
      have hlt : k < L.length := by omega
      have hltI : (k : Int) < (L.length : Int) := by omega
      obtain ⟨b', o, rfl, -, hcx⟩ := unhide HL k hlt
      obtain ⟨c1, c2, c3⟩ := hcx wr (unhide HB)
      have HCl := hide (unhide HC wr k (unhide HB) hlt)
      generalize (L.getD k Sp.arc0).f = zf at *
      generalize (L.getD k Sp.arc0).t = zt at *
      generalize (L.getD k Sp.arc0).l = zl at *
      clear hcx
      go_wp2_with fail
      go_at_call 37
      refine (unhide HCl).mono ?_
      rintro e w2 ⟨rfl, hb2⟩
      have HB2 := hide ((unhide HB).trans (hb2.mono (unhide HB).size))
      clear hb2 HCl HB c1
      go_wp2
      go_roundg g'
      case rel => exact ⟨k + 1, by omega, by go_num, HB2⟩
      case measure => omega
set_option maxRecDepth 100000 in
set_option maxHeartbeats 1000000 in
theorem containsArcs (n : Nat) (L : List Sp.Arc) (lv : Value) (b : Nat) (w : World) (hl : ArcsI w lv L) (h1000 : L.length ≤ 1000) (hld : Sp.Snd n L) (hb : b < w.heap.size) (hc : w.cell? ⟨b, 0, none⟩ = some (.int .i64 (n : Int))) :
    Calls Try.prog 36 #[lv, .func (.func 37) #[] #[.pointer (some ⟨b, 0, none⟩)]] w fun e w' => e = .returned (.bool false) ∧ Below w.heap.size w w' := by
  have HL := hide (indexArcs n L lv b w hl h1000 hld hb hc)
  clear hl hld hb hc
  go_enter Try.func36, Try.ntmps36
  go_wp2_with fail
  go_at_call 50
  refine (unhide HL).mono ?_
  rintro e w2 ⟨rfl, hb2⟩
  have HB := hide hb2
  clear hb2
  go_wp2
  go_ret
  exact ⟨by rfl, unhide HB⟩
set_option maxRecDepth 100000 in
set_option maxHeartbeats 2000000 in
theorem indexFwd (L : List Sp.Arc) (lv : Value) (w : World) (hl : ArcsI w lv L) (h1000 : L.length ≤ 1000) (hld : ∀ a ∈ L, 0 ≤ a.l) :
    Calls Try.prog 50 #[lv, .func (.func 39) #[] #[]] w fun e w' => e = .returned (.int .i64 (-1)) ∧ Below w.heap.size w w' := by
  have HC : Hid (∀ w' j, Below w.heap.size w w' → j < L.length → Calls Try.prog 39 #[.agg #[.int .i64 ((L.getD j Sp.arc0).f : Int), .int .i64 ((L.getD j Sp.arc0).t : Int), .int .i64 (L.getD j Sp.arc0).l]] w' fun e w'' => e = .returned (.bool false) ∧ Below w'.heap.size w' w'') := hide fun w' j hw hj =>
    pforward1_any _ _ _ w' (Int.not_lt.2 (hld _ (Sp.arc_mem hj)))
  obtain ⟨la, lc, rfl, -, -, HL⟩ := hl.all
  obtain ⟨P, hP⟩ : ∃ P : Ending → World → Prop, P = fun e w' => e = .returned (.int .i64 (-1)) ∧ Below w.heap.size w w' := ⟨_, rfl⟩
  rw [← hP]
  have HP := hide hP
  clear hP hl hld
  go_enter Try.func50, Try.ntmps50
  go_wp2
  go_loopg [8] L.length (fun g s8 wr => ∃ k : Nat, k + g = L.length ∧ s8 = .int .i64 (k : Int) ∧ Hid (Below w.heap.size w wr))
  case atStart => exact ⟨0, by omega, rfl, hide (Below.refl _ _)⟩
  case round =>
    obtain ⟨k, hk, rfl, HB⟩ := hrel
    cases gk with
    | zero =>
      obtain rfl : k = L.length := by omega
      go_wp2
      rw [unhide HP]
      exact ⟨by rfl, unhide HB⟩
    | succ g' =>
      have hlt : k < L.length := by omega
      have hltI : (k : Int) < (L.length : Int) := by omega
      obtain ⟨b', o, rfl, -, hcx⟩ := unhide HL k hlt
      obtain ⟨c1, c2, c3⟩ := hcx wr (unhide HB)
      have HCl := hide (unhide HC wr k (unhide HB) hlt)
      generalize (L.getD k Sp.arc0).f = zf at *
      generalize (L.getD k Sp.arc0).t = zt at *
      generalize (L.getD k Sp.arc0).l = zl at *
      clear hcx
      go_wp2_with fail
      go_at_call 39
      refine (unhide HCl).mono ?_
      rintro e w2 ⟨rfl, hb2⟩
      have HB2 := hide ((unhide HB).trans (hb2.mono (unhide HB).size))
      clear hb2 HCl HB c1
      go_wp2
      go_roundg g'
      case rel => exact ⟨k + 1, by omega, by go_num, HB2⟩
      case measure => omega
set_option maxRecDepth 100000 in
set_option maxHeartbeats 1000000 in
theorem containsFwd (L : List Sp.Arc) (lv : Value) (w : World) (hl : ArcsI w lv L) (h1000 : L.length ≤ 1000) (hld : ∀ a ∈ L, 0 ≤ a.l) :
    Calls Try.prog 36 #[lv, .func (.func 39) #[] #[]] w fun e w' => e = .returned (.bool false) ∧ Below w.heap.size w w' := by
  have HL := hide (indexFwd L lv w hl h1000 hld)
  clear hl hld
  go_enter Try.func36, Try.ntmps36
  go_wp2_with fail
  go_at_call 50
  refine (unhide HL).mono ?_
  rintro e w2 ⟨rfl, hb2⟩
  have HB := hide hb2
  clear hb2
  go_wp2
  go_ret
  exact ⟨by rfl, unhide HB⟩
set_option maxRecDepth 100000 in
set_option maxHeartbeats 1000000 in
theorem forward_yes (L : List Sp.Arc) (lv : Value) (w : World) (hl : ArcsI w lv L) (h1000 : L.length ≤ 1000) (hld : ∀ a ∈ L, 0 ≤ a.l) :
    Calls Try.prog 23 #[lv] w fun e w' => e = .returned (.bool true) ∧ Below w.heap.size w w' := by
  have HC := hide (containsFwd L lv w hl h1000 hld)
  obtain ⟨a, c, rfl, -⟩ := hl.form
  clear hl hld
  go_enter Try.func23, Try.ntmps23
  go_wp2_with fail
  go_at_call 36
  refine (unhide HC).mono ?_
  rintro e w2 ⟨rfl, hb2⟩
  have HB := hide hb2
  clear hb2
  go_wp2
  go_ret
  exact ⟨by rfl, unhide HB⟩
set_option maxRecDepth 100000 in
set_option maxHeartbeats 2000000 in
theorem psound_yes (n : Nat) (L : List Sp.Arc) (E : List Int) (lv ev : Value) (w : World) (hl : ArcsI w lv L) (he : Ints w ev E) (hE : E.length ≤ 1000) (hn : 1 ≤ n ∧ n ≤ 300) (hS : Sp.Snd n L) (hld : ∀ x ∈ E, 0 ≤ x ∧ x < (n : Int)) :
    Calls Try.prog 22 #[.int .i64 (n : Int), lv, ev] w fun e w' => e = .returned (.bool true) ∧ Below w.heap.size w w' := by
  have hn1 : ¬ (n : Int) < 1 := by omega
  have hn2 : ¬ 300 < (n : Int) := by omega
  have hf := hS.few
  have hl3 : ¬ 1000 < (L.length : Int) := by omega
  obtain ⟨W1, hW1⟩ : ∃ W1, W1 = w.alloc (.cells #[.int .i64 (n : Int)] 3) := ⟨_, rfl⟩
  have hb1 : Below w.heap.size w W1 := by rw [hW1]; exact (Below.refl _ w).alloc (Nat.le_refl _) _
  have hs1 : W1.heap.size = w.heap.size + 1 := by rw [hW1]; simp
  have hc1 : W1.cell? ⟨w.heap.size, 0, none⟩ = some (.int .i64 (n : Int)) := by
    have e : W1.heap[w.heap.size]? = some (.cells #[.int .i64 (n : Int)] 3) := by
      rw [hW1]; show (w.heap.push _)[w.heap.size]? = _; simp
    simp only [World.cell?, e]; rfl
  have HC1 := hide (containsEnds n E ev w.heap.size W1 (he.below hb1) hE hld (by omega) hc1)
  have HC2 : Hid (∀ w', Below W1.heap.size W1 w' → Calls Try.prog 36 #[lv, .func (.func 37) #[] #[.pointer (some ⟨w.heap.size, 0, none⟩)]] w' fun e w'' => e = .returned (.bool false) ∧ Below w'.heap.size w' w'') := hide fun w' hw =>
    containsArcs n L lv w.heap.size w' ((hl.below hb1).below hw) hf hS (by have := hw.size; omega) ((hw.cell (by show w.heap.size < _; omega)).trans hc1)
  have HB : Hid (∀ w' w'', Below W1.heap.size W1 w' → Below w'.heap.size w' w'' → Below w.heap.size w w'') := hide fun w' w'' h h' => hb1.trans ((h.trans (h'.mono h.size)).mono (by omega))
  obtain ⟨a, c, rfl, -⟩ := hl.form
  obtain ⟨a2, c2, rfl, -⟩ := he.form
  clear hl he hS hld hb1 hs1
  subst hW1
  go_enter Try.func22, Try.ntmps22
  go_wp2_with fail
  go_at_call 33
  generalize w.alloc (.cells #[.int .i64 (n : Int)] 3) = W1 at *
  refine (unhide HC1).mono ?_
  rintro e w2 ⟨rfl, hb2⟩
  have HB2 := hide hb2
  have HC3 := hide (unhide HC2 _ hb2)
  clear hb2 HC1 hc1
  go_wp2_with fail
  go_at_call 36
  refine (unhide HC3).mono ?_
  rintro e w3 ⟨rfl, hb3⟩
  have HB3 := hide (unhide HB _ _ (unhide HB2) hb3)
  clear hb3
  go_wp2
  go_ret
  exact ⟨by rfl, unhide HB3⟩
end Go.Proofs.Ytggjpglakocilaa


/- A heap's block: 901 numbers; what a store into it leaves. -/
namespace Go.Proofs.Ytggjpglakocilaa
open Go Go.RowKit

/-- One number of a row turned. -/
def Sp.upd (z : Nat → Int) (j : Nat) (v : Int) : Nat → Int := fun k => if k = j then v else z k
theorem Sp.upd_same (z : Nat → Int) (j : Nat) (v : Int) : Sp.upd z j v j = v := by simp [Sp.upd]
theorem Sp.upd_other (z : Nat → Int) {j k : Nat} (v : Int) (h : k ≠ j) : Sp.upd z j v k = z k := by simp [Sp.upd, h]

/-- Block b holds a heap's numbers. -/
def HpAt (w : World) (b : Nat) (z : Nat → Int) : Prop := ∃ c, w.heap[b]? = some (.cells c 82) ∧ c.size = 901 ∧ ∀ j, j < 901 → c[j]? = some (.int .i64 (z j))
theorem HpAt.lt {w : World} {b : Nat} {z : Nat → Int} (h : HpAt w b z) : b < w.heap.size := by
  obtain ⟨c, hc, -⟩ := h
  exact (Array.getElem?_eq_some_iff.1 hc).1
theorem HpAt.cell {w : World} {b : Nat} {z : Nat → Int} (h : HpAt w b z) {j : Nat} (hj : j < 901) : w.cell? ⟨b, j, none⟩ = some (.int .i64 (z j)) := by
  obtain ⟨c, hc, -, hz⟩ := h
  simp only [World.cell?, hc]
  exact hz j hj
theorem HpAt.frozen {w : World} {b : Nat} {z : Nat → Int} (h : HpAt w b z) (j : Nat) (s : Option Nat) : w.frozen? ⟨b, j, s⟩ = false := by
  obtain ⟨c, hc, -⟩ := h
  simp only [World.frozen?, hc]
  simp
theorem HpAt.of_block {w w' : World} {b : Nat} {z : Nat → Int} (h : HpAt w b z) (e : w'.heap[b]? = w.heap[b]?) : HpAt w' b z := by
  obtain ⟨c, hc, h1⟩ := h
  exact ⟨c, by rw [e]; exact hc, h1⟩
theorem HpAt.set {w : World} {b : Nat} {z : Nat → Int} (h : HpAt w b z) (j : Nat) (v : Int) : HpAt (w.setCell ⟨b, j, none⟩ (.int .i64 v)) b (Sp.upd z j v) := by
  obtain ⟨c, hc, hs, hz⟩ := h
  refine ⟨c.setIfInBounds j (.int .i64 v), ?_, by simpa using hs, fun k hk => ?_⟩
  · simp only [World.setCell, Array.getElem?_modify, if_pos, hc]
    rfl
  · rw [Array.getElem?_setIfInBounds]
    by_cases hjk : j = k
    · rw [if_pos hjk, if_pos (by omega), ← hjk, Sp.upd_same]
    · rw [if_neg hjk, hz k hk, Sp.upd_other _ _ (by omega)]
/-- All but block b is as it was. -/
structure But (b : Nat) (w w' : World) : Prop where
  os : w'.os = w.os
  tape : w'.tape = w.tape
  output : w'.output = w.output
  size : w.heap.size ≤ w'.heap.size
  block : ∀ k, k < w.heap.size → k ≠ b → w'.heap[k]? = w.heap[k]?
theorem But.refl (b : Nat) (w : World) : But b w w := ⟨rfl, rfl, rfl, Nat.le_refl _, fun _ _ _ => rfl⟩
theorem But.trans {b : Nat} {u v w : World} (h : But b u v) (k : But b v w) : But b u w :=
  ⟨k.os.trans h.os, k.tape.trans h.tape, k.output.trans h.output, Nat.le_trans h.size k.size, fun i hi hb => (k.block i (Nat.lt_of_lt_of_le hi h.size) hb).trans (h.block i hi hb)⟩
theorem But.of {b : Nat} {w w' : World} (h : Below w.heap.size w w') : But b w w' := ⟨h.os, h.tape, h.output, h.size, fun k hk _ => h.block k hk⟩
theorem But.below {b B : Nat} {w w' : World} (h : But b w w') (hB : B ≤ b) (hw : B ≤ w.heap.size) : Below B w w' := ⟨h.os, h.tape, h.output, h.size, fun k hk => h.block k (by omega) (by omega)⟩
theorem But.drew {b : Nat} {u w : World} (h : But b u w) : But b u w.drew := h.trans ⟨rfl, rfl, rfl, Nat.le_refl _, fun _ _ _ => rfl⟩
theorem But.alloc {b : Nat} {u w : World} (h : But b u w) (o : Obj) : But b u (w.alloc o) := h.trans (But.of ((Below.refl _ w).alloc (Nat.le_refl _) o))
theorem But.set {b : Nat} {u w : World} (h : But b u w) (j : Nat) (s : Option Nat) (v : Value) : But b u (w.setCell ⟨b, j, s⟩ v) :=
  h.trans ⟨rfl, rfl, rfl, by simp [World.setCell], fun k _ hb => Below.heap_setCell _ _ _ _ hb⟩
theorem But.cell {b : Nat} {w w' : World} (h : But b w w') {p : Addr} (hp : p.block < w.heap.size) (hb : p.block ≠ b) : w'.cell? p = w.cell? p := World.cell?_of_block (w := w) (h.block p.block hp hb)
theorem HpAt.below {w w' : World} {b : Nat} {z : Nat → Int} (h : HpAt w b z) (hb : Below w.heap.size w w') : HpAt w' b z := h.of_block (hb.block b h.lt)
theorem HpAt.alloc {w : World} {b : Nat} {z : Nat → Int} (h : HpAt w b z) (o : Obj) : HpAt (w.alloc o) b z := h.below ((Below.refl _ w).alloc (Nat.le_refl _) o)
theorem HpAt.drew {w : World} {b : Nat} {z : Nat → Int} (h : HpAt w b z) : HpAt w.drew b z := h.of_block rfl
/-- An item in a block of its own. -/
theorem item_new (w : World) (k r : Value) : (w.alloc (.cells #[k, r] 68)).cell? ⟨w.heap.size, 0, none⟩ = some k ∧ (w.alloc (.cells #[k, r] 68)).cell? ⟨w.heap.size, 1, none⟩ = some r := by
  have e : (w.alloc (.cells #[k, r] 68)).heap[w.heap.size]? = some (.cells #[k, r] 68) := by
    show (w.heap.push _)[w.heap.size]? = _
    simp
  constructor <;> simp only [World.cell?, e] <;> rfl

set_option maxRecDepth 100000 in
set_option maxHeartbeats 1000000 in
theorem isKey_any (k : Int) (w : World) : Calls Try.prog 52 #[.int .i64 k] w fun e w' => e = .returned (.bool (decide (0 ≤ k ∧ k < 300))) ∧ w' = w := by
  by_cases h0 : 0 ≤ k
  · by_cases h1 : k < 300
    · have HR := hide (decide_eq_true (And.intro h0 h1))
      generalize decide (0 ≤ k ∧ k < 300) = R at *
      go_enter Try.func52, Try.ntmps52
      go_wp2
      go_ret
      exact ⟨by rw [unhide HR]; rfl, rfl⟩
    · have HR := hide (show decide (0 ≤ k ∧ k < 300) = false from decide_eq_false (by omega))
      generalize decide (0 ≤ k ∧ k < 300) = R at *
      go_enter Try.func52, Try.ntmps52
      go_wp2
      go_ret
      exact ⟨by rw [unhide HR]; rfl, rfl⟩
  · have HR := hide (show decide (0 ≤ k ∧ k < 300) = false from decide_eq_false (by omega))
    generalize decide (0 ≤ k ∧ k < 300) = R at *
    go_enter Try.func52, Try.ntmps52
    go_wp2
    go_ret
    exact ⟨by rw [unhide HR]; rfl, rfl⟩

/-- Whether one item is to be taken before another one: keys, ranks. -/
def Sp.aheadB (k r k' r' : Int) : Bool := decide (r < r') || (decide (r = r') && decide (k < k'))
set_option maxRecDepth 100000 in
set_option maxHeartbeats 1000000 in
theorem ahead_any (k r k' r' : Int) (w : World) : Calls Try.prog 62 #[.agg #[.int .i64 k, .int .i64 r], .agg #[.int .i64 k', .int .i64 r']] w fun e w' => e = .returned (.bool (Sp.aheadB k r k' r')) ∧ Below w.heap.size w w' := by
  have HB : Hid (∀ o o', Below w.heap.size w ((w.alloc o).alloc o')) := hide fun o o' => ((Below.refl _ w).alloc (Nat.le_refl _) o).alloc (by simp) o'
  by_cases h0 : r < r'
  · have HR : Hid (Sp.aheadB k r k' r' = true) := hide (by simp [Sp.aheadB, h0])
    generalize Sp.aheadB k r k' r' = R at *
    go_enter Try.func62, Try.ntmps62
    go_wp2
    go_ret
    exact ⟨by rw [unhide HR]; rfl, unhide HB _ _⟩
  · by_cases h1 : r = r'
    · subst h1
      by_cases h2 : k < k'
      · have HR : Hid (Sp.aheadB k r k' r = true) := hide (by simp [Sp.aheadB, h2])
        generalize Sp.aheadB k r k' r = R at *
        go_enter Try.func62, Try.ntmps62
        go_wp2
        go_ret
        exact ⟨by rw [unhide HR]; rfl, unhide HB _ _⟩
      · have HR : Hid (Sp.aheadB k r k' r = false) := hide (by simp [Sp.aheadB, h2])
        generalize Sp.aheadB k r k' r = R at *
        go_enter Try.func62, Try.ntmps62
        go_wp2
        go_ret
        exact ⟨by rw [unhide HR]; rfl, unhide HB _ _⟩
    · have HR : Hid (Sp.aheadB k r k' r' = false) := hide (by simp [Sp.aheadB, h0, h1])
      generalize Sp.aheadB k r k' r' = R at *
      go_enter Try.func62, Try.ntmps62
      go_wp2
      go_ret
      exact ⟨by rw [unhide HR]; rfl, unhide HB _ _⟩
end Go.Proofs.Ytggjpglakocilaa


/- Package heap: find, stand. -/
namespace Go.Proofs.Ytggjpglakocilaa
open Go Go.RowKit

theorem cell_set_ne {w : World} {b j b' j' : Nat} {v : Value} (h : b ≠ b' ∨ j ≠ j') : (w.setCell ⟨b, j, none⟩ v).cell? ⟨b', j', none⟩ = w.cell? ⟨b', j', none⟩ := by
  apply World.cell?_setCell_other
  intro e
  injection e with e1 e2
  omega
/-- An item laid at a place. -/
def Sp.stand (z : Nat → Int) (p k : Nat) (r : Int) : Nat → Int := Sp.upd (Sp.upd (Sp.upd z (p * 2) (k : Int)) (p * 2 + 1) r) (601 + k) ((p : Int) + 1)

set_option maxRecDepth 100000 in
set_option maxHeartbeats 1000000 in
theorem stand_any (z : Nat → Int) (b p k : Nat) (r : Int) (w : World) (h : HpAt w b z) (hp : p < 300) (hk : k < 300) :
    Calls Try.prog 61 #[.pointer (some ⟨b, 0, none⟩), .int .i64 (p : Int), .agg #[.int .i64 (k : Int), .int .i64 r]] w fun e w' => e = .returned (.tuple #[]) ∧ But b w w' ∧ HpAt w' b (Sp.stand z p k r) := by
  have hpI : (p : Int) < 300 := by omega
  have hkI : (k : Int) < 300 := by omega
  have hb := h.lt
  obtain ⟨x0, x1⟩ := item_new w (.int .i64 (k : Int)) (.int .i64 r)
  have h1 := h.alloc (.cells #[.int .i64 (k : Int), .int .i64 r] 68)
  have c0 := h1.cell (j := p * 2) (by omega)
  have c1 := h1.cell (j := p * 2 + 1) (by omega)
  have f := fun j => h1.frozen j none
  have c1' := fun v : Value => show ((w.alloc (.cells #[.int .i64 (k : Int), .int .i64 r] 68)).setCell ⟨b, p * 2, none⟩ v).cell? ⟨b, p * 2 + 1, none⟩ = some (.int .i64 (z (p * 2 + 1))) by rw [cell_set_ne (by omega)]; exact c1
  have H := hide h1
  clear h h1
  go_enter Try.func61, Try.ntmps61
  go_wp2_with fail
  generalize hW : w.alloc (.cells #[.int .i64 (k : Int), .int .i64 r] 68) = W1 at *
  have HW := hide hW
  clear hW
  go_region
  go_wp2_with fail
  obtain ⟨W2, hW2⟩ : ∃ W2, W2 = ((W1.setCell ⟨b, p * 2, none⟩ (.int .i64 (k : Int))).setCell ⟨b, p * 2 + 1, none⟩ (.int .i64 r)).drew := ⟨_, rfl⟩
  have h2 : HpAt W2 b (Sp.upd (Sp.upd z (p * 2) (k : Int)) (p * 2 + 1) r) := by rw [hW2]; exact (((unhide H).set _ _).set _ _).drew
  have HB2 : Hid (But b w W2) := hide (by rw [hW2, ← unhide HW]; exact ((((But.refl b w).alloc _).set _ _ _).set _ _ _).drew)
  have y0 : W2.cell? ⟨w.heap.size, 0, none⟩ = some (.int .i64 (k : Int)) := by
    rw [hW2]; show World.cell? (World.setCell _ _ _) _ = _; rw [cell_set_ne (by omega), cell_set_ne (by omega)]; exact x0
  rw [← hW2]
  clear x0 x1 c0 c1 f c1' H HW hW2
  have c2 := h2.cell (j := 601 + k) (by omega)
  have f2 := fun j => h2.frozen j none
  have H2 := hide h2
  clear h2
  go_region
  go_wp2
  go_end0
  exact ⟨rfl, ((unhide HB2).set _ _ _).drew, ((unhide H2).set _ _).drew⟩
end Go.Proofs.Ytggjpglakocilaa


/- A row of numbers in a block of its own, as a function; all but some blocks as they were. -/
namespace Go.Proofs.Ytggjpglakocilaa
open Go Go.RowKit

/-- All but the blocks of p is as it was. -/
structure Bt (p : Nat → Prop) (w w' : World) : Prop where
  os : w'.os = w.os
  tape : w'.tape = w.tape
  output : w'.output = w.output
  size : w.heap.size ≤ w'.heap.size
  block : ∀ k, k < w.heap.size → ¬ p k → w'.heap[k]? = w.heap[k]?
theorem Bt.refl (p : Nat → Prop) (w : World) : Bt p w w := ⟨rfl, rfl, rfl, Nat.le_refl _, fun _ _ _ => rfl⟩
theorem Bt.trans {p : Nat → Prop} {u v w : World} (h : Bt p u v) (k : Bt p v w) : Bt p u w :=
  ⟨k.os.trans h.os, k.tape.trans h.tape, k.output.trans h.output, Nat.le_trans h.size k.size, fun i hi hb => (k.block i (Nat.lt_of_lt_of_le hi h.size) hb).trans (h.block i hi hb)⟩
theorem Bt.mono {p q : Nat → Prop} {w w' : World} (h : Bt p w w') (hq : ∀ k, k < w.heap.size → p k → q k) : Bt q w w' := ⟨h.os, h.tape, h.output, h.size, fun k hk hn => h.block k hk (fun hp => hn (hq k hk hp))⟩
theorem Bt.of {p : Nat → Prop} {w w' : World} (h : Below w.heap.size w w') : Bt p w w' := ⟨h.os, h.tape, h.output, h.size, fun k hk _ => h.block k hk⟩
theorem Bt.below {p : Nat → Prop} {B : Nat} {w w' : World} (h : Bt p w w') (hp : ∀ k, p k → B ≤ k) (hw : B ≤ w.heap.size) : Below B w w' := ⟨h.os, h.tape, h.output, h.size, fun k hk => h.block k (by omega) (fun e => by have := hp k e; omega)⟩
theorem Bt.drew {p : Nat → Prop} {u w : World} (h : Bt p u w) : Bt p u w.drew := h.trans ⟨rfl, rfl, rfl, Nat.le_refl _, fun _ _ _ => rfl⟩
theorem Bt.dn {p : Nat → Prop} {u w : World} (h : Bt p u w) (n : Nat) : Bt p u (w.drewN n) := ⟨h.os, h.tape, h.output, h.size, h.block⟩
theorem Bt.alloc {p : Nat → Prop} {u w : World} (h : Bt p u w) (o : Obj) : Bt p u (w.alloc o) := h.trans (Bt.of ((Below.refl _ w).alloc (Nat.le_refl _) o))
theorem Bt.set {p : Nat → Prop} {u w : World} (h : Bt p u w) {b : Nat} (hb : p b ∨ u.heap.size ≤ b) (j : Nat) (s : Option Nat) (v : Value) : Bt p u (w.setCell ⟨b, j, s⟩ v) := by
  refine ⟨h.os, h.tape, h.output, ?_, fun k hk hn => ?_⟩
  · have := h.size
    have e : (w.setCell ⟨b, j, s⟩ v).heap.size = w.heap.size := by simp [World.setCell]
    omega
  · rw [Below.heap_setCell _ _ _ _ (by
      show k ≠ b
      intro e
      subst e
      rcases hb with hb | hb
      · exact hn hb
      · omega)]
    exact h.block k hk hn
theorem Bt.cell {p : Nat → Prop} {w w' : World} (h : Bt p w w') {a : Addr} (ha : a.block < w.heap.size) (hb : ¬ p a.block) : w'.cell? a = w.cell? a := World.cell?_of_block (w := w) (h.block a.block ha hb)
/-- Block b is a row of the n numbers z. -/
def RowAt (w : World) (b n : Nat) (z : Nat → Int) : Prop := ∃ c, w.heap[b]? = some (.cells c 3) ∧ c.size = n ∧ ∀ j, j < n → c[j]? = some (.int .i64 (z j))
theorem RowAt.lt {w : World} {b n : Nat} {z : Nat → Int} (h : RowAt w b n z) : b < w.heap.size := by
  obtain ⟨c, hc, -⟩ := h
  exact (Array.getElem?_eq_some_iff.1 hc).1
theorem RowAt.cell {w : World} {b n : Nat} {z : Nat → Int} (h : RowAt w b n z) {j : Nat} (hj : j < n) : w.cell? ⟨b, j, none⟩ = some (.int .i64 (z j)) := by
  obtain ⟨c, hc, -, hz⟩ := h
  simp only [World.cell?, hc]
  exact hz j hj
theorem RowAt.frozen {w : World} {b n : Nat} {z : Nat → Int} (h : RowAt w b n z) (j : Nat) (s : Option Nat) : w.frozen? ⟨b, j, s⟩ = false := by
  obtain ⟨c, hc, -⟩ := h
  simp only [World.frozen?, hc]
  simp
theorem RowAt.of_block {w w' : World} {b n : Nat} {z : Nat → Int} (h : RowAt w b n z) (e : w'.heap[b]? = w.heap[b]?) : RowAt w' b n z := by
  obtain ⟨c, hc, h1⟩ := h
  exact ⟨c, by rw [e]; exact hc, h1⟩
theorem RowAt.set {w : World} {b n : Nat} {z : Nat → Int} (h : RowAt w b n z) (j : Nat) (v : Int) : RowAt (w.setCell ⟨b, j, none⟩ (.int .i64 v)) b n (Sp.upd z j v) := by
  obtain ⟨c, hc, hs, hz⟩ := h
  refine ⟨c.setIfInBounds j (.int .i64 v), ?_, by simpa using hs, fun k hk => ?_⟩
  · simp only [World.setCell, Array.getElem?_modify, if_pos, hc]
    rfl
  · rw [Array.getElem?_setIfInBounds]
    by_cases hjk : j = k
    · rw [if_pos hjk, if_pos (by omega), ← hjk, Sp.upd_same]
    · rw [if_neg hjk, hz k hk, Sp.upd_other _ _ (by omega)]
theorem RowAt.set_ne {w : World} {b n : Nat} {z : Nat → Int} (h : RowAt w b n z) {b' : Nat} (hb : b ≠ b') (j : Nat) (s : Option Nat) (v : Value) : RowAt (w.setCell ⟨b', j, s⟩ v) b n z :=
  h.of_block (Below.heap_setCell _ _ _ _ hb)
theorem RowAt.below {w w' : World} {b n : Nat} {z : Nat → Int} (h : RowAt w b n z) (hb : Below w.heap.size w w') : RowAt w' b n z := h.of_block (hb.block b h.lt)
theorem RowAt.bt {p : Nat → Prop} {w w' : World} {b n : Nat} {z : Nat → Int} (h : RowAt w b n z) (hb : Bt p w w') (hp : ¬ p b) : RowAt w' b n z := h.of_block (hb.block b h.lt hp)
theorem RowAt.alloc {w : World} {b n : Nat} {z : Nat → Int} (h : RowAt w b n z) (o : Obj) : RowAt (w.alloc o) b n z := h.below ((Below.refl _ w).alloc (Nat.le_refl _) o)
theorem RowAt.drew {w : World} {b n : Nat} {z : Nat → Int} (h : RowAt w b n z) : RowAt w.drew b n z := h.of_block rfl
theorem RowAt.dn {w : World} {b n : Nat} {z : Nat → Int} (h : RowAt w b n z) (k : Nat) : RowAt (w.drewN k) b n z := h.of_block rfl
theorem RowAt.congr {w : World} {b n : Nat} {z z' : Nat → Int} (h : RowAt w b n z) (e : ∀ j, j < n → z j = z' j) : RowAt w b n z' := by
  obtain ⟨c, hc, hs, hz⟩ := h
  exact ⟨c, hc, hs, fun j hj => by rw [← e j hj]; exact hz j hj⟩
theorem RowAt.own {w : World} {b n B : Nat} {z : Nat → Int} (h : RowAt w b n z) (hB : B ≤ b) (hn : n ≤ 1000000) : OwnI w B (.slice (some ⟨b, 0, none⟩) n n) ((List.range n).map z) := by
  obtain ⟨c, hc, hs, hz⟩ := h
  refine ⟨by simp, .inr ⟨b, n, c, by simp, hB, hc, by simp, by unfold maxLen; omega, by simp [hs], ?_⟩⟩
  apply List.ext_getElem?
  intro j
  simp only [List.length_map, List.length_range, List.getElem?_map, List.getElem?_take, Nat.mul_one]
  by_cases hj : j < n
  · rw [if_pos hj, Array.getElem?_toList, hz j hj, List.getElem?_range hj]; rfl
  · rw [if_neg hj, List.getElem?_eq_none (by simpa using hj)]; rfl
theorem RowAt.ints {w : World} {b n : Nat} {z : Nat → Int} (h : RowAt w b n z) (hn : n ≤ 1000000) : Ints w (.slice (some ⟨b, 0, none⟩) n n) ((List.range n).map z) := (h.own (Nat.zero_le _) hn).ints
theorem RowAt.of_own {w : World} {B b n : Nat} {l : List Int} (h : OwnI w B (.slice (some ⟨b, 0, none⟩) n n) l) (hl : l.length = n) : RowAt w b n (fun j => l.getD j 0) ∧ B ≤ b := by
  obtain ⟨h1, ⟨h2, -⟩ | ⟨g', cap, cur, e, hg, hh, hnc, hcm, hsz, htk⟩⟩ := h
  · cases h2
  · injection e with e1 e2 e3
    injection e1 with e1
    injection e1 with e1 _
    subst e1 e3
    refine ⟨⟨cur, hh, by omega, fun j hj => ?_⟩, hg⟩
    have e4 : cur.toList = l.map (Value.int .i64) := by
      rw [← htk, List.take_of_length_le]
      simp; omega
    show _ = some (Value.int .i64 (l.getD j 0))
    rw [← Array.getElem?_toList, e4, List.getElem?_map, List.getD_eq_getElem?_getD, List.getElem?_eq_getElem (by omega)]; rfl
theorem RowAt.of_rep {w : World} {B b n : Nat} {x : Int} (h : OwnI w B (.slice (some ⟨b, 0, none⟩) n n) (List.replicate n x)) : RowAt w b n (fun _ => x) ∧ B ≤ b := by
  obtain ⟨h1, h2⟩ := RowAt.of_own h (by simp)
  exact ⟨h1.congr fun j hj => by rw [List.getD_eq_getElem?_getD, List.getElem?_replicate, if_pos hj]; rfl, h2⟩
end Go.Proofs.Ytggjpglakocilaa


/- A round below 0, found by the arcs by which places were last shortened (P601: Any). -/
namespace Go.Proofs.Ytggjpglakocilaa
open Go Go.RowKit

/-- What stays along the passes: by tells for each place the arc that shortened it last; tm when; pn in which pass. -/
structure Sp.Tr (far : Int) (L : List Sp.Arc) (n : Nat) (d : Nat → Int) (by_ : Nat → Option Sp.Arc) (tm pn : Nat → Nat) (clock : Nat) : Prop where
  arc : ∀ v a, v < n → by_ v = some a → a ∈ L ∧ a.t = v ∧ d a.f ≠ far ∧ d a.f + a.l ≤ d v ∧ (tm v ≤ tm a.f → d a.f + a.l < d v) ∧ pn v ≤ pn a.f + 1
  past : ∀ v, tm v < clock
  some_ : ∀ v, v < n → 0 < pn v → by_ v ≠ none
/-- A place is shortened. -/
theorem Sp.Tr.put {far : Int} {L : List Sp.Arc} {n : Nat} {d : Nat → Int} {by_ : Nat → Option Sp.Arc} {tm pn : Nat → Nat} {clock k : Nat} (h : Sp.Tr far L n d by_ tm pn clock) {a : Sp.Arc} (ha : a ∈ L) (hg : d a.f ≠ far) (hlt : d a.f + a.l < d a.t) (hx : d a.f + a.l ≠ far) (hk : k ≤ pn a.f + 1) (hkt : pn a.t ≤ k) :
    Sp.Tr far L n (fun v => if v = a.t then d a.f + a.l else d v) (fun v => if v = a.t then some a else by_ v) (fun v => if v = a.t then clock else tm v) (fun v => if v = a.t then k else pn v) (clock + 1) := by
  refine ⟨fun v b hv hb => ?_, fun v => ?_, fun v hv hp => ?_⟩
  · by_cases e : v = a.t
    · rw [if_pos e] at hb
      injection hb with hb
      subst hb
      rw [if_pos e, if_pos e, if_pos e]
      by_cases e2 : a.f = a.t
      · rw [if_pos e2, if_pos e2, if_pos e2]
        rw [e2] at hlt hx hg ⊢
        exact ⟨ha, e.symm, hx, by omega, fun _ => by omega, by omega⟩
      · rw [if_neg e2, if_neg e2, if_neg e2]
        have := h.past a.f
        exact ⟨ha, e.symm, hg, Int.le_refl _, fun hh => by omega, hk⟩
    · rw [if_neg e] at hb
      obtain ⟨h1, h2, h3, h4, h5, h6⟩ := h.arc v b hv hb
      rw [if_neg e, if_neg e, if_neg e]
      by_cases e2 : b.f = a.t
      · rw [if_pos e2, if_pos e2, if_pos e2]
        rw [e2] at h4 h6
        exact ⟨h1, h2, hx, by omega, fun _ => by omega, by omega⟩
      · rw [if_neg e2, if_neg e2, if_neg e2]
        exact ⟨h1, h2, h3, h4, h5, h6⟩
  · show (if v = a.t then clock else tm v) < clock + 1
    split
    · omega
    · have := h.past v; omega
  · by_cases e : v = a.t
    · rw [if_pos e]; exact fun e => by cases e
    · rw [if_neg e] at hp ⊢
      exact h.some_ v hv hp
/-- Back along the arcs, m of them, from x to y, together z long. -/
def Sp.Bk (by_ : Nat → Option Sp.Arc) : Nat → Nat → Nat → Int → Prop
  | 0, x, y, z => x = y ∧ z = 0
  | m + 1, x, y, z => ∃ a, by_ x = some a ∧ Sp.Bk by_ m a.f y (z - a.l)
theorem Sp.Tr.back {far : Int} {L : List Sp.Arc} {n : Nat} {d : Nat → Int} {by_ : Nat → Option Sp.Arc} {tm pn : Nat → Nat} {clock : Nat} (h : Sp.Tr far L n d by_ tm pn clock) (hL : ∀ a ∈ L, a.f < n ∧ a.t < n) : ∀ m x y z, x < n → Sp.Bk by_ m x y z → y < n ∧ d y + z ≤ d x ∧ (m = 0 ∨ tm y < tm x ∨ d y + z < d x)
  | 0, x, y, z, hx, hb => by
    obtain ⟨rfl, rfl⟩ := hb
    exact ⟨hx, by omega, .inl rfl⟩
  | m + 1, x, y, z, hx, hb => by
    obtain ⟨a, ha, hb⟩ := hb
    obtain ⟨h1, h2, h3, h4, h5, -⟩ := h.arc x a hx ha
    obtain ⟨i1, i2, i3⟩ := Sp.Tr.back h hL m a.f y _ (hL a h1).1 hb
    refine ⟨i1, by omega, .inr ?_⟩
    by_cases ht : tm x ≤ tm a.f
    · have := h5 ht
      exact .inr (by omega)
    · rcases i3 with i3 | i3 | i3
      · subst i3
        obtain ⟨e, -⟩ := hb
        rw [← e]
        exact .inl (by omega)
      · exact .inl (by omega)
      · exact .inr (by omega)
/-- What comes round is below 0. -/
theorem Sp.Tr.round {far : Int} {L : List Sp.Arc} {n : Nat} {d : Nat → Int} {by_ : Nat → Option Sp.Arc} {tm pn : Nat → Nat} {clock : Nat} (h : Sp.Tr far L n d by_ tm pn clock) (hL : ∀ a ∈ L, a.f < n ∧ a.t < n) {m x : Nat} {z : Int} (hx : x < n) (hm : 0 < m) (hb : Sp.Bk by_ m x x z) : z < 0 := by
  obtain ⟨-, h1, h2⟩ := h.back hL m x x z hx hb
  rcases h2 with h2 | h2 | h2
  · omega
  · omega
  · omega
end Go.Proofs.Ytggjpglakocilaa


/- Package path: pass. -/
namespace Go.Proofs.Ytggjpglakocilaa
open Go Go.RowKit

def Sp.far : Int := 1152921504606846976
/-- The arcs tried one by one: how long, by which, what was shortened last. -/
def Sp.pq (L : List Sp.Arc) (D Y : Nat → Int) : Nat → (Nat → Int) × (Nat → Int) × Int
  | 0 => (D, Y, -1)
  | i + 1 => if (Sp.pq L D Y i).1 (L.getD i Sp.arc0).f ≠ 1152921504606846976 ∧ (Sp.pq L D Y i).1 (L.getD i Sp.arc0).f + (L.getD i Sp.arc0).l < (Sp.pq L D Y i).1 (L.getD i Sp.arc0).t then
      (Sp.upd (Sp.pq L D Y i).1 (L.getD i Sp.arc0).t ((Sp.pq L D Y i).1 (L.getD i Sp.arc0).f + (L.getD i Sp.arc0).l), Sp.upd (Sp.pq L D Y i).2.1 (L.getD i Sp.arc0).t (i : Int), ((L.getD i Sp.arc0).t : Int))
    else Sp.pq L D Y i
/-- A row of lengths that have not come near far. -/
def Sp.Bnd (n : Nat) (K : Int) (D : Nat → Int) : Prop := ∀ v, v < n → D v = 1152921504606846976 ∨ (-K ≤ D v ∧ D v ≤ K)
theorem Sp.Bnd.pq {n : Nat} {K : Int} {L : List Sp.Arc} {D : Nat → Int} (Y : Nat → Int) (hS : Sp.Snd n L) (hK : 0 ≤ K) (hD : Sp.Bnd n K D) : ∀ i, i ≤ L.length → Sp.Bnd n (K + (i : Int) * 1099511627776) (Sp.pq L D Y i).1
  | 0, _ => fun v hv => by
    show D v = _ ∨ (_ ≤ D v ∧ D v ≤ _)
    rcases hD v hv with h | h
    · exact .inl h
    · exact .inr ⟨by have := h.1; omega, by have := h.2; omega⟩
  | i + 1, hi => fun v hv => by
    have ih := Sp.Bnd.pq Y hS hK hD i (by omega)
    obtain ⟨h1, h2, h3, h4⟩ := hS.at_ _ (Sp.arc_mem (show i < L.length by omega))
    have hv0 := ih v hv
    have hf0 := ih _ h1
    rw [Sp.pq]
    generalize Sp.pq L D Y i = q at *
    generalize L.getD i Sp.arc0 = a at *
    split
    · rename_i hc
      show Sp.upd q.1 a.t (q.1 a.f + a.l) v = _ ∨ (_ ≤ Sp.upd q.1 a.t (q.1 a.f + a.l) v ∧ Sp.upd q.1 a.t (q.1 a.f + a.l) v ≤ _)
      unfold Sp.upd
      by_cases e : v = a.t
      · rw [if_pos e]
        rcases hf0 with hf0 | hf0
        · exact absurd hf0 hc.1
        · exact .inr ⟨by omega, by omega⟩
      · rw [if_neg e]
        rcases hv0 with hv0 | hv0
        · exact .inl hv0
        · exact .inr ⟨by omega, by omega⟩
    · rcases hv0 with hv0 | hv0
      · exact .inl hv0
      · exact .inr ⟨by omega, by omega⟩
theorem trail_new (w : World) (a b c : Value) : (w.alloc (.cells #[a, b, c] 48)).cell? ⟨w.heap.size, 0, none⟩ = some a ∧ (w.alloc (.cells #[a, b, c] 48)).cell? ⟨w.heap.size, 1, none⟩ = some b ∧ (w.alloc (.cells #[a, b, c] 48)).cell? ⟨w.heap.size, 2, none⟩ = some c := by
  have e : (w.alloc (.cells #[a, b, c] 48)).heap[w.heap.size]? = some (.cells #[a, b, c] 48) := by
    show (w.heap.push _)[w.heap.size]? = _
    simp
  refine ⟨?_, ?_, ?_⟩ <;> simp only [World.cell?, e] <;> rfl
set_option maxRecDepth 100000 in
set_option maxHeartbeats 4000000 in
theorem pass_any (n : Nat) (L : List Sp.Arc) (D Y : Nat → Int) (lv : Value) (gd gb : Nat) (w0 w : World) (K : Int) (hl : ArcsI w0 lv L) (h0 : Below w0.heap.size w0 w) (hS : Sp.Snd n L) (hd : RowAt w gd n D) (hy : RowAt w gb n Y) (hgd : w0.heap.size ≤ gd) (hgb : w0.heap.size ≤ gb) (hne : gd ≠ gb) (hK : 0 ≤ K) (hKL : K + (L.length : Int) * 1099511627776 < 1152921504606846976) (hD : Sp.Bnd n K D) :
    Calls Try.prog 28 #[.agg #[lv, .slice (some ⟨gd, 0, none⟩) n n, .slice (some ⟨gb, 0, none⟩) n n]] w fun e w' => e = .returned (.int .i64 (Sp.pq L D Y L.length).2.2) ∧ RowAt w' gd n (Sp.pq L D Y L.length).1 ∧ RowAt w' gb n (Sp.pq L D Y L.length).2.1 ∧ Bt (fun k => k = gd ∨ k = gb) w w' := by
  have hL1000 := hS.few
  have hgdl := hd.lt
  have hgbl := hy.lt
  obtain ⟨la, lc, rfl, -, -, HL0⟩ := hl.all
  obtain ⟨W1, hW1⟩ : ∃ W1, W1 = w.alloc (.cells #[.slice la L.length lc, .slice (some ⟨gd, 0, none⟩) n n, .slice (some ⟨gb, 0, none⟩) n n] 48) := ⟨_, rfl⟩
  have hb1 : Bt (fun k => k = gd ∨ k = gb) w W1 := by rw [hW1]; exact (Bt.refl _ w).alloc _
  have hs1 : W1.heap.size = w.heap.size + 1 := by rw [hW1]; simp
  have hx := trail_new w (.slice la L.length lc) (.slice (some ⟨gd, 0, none⟩) n n) (.slice (some ⟨gb, 0, none⟩) n n)
  rw [← hW1] at hx
  have HX : Hid (∀ w', Bt (fun k => k = gd ∨ k = gb) W1 w' → w'.cell? ⟨w.heap.size, 0, none⟩ = some (.slice la L.length lc) ∧ w'.cell? ⟨w.heap.size, 1, none⟩ = some (.slice (some ⟨gd, 0, none⟩) n n) ∧ w'.cell? ⟨w.heap.size, 2, none⟩ = some (.slice (some ⟨gb, 0, none⟩) n n)) := hide fun w' hb =>
    ⟨(hb.cell (a := ⟨w.heap.size, 0, none⟩) (by show w.heap.size < _; omega) (by show ¬ (w.heap.size = gd ∨ w.heap.size = gb); omega)).trans hx.1, (hb.cell (a := ⟨w.heap.size, 1, none⟩) (by show w.heap.size < _; omega) (by show ¬ (w.heap.size = gd ∨ w.heap.size = gb); omega)).trans hx.2.1, (hb.cell (a := ⟨w.heap.size, 2, none⟩) (by show w.heap.size < _; omega) (by show ¬ (w.heap.size = gd ∨ w.heap.size = gb); omega)).trans hx.2.2⟩
  have HL : Hid (∀ k, k < L.length → ∃ b o, la = some ⟨b, o, none⟩ ∧ b < w0.heap.size ∧ ∀ w', Bt (fun k => k = gd ∨ k = gb) W1 w' → w'.cell? ⟨b, o + k * 3, none⟩ = some (.int .i64 ((L.getD k Sp.arc0).f : Int)) ∧ w'.cell? ⟨b, o + k * 3 + 1, none⟩ = some (.int .i64 ((L.getD k Sp.arc0).t : Int)) ∧ w'.cell? ⟨b, o + k * 3 + 2, none⟩ = some (.int .i64 (L.getD k Sp.arc0).l)) := hide fun k hk => by
    obtain ⟨b, o, e1, e2, e3⟩ := unhide HL0 k hk
    refine ⟨b, o, e1, e2, fun w' hb => e3 w' ?_⟩
    have hsz := h0.size
    exact h0.trans ((hb1.trans hb).below (B := w0.heap.size) (fun k hk => by rcases hk with rfl | rfl <;> assumption) hsz)
  have HF : Hid (∀ i, i < L.length → (L.getD i Sp.arc0).f < n ∧ (L.getD i Sp.arc0).t < n ∧ -1099511627776 ≤ (L.getD i Sp.arc0).l ∧ (L.getD i Sp.arc0).l ≤ 1099511627776) := hide fun i hi => hS.at_ _ (Sp.arc_mem hi)
  have HBd : Hid (∀ i, i < L.length → ∀ v, v < n → (Sp.pq L D Y i).1 v = 1152921504606846976 ∨ (-1152921504606846976 ≤ (Sp.pq L D Y i).1 v ∧ (Sp.pq L D Y i).1 v ≤ 1152921504606846976)) := hide fun i hi v hv => by
    rcases Sp.Bnd.pq Y hS hK hD i (by omega) v hv with h | h
    · exact .inl h
    · exact .inr ⟨by omega, by omega⟩
  have HQ0 : Hid (Bt (fun k => k = gd ∨ k = gb) W1 W1 ∧ RowAt W1 gd n (Sp.pq L D Y 0).1 ∧ RowAt W1 gb n (Sp.pq L D Y 0).2.1) := hide ⟨Bt.refl _ _, by rw [hW1]; exact hd.alloc _, by rw [hW1]; exact hy.alloc _⟩
  have HQs : Hid (∀ i, Sp.pq L D Y (i + 1) = _) := hide fun i => by rw [Sp.pq]
  have HB1 := hide hb1
  have HS1 := hide hs1
  have hz : (Sp.pq L D Y 0).2.2 = -1 := rfl
  obtain ⟨q, hq⟩ : ∃ q : Nat → (Nat → Int) × (Nat → Int) × Int, q = Sp.pq L D Y := ⟨_, rfl⟩
  rw [← hq] at HBd HQ0 HQs hz ⊢
  obtain ⟨P, hP⟩ : ∃ P : Ending → World → Prop, P = fun e w' => e = .returned (.int .i64 (q L.length).2.2) ∧ RowAt w' gd n (q L.length).1 ∧ RowAt w' gb n (q L.length).2.1 ∧ Bt (fun k => k = gd ∨ k = gb) w w' := ⟨_, rfl⟩
  rw [← hP]
  have HP := hide hP
  clear hP hq hl h0 hS hd hy HL0 hb1 hs1 hx hK hKL hD
  subst hW1
  go_enter Try.func28, Try.ntmps28
  obtain ⟨x0, x1, x2⟩ := unhide HX _ (Bt.refl _ _)
  go_wp2_with fail
  generalize w.alloc (.cells #[.slice la L.length lc, .slice (some ⟨gd, 0, none⟩) n n, .slice (some ⟨gb, 0, none⟩) n n] 48) = W1 at *
  go_loopg [3, 10] L.length (fun g s3 s10 wr => ∃ i : Nat, i + g = L.length ∧ s3 = .int .i64 (q i).2.2 ∧ s10 = .int .i64 (i : Int) ∧ Hid (Bt (fun k => k = gd ∨ k = gb) W1 wr ∧ RowAt wr gd n (q i).1 ∧ RowAt wr gb n (q i).2.1))
  case atStart => exact ⟨0, by omega, by rw [hz], rfl, HQ0⟩
  case round =>
    clear HQ0 x0 x1 x2 hz
    obtain ⟨i, hig, rfl, rfl, HI⟩ := hrel
    by_cases hi : i < L.length
    · have hiI : (i : Int) < (L.length : Int) := by omega
      obtain ⟨g', rfl⟩ : ∃ g', gk = g' + 1 := ⟨gk - 1, by omega⟩
      obtain ⟨b, o, rfl, hb, hcx⟩ := unhide HL i hi
      obtain ⟨c1, c2, c3⟩ := hcx wr (unhide HI).1
      obtain ⟨hfn, htn, hlm, hlp⟩ := unhide HF i hi
      have HSt := unhide HQs i
      have hbf := unhide HBd i hi _ hfn
      have hbt := unhide HBd i hi _ htn
      generalize L.getD i Sp.arc0 = a at *
      obtain ⟨f, t, l⟩ := a
      simp only at c1 c2 c3 hfn htn hlm hlp HSt hbf hbt
      have HSt' := hide HSt
      clear HSt hcx
      obtain ⟨y0, y1, y2⟩ := unhide HX wr (unhide HI).1
      obtain ⟨W2, hW2⟩ : ∃ W2, W2 = wr.alloc (.cells #[.int .i64 (f : Int), .int .i64 (t : Int), .int .i64 l] 30) := ⟨_, rfl⟩
      have hb2 : Bt (fun k => k = gd ∨ k = gb) W1 W2 := by rw [hW2]; exact (unhide HI).1.alloc _
      obtain ⟨z0, z1, z2⟩ := unhide HX W2 hb2
      have hr1 : RowAt W2 gd n (q i).1 := by rw [hW2]; exact (unhide HI).2.1.alloc _
      have hr2 : RowAt W2 gb n (q i).2.1 := by rw [hW2]; exact (unhide HI).2.2.alloc _
      obtain ⟨u0, u1, u2⟩ := arc_new wr (.int .i64 (f : Int)) (.int .i64 (t : Int)) (.int .i64 l)
      rw [← hW2] at u0 u1 u2
      have d1 := hr1.cell hfn
      have d2 := hr1.cell htn
      have d3 := hr2.cell htn
      have fd := fun j => hr1.frozen j none
      have fb := fun j => hr2.frozen j none
      have hwr : w.heap.size + 1 ≤ wr.heap.size := by have := (unhide HI).1.size; have := unhide HS1; omega
      have e1 : ∀ v : Value, (W2.setCell ⟨gd, t, none⟩ v).cell? ⟨w.heap.size, 2, none⟩ = some (.slice (some ⟨gb, 0, none⟩) n n) := fun v => by rw [cell_set_ne (by omega)]; exact z2
      have e2 : ∀ v : Value, (W2.setCell ⟨gd, t, none⟩ v).cell? ⟨wr.heap.size, 1, none⟩ = some (.int .i64 (t : Int)) := fun v => by rw [cell_set_ne (by omega)]; exact u1
      have e3 : ∀ v : Value, (W2.setCell ⟨gd, t, none⟩ v).cell? ⟨gb, t, none⟩ = some (.int .i64 ((q i).2.1 t)) := fun v => by rw [cell_set_ne (by omega)]; exact d3
      have HR := hide (And.intro hb2 (And.intro hr1 hr2))
      have hfnI : (f : Int) < (n : Int) := by omega
      have htnI : (t : Int) < (n : Int) := by omega
      clear hb2 hr1 hr2
      subst hW2
      by_cases hfar : (q i).1 f = 1152921504606846976
      · have HN : Hid (q (i + 1) = q i) := hide (by rw [unhide HSt', if_neg (fun h => h.1 hfar)])
        rw [hfar] at d1
        clear HSt' hbf hbt hfar
        go_wp2
        go_roundg g'
        case rel => exact ⟨i + 1, by omega, by rw [unhide HN], by go_num, hide (by rw [unhide HN]; exact unhide HR)⟩
        case measure => omega
      · have hfar' : ((q i).1 f == 1152921504606846976) = false := beq_eq_false_iff_ne.2 hfar
        have hdb : -1152921504606846976 ≤ (q i).1 f ∧ (q i).1 f ≤ 1152921504606846976 := by
          rcases hbf with h | h
          · exact absurd h hfar
          · exact h
        obtain ⟨hdl, hdu⟩ := hdb
        by_cases hlt : (q i).1 f + l < (q i).1 t
        · have HN : Hid (q (i + 1) = (Sp.upd (q i).1 t ((q i).1 f + l), Sp.upd (q i).2.1 t (i : Int), (t : Int))) := hide (by rw [unhide HSt', if_pos ⟨hfar, hlt⟩])
          have HR2 : Hid (∀ nq, Bt (fun k => k = gd ∨ k = gb) W1 ((((wr.alloc (.cells #[.int .i64 (f : Int), .int .i64 (t : Int), .int .i64 l] 30)).drewN nq).setCell ⟨gd, t, none⟩ (.int .i64 ((q i).1 f + l))).setCell ⟨gb, t, none⟩ (.int .i64 (i : Int))) ∧ RowAt ((((wr.alloc (.cells #[.int .i64 (f : Int), .int .i64 (t : Int), .int .i64 l] 30)).drewN nq).setCell ⟨gd, t, none⟩ (.int .i64 ((q i).1 f + l))).setCell ⟨gb, t, none⟩ (.int .i64 (i : Int))) gd n (Sp.upd (q i).1 t ((q i).1 f + l)) ∧ RowAt ((((wr.alloc (.cells #[.int .i64 (f : Int), .int .i64 (t : Int), .int .i64 l] 30)).drewN nq).setCell ⟨gd, t, none⟩ (.int .i64 ((q i).1 f + l))).setCell ⟨gb, t, none⟩ (.int .i64 (i : Int))) gb n (Sp.upd (q i).2.1 t (i : Int))) := hide fun nq =>
            ⟨(((unhide HR).1.dn nq).set (.inl (.inl rfl)) _ _ _).set (.inl (.inr rfl)) _ _ _, (((unhide HR).2.1.dn nq).set _ _).set_ne hne _ _ _, (((unhide HR).2.2.dn nq).set_ne (fun e => hne e.symm) _ _ _).set _ _⟩
          have u1' : ∀ nq, ((((wr.alloc (.cells #[.int .i64 (f : Int), .int .i64 (t : Int), .int .i64 l] 30)).drewN nq).setCell ⟨gd, t, none⟩ (.int .i64 ((q i).1 f + l))).setCell ⟨gb, t, none⟩ (.int .i64 (i : Int))).cell? ⟨wr.heap.size, 1, none⟩ = some (.int .i64 (t : Int)) := fun nq => by
            rw [cell_set_ne (by omega), cell_set_ne (by omega)]; exact u1
          generalize (q i).1 f = df at *
          generalize (q i).1 t = dt at *
          clear HSt' hbf hbt hfar HR
          go_wp2_with fail
          go_quiet (fail)
          go_wp2_with fail
          go_region
          go_wp2
          go_roundg g'
          case rel => exact ⟨i + 1, by omega, by rw [unhide HN], by go_num, hide (by rw [unhide HN]; exact unhide HR2 _)⟩
          case measure => omega
        · have HN : Hid (q (i + 1) = q i) := hide (by rw [unhide HSt', if_neg (fun h => hlt h.2)])
          generalize (q i).1 f = df at *
          generalize (q i).1 t = dt at *
          have HR' : Hid (∀ nq, Bt (fun k => k = gd ∨ k = gb) W1 ((wr.alloc (.cells #[.int .i64 (f : Int), .int .i64 (t : Int), .int .i64 l] 30)).drewN nq) ∧ RowAt ((wr.alloc (.cells #[.int .i64 (f : Int), .int .i64 (t : Int), .int .i64 l] 30)).drewN nq) gd n (q i).1 ∧ RowAt ((wr.alloc (.cells #[.int .i64 (f : Int), .int .i64 (t : Int), .int .i64 l] 30)).drewN nq) gb n (q i).2.1) := hide fun nq => ⟨(unhide HR).1.dn nq, (unhide HR).2.1.dn nq, (unhide HR).2.2.dn nq⟩
          clear HSt' hbf hbt hfar HR
          go_wp2_with fail
          go_quiet (fail)
          go_wp2
          go_roundg g'
          case rel => exact ⟨i + 1, by omega, by rw [unhide HN], by go_num, hide (by rw [unhide HN]; exact unhide HR' _)⟩
          case measure => omega
    · have hiI : ¬ (i : Int) < (L.length : Int) := by omega
      obtain rfl : i = L.length := by omega
      go_wp2
      rw [unhide HP]
      exact ⟨rfl, (unhide HI).2.1, (unhide HI).2.2, (unhide HB1).trans (unhide HI).1⟩
end Go.Proofs.Ytggjpglakocilaa


/- The walk of package rot: rounds. -/
namespace Go.Proofs.Ytggjpglakocilaa
open Go Go.RowKit

/-- One round, from d on: what was met, and the round's darts behind it, where it comes back to its least. -/
def Sp.walkR (st : List Int) (least : Int) : Nat → Int → List Int → Option (List Int)
  | 0, _, _ => none
  | f + 1, d, row => if d ∈ row then (if d = least then some row else none) else Sp.walkR st least f (st.getD d.toNat 0) (row ++ [d])
/-- All rounds, as the row of their darts and the ends of each. -/
def Sp.rgo (st : List Int) : Nat → Nat → List Int → List (Nat × Nat) → Option (List Int × List (Nat × Nat))
  | 0, _, row, ps => some (row, ps)
  | f + 1, k, row, ps => if (k : Int) ∈ row then Sp.rgo st f (k + 1) row ps else
      match Sp.walkR st k (st.length + 1 - row.length) k row with
      | some row' => Sp.rgo st f (k + 1) row' (ps ++ [(row.length, row'.length)])
      | none => none
def Sp.rnds (st : List Int) : Option (List Int × List (Nat × Nat)) := Sp.rgo st st.length 0 [] []
def Sp.metL (n : Nat) (row : List Int) : List Bool := (List.range n).map fun (d : Nat) => decide ((d : Int) ∈ row)
theorem Sp.metL_len (n : Nat) (row : List Int) : (Sp.metL n row).length = n := by simp [Sp.metL]
theorem Sp.metL_get (n : Nat) (row : List Int) (d : Nat) (h : d < (Sp.metL n row).length) : (Sp.metL n row)[d] = decide ((d : Int) ∈ row) := by simp [Sp.metL]
theorem Sp.metL_set (n : Nat) (row : List Int) (d : Nat) : (Sp.metL n row).set d true = Sp.metL n (row ++ [(d : Int)]) := by
  apply List.ext_getElem
  · simp [Sp.metL]
  · intro i h1 h2
    rw [List.getElem_set, Sp.metL_get n (row ++ [(d : Int)]) i h2]
    split
    · rename_i h; subst h; simp
    · rename_i h
      rw [Sp.metL_get]
      have : ¬ ((i : Int) = (d : Int)) := by omega
      simp [this]
/-- A row of numbers below n, each once, is no longer than n. -/
theorem nodup_le : ∀ (n : Nat) (l : List Int), l.Nodup → (∀ x ∈ l, 0 ≤ x ∧ x < (n : Int)) → l.length ≤ n
  | 0, l, _, h => by
    cases l with
    | nil => simp
    | cons x r => have := h x (by simp); omega
  | n + 1, l, hd, h => by
    have h1 : (l.erase (n : Int)).length ≤ n := nodup_le n _ (hd.erase _) fun x hx => by
      have h2 := (List.Nodup.mem_erase_iff hd).1 hx
      have h3 := h x h2.2
      have h4 := h2.1
      omega
    have h2 := List.length_erase (a := (n : Int)) (l := l)
    split at h2 <;> omega

abbrev OwnB (w : World) (base : Nat) (v : Value) (l : List Bool) : Prop := w.ownsRow base 4 1 v l.length (l.map Value.bool)
def pieceV (g : Nat) (p : Nat × Nat) : Value := .slice (some ⟨g, p.1, none⟩) (p.2 - p.1) (p.2 - p.1)
/-- What rounds leaves. -/
def RoundsPost (st : List Int) (w : World) (e : Ending) (w' : World) : Prop :=
  Below w.heap.size w w' ∧ (∀ row ps, Sp.rnds st = some (row, ps) → ∃ lv, e = .returned (.tuple #[lv, .bool true]) ∧ OwnI w' w.heap.size (.slice (some ⟨w.heap.size, 0, none⟩) row.length st.length) row ∧ w'.ownsRow w.heap.size 22 1 lv ps.length (ps.map (pieceV w.heap.size)))
    ∧ (Sp.rnds st = none → e = .returned (.tuple #[.slice none 0 0, .bool false]))
/-- The three rows that rounds keeps. -/
structure RKeep (B M n : Nat) (W wr : World) (row : List Int) (ps : List (Nat × Nat)) (lq : Value) : Prop where
  rw1 : OwnI wr B (.slice (some ⟨B, 0, none⟩) row.length n) row
  met : OwnB wr B (.slice (some ⟨M, 0, none⟩) n n) (Sp.metL n row)
  ls : wr.ownsRow (M + 1) 22 1 lq ps.length (ps.map (pieceV B))
  bel : Below B W wr
  big : M < wr.heap.size
  lt : B < M
structure RFit (n : Nat) (row : List Int) : Prop where
  nd : row.Nodup
  bd : ∀ x ∈ row, 0 ≤ x ∧ x < (n : Int)
theorem RFit.le {n : Nat} {row : List Int} (h : RFit n row) : row.length ≤ n := nodup_le n row h.nd h.bd
theorem RFit.snoc {n : Nat} {row : List Int} (h : RFit n row) (d : Nat) (hd : d < n) (hn : ¬ (d : Int) ∈ row) : RFit n (row ++ [(d : Int)]) := by
  refine ⟨?_, ?_⟩
  · rw [List.nodup_append]
    refine ⟨h.nd, by simp, ?_⟩
    intro a ha b hb
    rw [List.mem_singleton] at hb
    subst hb
    intro e; subst e; exact hn ha
  · intro x hx
    rcases List.mem_append.1 hx with hx | hx
    · exact h.bd x hx
    · rw [List.mem_singleton] at hx; subst hx; omega
/-- A dart met: its mark is set, then it is laid behind the row. -/
theorem RKeep.push {B M n : Nat} {W wr : World} {row : List Int} {ps : List (Nat × Nat)} {lq : Value} (h : RKeep B M n W wr row ps lq) (d : Nat) (ob : Obj) (w6 : World) (hgr : ((wr.setCell ⟨M, d, none⟩ (.bool true)).alloc ob).grownBy w6 (some B))
    (hrow : w6.ownsRow B 3 1 (.slice (some ⟨B, 0, none⟩) (row.length + 1) n) (row.length + 1) (row.map (Value.int .i64) ++ [.int .i64 (d : Int)])) : RKeep B M n W w6 (row ++ [(d : Int)]) ps lq := by
  have hlt := h.lt
  have hbig := h.big
  have hm := h.met
  unfold OwnB at hm
  rw [Sp.metL_len] at hm
  obtain ⟨hm2, hg2⟩ := World.ownsRow.stored hm d (.bool true)
  have hls : (wr.setCell ⟨M, d, none⟩ (.bool true)).ownsRow (M + 1) 22 1 lq ps.length (ps.map (pieceV B)) := h.ls.kept hg2 (by
    cases hq : lq.ownBlock with
    | none => exact .inl rfl
    | some q => exact .inr (by have := (h.ls.lt q hq).1; simp; omega))
  have hsz : (wr.setCell ⟨M, d, none⟩ (.bool true)).heap.size = wr.heap.size := by simp
  refine ⟨?_, ?_, ?_, ?_, ?_, hlt⟩
  · show w6.ownsRow B 3 1 (.slice (some ⟨B, 0, none⟩) (row ++ [(d : Int)]).length n) (row ++ [(d : Int)]).length ((row ++ [(d : Int)]).map (Value.int .i64))
    simpa using hrow
  · have h3 := (hm2.alloc ob).kept hgr (.inr (by simp [Value.ownBlock]; omega))
    show w6.ownsRow B 4 1 _ (Sp.metL n (row ++ [(d : Int)])).length ((Sp.metL n (row ++ [(d : Int)])).map Value.bool)
    rw [Sp.metL_len, ← Sp.metL_set, List.map_set]
    exact h3
  · refine (hls.alloc ob).kept hgr ?_
    cases hq : lq.ownBlock with
    | none => exact .inl rfl
    | some q => exact .inr (by have := (h.ls.lt q hq).1; simp; omega)
  · exact ((h.bel.grown hg2 (by omega) (by simp; omega)).alloc (by rw [hsz]; omega) ob).grown hgr (by simp; omega) (by simp)
  · have := hgr.size
    simp at this
    omega
/-- A round laid behind the others. -/
theorem RKeep.round {B M n : Nat} {W wr : World} {row : List Int} {ps : List (Nat × Nat)} {lq lv : Value} (h : RKeep B M n W wr row ps lq) (b : Nat) (ob : Obj) (w6 : World) (hgr : (wr.alloc ob).grownBy w6 lq.ownBlock)
    (hls : w6.ownsRow (M + 1) 22 1 lv (ps.length + 1) (ps.map (pieceV B) ++ [pieceV B (b, row.length)])) : RKeep B M n W w6 row (ps ++ [(b, row.length)]) lv := by
  have hlt := h.lt
  have hbig := h.big
  have hfar : ∀ x, x ≤ M → some x ≠ lq.ownBlock := fun x hx e => by
    have := (h.ls.lt x e.symm).1
    omega
  refine ⟨?_, ?_, ?_, ?_, ?_, hlt⟩
  · exact (World.ownsRow.alloc h.rw1 ob).kept hgr (.inr (hfar B (by omega)))
  · exact (World.ownsRow.alloc h.met ob).kept hgr (.inr (hfar M (by omega)))
  · simpa using hls
  · exact (h.bel.alloc (by omega) ob).grown hgr (by simp; omega) fun k hk => by have := (h.ls.lt k hk).1; omega
  · have := hgr.size
    simp at this
    omega
end Go.Proofs.Ytggjpglakocilaa


/- What rounds tells is sound; the walk of package rot: turning. -/
namespace Go.Proofs.Ytggjpglakocilaa
open Go Go.RowKit

theorem walkR_ok {st : List Int} {n : Nat} (hn : st.length = n) (hx : ∀ x ∈ st, 0 ≤ x ∧ x < (n : Int)) (least : Int) : ∀ f d row row', Sp.walkR st least f d row = some row' → 0 ≤ d → d < (n : Int) → RFit n row → RFit n row' ∧ least ∈ row' ∧ ∃ m, row' = row ++ m
  | 0, d, row, row', h, _, _, _ => by simp [Sp.walkR] at h
  | f + 1, d, row, row', h, h0, h1, hf => by
    rw [Sp.walkR] at h
    by_cases hd : d ∈ row
    · rw [if_pos hd] at h
      by_cases hl : d = least
      · rw [if_pos hl] at h
        cases h
        exact ⟨hf, hl ▸ hd, [], by simp⟩
      · rw [if_neg hl] at h
        cases h
    · rw [if_neg hd] at h
      have hdn : d.toNat < n := by omega
      have hdd : ((d.toNat : Nat) : Int) = d := by omega
      have hs := hf.snoc d.toNat hdn (by rw [hdd]; exact hd)
      rw [hdd] at hs
      have hb := hx _ (Sp.getD_mem (l := st) (k := d.toNat) (by omega))
      obtain ⟨r1, r2, m, r3⟩ := walkR_ok hn hx least f _ _ _ h hb.1 hb.2 hs
      exact ⟨r1, r2, d :: m, by rw [r3]; simp⟩
structure POk (n : Nat) (row : List Int) (ps : List (Nat × Nat)) : Prop where
  fit : RFit n row
  ok : ∀ p ∈ ps, p.1 < p.2 ∧ p.2 ≤ row.length
theorem rgo_ok {st : List Int} {n : Nat} (hn : st.length = n) (hx : ∀ x ∈ st, 0 ≤ x ∧ x < (n : Int)) : ∀ f k row ps row' ps', k + f = n → Sp.rgo st f k row ps = some (row', ps') → POk n row ps → POk n row' ps' ∧ ps'.length ≤ ps.length + f
  | 0, k, row, ps, row', ps', _, h, hp => by
    simp only [Sp.rgo, Option.some.injEq, Prod.mk.injEq] at h
    obtain ⟨rfl, rfl⟩ := h
    exact ⟨hp, by omega⟩
  | f + 1, k, row, ps, row', ps', hk, h, hp => by
    rw [Sp.rgo] at h
    by_cases hm : (k : Int) ∈ row
    · rw [if_pos hm] at h
      obtain ⟨r1, r2⟩ := rgo_ok hn hx f (k + 1) row ps row' ps' (by omega) h hp
      exact ⟨r1, by omega⟩
    · rw [if_neg hm] at h
      cases hw : Sp.walkR st k (st.length + 1 - row.length) k row with
      | none => rw [hw] at h; cases h
      | some row1 =>
        rw [hw] at h
        obtain ⟨q1, q2, m, q3⟩ := walkR_ok hn hx k _ _ _ _ hw (by omega) (by omega) hp.fit
        have hlen : row.length < row1.length := by
          cases m with
          | nil => rw [List.append_nil] at q3; subst q3; exact absurd q2 hm
          | cons a r => rw [q3]; simp
        obtain ⟨r1, r2⟩ := rgo_ok hn hx f (k + 1) row1 _ row' ps' (by omega) h ⟨q1, fun p hpm => by
          rcases List.mem_append.1 hpm with hpm | hpm
          · have := hp.ok p hpm; omega
          · rw [List.mem_singleton] at hpm; subst hpm; exact ⟨hlen, Nat.le_refl _⟩⟩
        exact ⟨r1, by simp at r2; omega⟩
theorem rnds_ok {st : List Int} (hx : ∀ x ∈ st, 0 ≤ x ∧ x < (st.length : Int)) {row : List Int} {ps : List (Nat × Nat)} (h : Sp.rnds st = some (row, ps)) : POk st.length row ps ∧ ps.length ≤ st.length := by
  have := rgo_ok rfl hx st.length 0 [] [] row ps (by omega) h ⟨⟨by simp, by simp⟩, by simp⟩
  simpa using this
def Sp.rndsD (st : List Int) : List Int × List (Nat × Nat) := (Sp.rnds st).getD ([], [])
/-- What rounds leaves, in one form. -/
theorem RoundsPost.one {st : List Int} {w w' : World} {e : Ending} (h : RoundsPost st w e w') (hx : ∀ x ∈ st, 0 ≤ x ∧ x < (st.length : Int)) :
    ∃ lv, e = .returned (.tuple #[lv, .bool (Sp.rnds st).isSome]) ∧ Below w.heap.size w w' ∧ (Sp.rndsD st).2.length ≤ st.length ∧ POk st.length (Sp.rndsD st).1 (Sp.rndsD st).2 ∧ w'.ownsRow w.heap.size 22 1 lv (Sp.rndsD st).2.length ((Sp.rndsD st).2.map (pieceV w.heap.size))
      ∧ (∀ k, (hk : k < (Sp.rndsD st).1.length) → ∀ w'', Below w'.heap.size w' w'' → w''.cell? ⟨w.heap.size, k, none⟩ = some (.int .i64 (Sp.rndsD st).1[k]) ∧ w''.frozen? ⟨w.heap.size, k, none⟩ = false) := by
  obtain ⟨hb, hs, hn⟩ := h
  unfold Sp.rndsD
  cases hr : Sp.rnds st with
  | none =>
    refine ⟨_, hn hr, hb, by simp, ⟨⟨by simp, by simp⟩, by simp⟩, World.ownsRow_nil _ _ _ _, ?_⟩
    intro k hk
    simp at hk
  | some rp =>
    obtain ⟨row, ps⟩ := rp
    obtain ⟨lv, he, ho, hl⟩ := hs row ps hr
    obtain ⟨h1, h2⟩ := rnds_ok hx hr
    refine ⟨lv, he, hb, h2, h1, hl, ?_⟩
    intro k hk w'' hb'
    have h3 : OwnI w'' w.heap.size (.slice (some ⟨w.heap.size, 0, none⟩) row.length st.length) row := own_below ho hb'
    exact ⟨own_cell h3 k hk, own_frozen h3 k⟩
end Go.Proofs.Ytggjpglakocilaa


