/- What the proof needs, part 3. -/
import Derived.Below
import Derived.Deep.RegionHeld3
import Derived.Deep.DeepCutAuto
import Derived.BigRegion
import Derived.WalkMore
import Derived.Test.YtoegjnolccabjabL2
/- Package path: isPlace, isArc, forward, sound. -/
namespace Go.Proofs.Ytoegjnolccabjab
open Go Go.RowKit

/-- Arcs that may be, between n places. -/
structure Sp.Snd (n : Nat) (L : List Sp.Arc) : Prop where
  few : L.length ≤ 1000
  at_ : ∀ a ∈ L, a.f < n ∧ a.t < n ∧ -1099511627776 ≤ a.l ∧ a.l ≤ 1099511627776
theorem Ints.allA {w : World} {v : Value} {l : List Int} (h : Ints w v l) : ∃ (a : Option Addr) (c : Nat), v = .slice a l.length c ∧ l.length ≤ c ∧ c ≤ maxLen ∧ Hid (∀ k, k < l.length → ∃ b o, a = some ⟨b, o, none⟩ ∧ b < w.heap.size ∧ ∀ w', Below w.heap.size w w' → w'.cell? ⟨b, o + k, none⟩ = some (.int .i64 (l.getD k 0))) := by
  obtain ⟨a, c, e, h1, h2, h3⟩ := h
  refine ⟨a, c, e, h1, h2, hide fun k hk => ?_⟩
  obtain ⟨b, o, e1, e2, e3⟩ := h3 k hk
  refine ⟨b, o, e1, e2, fun w' hb => ?_⟩
  rw [hb.cell (p := ⟨b, o + k, none⟩) e2, e3, List.getD_eq_getElem?_getD, List.getElem?_eq_getElem hk]; rfl
theorem Sp.getD_memA {l : List Int} {k : Nat} (h : k < l.length) : l.getD k 0 ∈ l := by
  rw [List.getD_eq_getElem?_getD, List.getElem?_eq_getElem h]; exact List.getElem_mem h
theorem Sp.arc_mem {L : List Sp.Arc} {k : Nat} (h : k < L.length) : L.getD k Sp.arc0 ∈ L := by
  rw [List.getD_eq_getElem?_getD, List.getElem?_eq_getElem h]; exact List.getElem_mem h
set_option maxRecDepth 100000 in
set_option maxHeartbeats 1000000 in
theorem isPlace_yes (n v : Int) (w : World) (h0 : 0 ≤ v) (h1 : v < n) : Calls Try.prog 58 #[.int .i64 n, .int .i64 v] w fun e w' => e = .returned (.bool true) ∧ w' = w := by
  go_enter Try.func58, Try.ntmps58
  go_wp2
  go_ret
  exact ⟨rfl, rfl⟩
set_option maxRecDepth 100000 in
set_option maxHeartbeats 1000000 in
theorem isArc_yes (n : Int) (f t l : Int) (w : World) (h0 : 0 ≤ f) (h1 : f < n) (h2 : 0 ≤ t) (h3 : t < n) (h4 : -1099511627776 ≤ l) (h5 : l ≤ 1099511627776) : Calls Try.prog 61 #[.int .i64 n, .agg #[.int .i64 f, .int .i64 t, .int .i64 l]] w fun e w' => e = .returned (.bool true) ∧ Below w.heap.size w w' := by
  have HC1 := hide (isPlace_yes n f (w.alloc (.cells #[.int .i64 f, .int .i64 t, .int .i64 l] 65)) h0 h1)
  have HC2 := hide (isPlace_yes n t (w.alloc (.cells #[.int .i64 f, .int .i64 t, .int .i64 l] 65)) h2 h3)
  obtain ⟨x0, x1, x2⟩ := arc_new w (.int .i64 f) (.int .i64 t) (.int .i64 l)
  have HB := hide ((Below.refl _ w).alloc (Nat.le_refl _) (.cells #[.int .i64 f, .int .i64 t, .int .i64 l] 65))
  clear h0 h1 h2 h3
  go_enter Try.func61, Try.ntmps61
  go_wp2_with fail
  go_at_call 58
  generalize w.alloc (.cells #[.int .i64 f, .int .i64 t, .int .i64 l] 65) = W1 at *
  refine (unhide HC1).mono ?_
  rintro e w2 ⟨rfl, rfl⟩
  go_wp2_with fail
  go_at_call 58
  refine (unhide HC2).mono ?_
  rintro e w3 ⟨rfl, rfl⟩
  go_wp2
  go_ret
  exact ⟨by rfl, unhide HB⟩
set_option maxRecDepth 100000 in
set_option maxHeartbeats 1000000 in
theorem psound1_any (n v : Int) (b : Nat) (w : World) (h0 : 0 ≤ v) (h1 : v < n) (hc : w.cell? ⟨b, 0, none⟩ = some (.int .i64 n)) : Calls Try.prog 57 #[.int .i64 v, .pointer (some ⟨b, 0, none⟩)] w fun e w' => e = .returned (.bool false) ∧ Below w.heap.size w w' := by
  have HC1 := hide (isPlace_yes n v w h0 h1)
  have HB := hide (Below.refl w.heap.size w)
  clear h0 h1
  go_enter Try.func57, Try.ntmps57
  go_wp2_with fail
  go_at_call 58
  refine (unhide HC1).mono ?_
  rintro e w2 ⟨rfl, rfl⟩
  go_wp2
  go_ret
  exact ⟨by rfl, unhide HB⟩
set_option maxRecDepth 100000 in
set_option maxHeartbeats 1000000 in
theorem psound2_any (n f t l : Int) (b : Nat) (w : World) (h0 : 0 ≤ f) (h1 : f < n) (h2 : 0 ≤ t) (h3 : t < n) (h4 : -1099511627776 ≤ l) (h5 : l ≤ 1099511627776) (hb : b < w.heap.size) (hc : w.cell? ⟨b, 0, none⟩ = some (.int .i64 n)) : Calls Try.prog 60 #[.agg #[.int .i64 f, .int .i64 t, .int .i64 l], .pointer (some ⟨b, 0, none⟩)] w fun e w' => e = .returned (.bool false) ∧ Below w.heap.size w w' := by
  have HC1 := hide (isArc_yes n f t l (w.alloc (.cells #[.int .i64 f, .int .i64 t, .int .i64 l] 65)) h0 h1 h2 h3 h4 h5)
  obtain ⟨x0, x1, x2⟩ := arc_new w (.int .i64 f) (.int .i64 t) (.int .i64 l)
  have hb1 := (Below.refl _ w).alloc (Nat.le_refl _) (.cells #[.int .i64 f, .int .i64 t, .int .i64 l] 65)
  have hc1 := (hb1.cell hb).trans hc
  have HB := hide (And.intro hb1 hb1.size)
  clear h0 h1 h2 h3 h4 h5 hb1
  go_enter Try.func60, Try.ntmps60
  go_wp2_with fail
  go_at_call 61
  generalize w.alloc (.cells #[.int .i64 f, .int .i64 t, .int .i64 l] 65) = W1 at *
  refine (unhide HC1).mono ?_
  rintro e w2 ⟨rfl, hb2⟩
  have HB2 := hide ((unhide HB).1.trans (hb2.mono (unhide HB).2))
  clear hb2
  go_wp2
  go_ret
  exact ⟨by rfl, unhide HB2⟩
set_option maxRecDepth 100000 in
set_option maxHeartbeats 1000000 in
theorem pforward1_any (f t l : Int) (w : World) (h0 : ¬ l < 0) : Calls Try.prog 62 #[.agg #[.int .i64 f, .int .i64 t, .int .i64 l]] w fun e w' => e = .returned (.bool false) ∧ Below w.heap.size w w' := by
  obtain ⟨x0, x1, x2⟩ := arc_new w (.int .i64 f) (.int .i64 t) (.int .i64 l)
  have HB := hide ((Below.refl _ w).alloc (Nat.le_refl _) (.cells #[.int .i64 f, .int .i64 t, .int .i64 l] 65))
  go_enter Try.func62, Try.ntmps62
  go_wp2
  go_ret
  exact ⟨by rfl, unhide HB⟩
set_option maxRecDepth 100000 in
set_option maxHeartbeats 2000000 in
theorem indexEnds (n : Nat) (L : List Int) (lv : Value) (b : Nat) (w : World) (hl : Ints w lv L) (h1000 : L.length ≤ 1000) (hld : ∀ x ∈ L, 0 ≤ x ∧ x < (n : Int)) (hb : b < w.heap.size) (hc : w.cell? ⟨b, 0, none⟩ = some (.int .i64 (n : Int))) :
    Calls Try.prog 54 #[lv, .func (.func 57) #[] #[.pointer (some ⟨b, 0, none⟩)]] w fun e w' => e = .returned (.int .i64 (-1)) ∧ Below w.heap.size w w' := by
  have HC : Hid (∀ w' j, Below w.heap.size w w' → j < L.length → Calls Try.prog 57 #[.int .i64 (L.getD j 0), .pointer (some ⟨b, 0, none⟩)] w' fun e w'' => e = .returned (.bool false) ∧ Below w'.heap.size w' w'') := hide fun w' j hw hj =>
    psound1_any n (L.getD j 0) b w' (hld _ (Sp.getD_memA hj)).1 (hld _ (Sp.getD_memA hj)).2 ((hw.cell hb).trans hc)
  obtain ⟨la, lc, rfl, -, -, HL⟩ := hl.allA
  obtain ⟨P, hP⟩ : ∃ P : Ending → World → Prop, P = fun e w' => e = .returned (.int .i64 (-1)) ∧ Below w.heap.size w w' := ⟨_, rfl⟩
  rw [← hP]
  have HP := hide hP
  clear hP hl hld hb hc
  go_enter Try.func54, Try.ntmps54
  go_wp2
  go_loopg [8] L.length (fun g s8 wr => ∃ k : Nat, k + g = L.length ∧ s8 = .int .i64 (k : Int) ∧ Hid (Below w.heap.size w wr))
  case atStart => exact ⟨0, by omega, rfl, hide (Below.refl _ _)⟩
  case round =>
    obtain ⟨k, hk, rfl, HB⟩ := hrel
    cases gk with
    | zero =>
      obtain rfl : k = L.length := by omega
      go_wp2
      rw [unhide HP]
      exact ⟨by rfl, unhide HB⟩
    | succ g' =>
      have hlt : k < L.length := by omega
      have hltI : (k : Int) < (L.length : Int) := by omega
      obtain ⟨b', o, rfl, -, hcx⟩ := unhide HL k hlt
      have c1 := hcx wr (unhide HB)
      have HCl := hide (unhide HC wr k (unhide HB) hlt)
      generalize L.getD k 0 = z at *
      clear hcx
      go_wp2_with fail
      go_at_call 57
      refine (unhide HCl).mono ?_
      rintro e w2 ⟨rfl, hb2⟩
      have HB2 := hide ((unhide HB).trans (hb2.mono (unhide HB).size))
      clear hb2 HCl HB c1
      go_wp2
      go_roundg g'
      case rel => exact ⟨k + 1, by omega, by go_num, HB2⟩
      case measure => omega
set_option maxRecDepth 100000 in
set_option maxHeartbeats 1000000 in
theorem containsEnds (n : Nat) (L : List Int) (lv : Value) (b : Nat) (w : World) (hl : Ints w lv L) (h1000 : L.length ≤ 1000) (hld : ∀ x ∈ L, 0 ≤ x ∧ x < (n : Int)) (hb : b < w.heap.size) (hc : w.cell? ⟨b, 0, none⟩ = some (.int .i64 (n : Int))) :
    Calls Try.prog 56 #[lv, .func (.func 57) #[] #[.pointer (some ⟨b, 0, none⟩)]] w fun e w' => e = .returned (.bool false) ∧ Below w.heap.size w w' := by
  have HL := hide (indexEnds n L lv b w hl h1000 hld hb hc)
  clear hl hld hb hc
  go_enter Try.func56, Try.ntmps56
  go_wp2_with fail
  go_at_call 54
  refine (unhide HL).mono ?_
  rintro e w2 ⟨rfl, hb2⟩
  have HB := hide hb2
  clear hb2
  go_wp2
  go_ret
  exact ⟨by rfl, unhide HB⟩
set_option maxRecDepth 100000 in
set_option maxHeartbeats 2000000 in
theorem indexArcs (n : Nat) (L : List Sp.Arc) (lv : Value) (b : Nat) (w : World) (hl : ArcsI w lv L) (h1000 : L.length ≤ 1000) (hld : Sp.Snd n L) (hb : b < w.heap.size) (hc : w.cell? ⟨b, 0, none⟩ = some (.int .i64 (n : Int))) :
    Calls Try.prog 82 #[lv, .func (.func 60) #[] #[.pointer (some ⟨b, 0, none⟩)]] w fun e w' => e = .returned (.int .i64 (-1)) ∧ Below w.heap.size w w' := by
  have HC : Hid (∀ w' j, Below w.heap.size w w' → j < L.length → Calls Try.prog 60 #[.agg #[.int .i64 ((L.getD j Sp.arc0).f : Int), .int .i64 ((L.getD j Sp.arc0).t : Int), .int .i64 (L.getD j Sp.arc0).l], .pointer (some ⟨b, 0, none⟩)] w' fun e w'' => e = .returned (.bool false) ∧ Below w'.heap.size w' w'') := hide fun w' j hw hj =>
    psound2_any n _ _ _ b w' (by omega) (by have := (hld.at_ _ (Sp.arc_mem hj)).1; omega) (by omega) (by have := (hld.at_ _ (Sp.arc_mem hj)).2.1; omega) (hld.at_ _ (Sp.arc_mem hj)).2.2.1 (hld.at_ _ (Sp.arc_mem hj)).2.2.2 (by have := hw.size; omega) ((hw.cell hb).trans hc)
  obtain ⟨la, lc, rfl, -, -, HL⟩ := hl.all
  obtain ⟨P, hP⟩ : ∃ P : Ending → World → Prop, P = fun e w' => e = .returned (.int .i64 (-1)) ∧ Below w.heap.size w w' := ⟨_, rfl⟩
  rw [← hP]
  have HP := hide hP
  clear hP hl hld hb hc
  go_enter Try.func82, Try.ntmps82
  go_wp2
  go_loopg [8] L.length (fun g s8 wr => ∃ k : Nat, k + g = L.length ∧ s8 = .int .i64 (k : Int) ∧ Hid (Below w.heap.size w wr))
  case atStart => exact ⟨0, by omega, rfl, hide (Below.refl _ _)⟩
  case round =>
    obtain ⟨k, hk, rfl, HB⟩ := hrel
    cases gk with
    | zero =>
      obtain rfl : k = L.length := by omega
      go_wp2
      rw [unhide HP]
      exact ⟨by rfl, unhide HB⟩
    | succ g' =>
      have hlt : k < L.length := by omega
      have hltI : (k : Int) < (L.length : Int) := by omega
      obtain ⟨b', o, rfl, -, hcx⟩ := unhide HL k hlt
      obtain ⟨c1, c2, c3⟩ := hcx wr (unhide HB)
      have HCl := hide (unhide HC wr k (unhide HB) hlt)
      generalize (L.getD k Sp.arc0).f = zf at *
      generalize (L.getD k Sp.arc0).t = zt at *
      generalize (L.getD k Sp.arc0).l = zl at *
      clear hcx
      go_wp2_with fail
      go_at_call 60
      refine (unhide HCl).mono ?_
      rintro e w2 ⟨rfl, hb2⟩
      have HB2 := hide ((unhide HB).trans (hb2.mono (unhide HB).size))
      clear hb2 HCl HB c1
      go_wp2
      go_roundg g'
      case rel => exact ⟨k + 1, by omega, by go_num, HB2⟩
      case measure => omega
set_option maxRecDepth 100000 in
set_option maxHeartbeats 1000000 in
theorem containsArcs (n : Nat) (L : List Sp.Arc) (lv : Value) (b : Nat) (w : World) (hl : ArcsI w lv L) (h1000 : L.length ≤ 1000) (hld : Sp.Snd n L) (hb : b < w.heap.size) (hc : w.cell? ⟨b, 0, none⟩ = some (.int .i64 (n : Int))) :
    Calls Try.prog 59 #[lv, .func (.func 60) #[] #[.pointer (some ⟨b, 0, none⟩)]] w fun e w' => e = .returned (.bool false) ∧ Below w.heap.size w w' := by
  have HL := hide (indexArcs n L lv b w hl h1000 hld hb hc)
  clear hl hld hb hc
  go_enter Try.func59, Try.ntmps59
  go_wp2_with fail
  go_at_call 82
  refine (unhide HL).mono ?_
  rintro e w2 ⟨rfl, hb2⟩
  have HB := hide hb2
  clear hb2
  go_wp2
  go_ret
  exact ⟨by rfl, unhide HB⟩
set_option maxRecDepth 100000 in
set_option maxHeartbeats 2000000 in
theorem indexFwd (L : List Sp.Arc) (lv : Value) (w : World) (hl : ArcsI w lv L) (h1000 : L.length ≤ 1000) (hld : ∀ a ∈ L, 0 ≤ a.l) :
    Calls Try.prog 82 #[lv, .func (.func 62) #[] #[]] w fun e w' => e = .returned (.int .i64 (-1)) ∧ Below w.heap.size w w' := by
  have HC : Hid (∀ w' j, Below w.heap.size w w' → j < L.length → Calls Try.prog 62 #[.agg #[.int .i64 ((L.getD j Sp.arc0).f : Int), .int .i64 ((L.getD j Sp.arc0).t : Int), .int .i64 (L.getD j Sp.arc0).l]] w' fun e w'' => e = .returned (.bool false) ∧ Below w'.heap.size w' w'') := hide fun w' j hw hj =>
    pforward1_any _ _ _ w' (Int.not_lt.2 (hld _ (Sp.arc_mem hj)))
  obtain ⟨la, lc, rfl, -, -, HL⟩ := hl.all
  obtain ⟨P, hP⟩ : ∃ P : Ending → World → Prop, P = fun e w' => e = .returned (.int .i64 (-1)) ∧ Below w.heap.size w w' := ⟨_, rfl⟩
  rw [← hP]
  have HP := hide hP
  clear hP hl hld
  go_enter Try.func82, Try.ntmps82
  go_wp2
  go_loopg [8] L.length (fun g s8 wr => ∃ k : Nat, k + g = L.length ∧ s8 = .int .i64 (k : Int) ∧ Hid (Below w.heap.size w wr))
  case atStart => exact ⟨0, by omega, rfl, hide (Below.refl _ _)⟩
  case round =>
    obtain ⟨k, hk, rfl, HB⟩ := hrel
    cases gk with
    | zero =>
      obtain rfl : k = L.length := by omega
      go_wp2
      rw [unhide HP]
      exact ⟨by rfl, unhide HB⟩
    | succ g' =>
      have hlt : k < L.length := by omega
      have hltI : (k : Int) < (L.length : Int) := by omega
      obtain ⟨b', o, rfl, -, hcx⟩ := unhide HL k hlt
      obtain ⟨c1, c2, c3⟩ := hcx wr (unhide HB)
      have HCl := hide (unhide HC wr k (unhide HB) hlt)
      generalize (L.getD k Sp.arc0).f = zf at *
      generalize (L.getD k Sp.arc0).t = zt at *
      generalize (L.getD k Sp.arc0).l = zl at *
      clear hcx
      go_wp2_with fail
      go_at_call 62
      refine (unhide HCl).mono ?_
      rintro e w2 ⟨rfl, hb2⟩
      have HB2 := hide ((unhide HB).trans (hb2.mono (unhide HB).size))
      clear hb2 HCl HB c1
      go_wp2
      go_roundg g'
      case rel => exact ⟨k + 1, by omega, by go_num, HB2⟩
      case measure => omega
set_option maxRecDepth 100000 in
set_option maxHeartbeats 1000000 in
theorem containsFwd (L : List Sp.Arc) (lv : Value) (w : World) (hl : ArcsI w lv L) (h1000 : L.length ≤ 1000) (hld : ∀ a ∈ L, 0 ≤ a.l) :
    Calls Try.prog 59 #[lv, .func (.func 62) #[] #[]] w fun e w' => e = .returned (.bool false) ∧ Below w.heap.size w w' := by
  have HL := hide (indexFwd L lv w hl h1000 hld)
  clear hl hld
  go_enter Try.func59, Try.ntmps59
  go_wp2_with fail
  go_at_call 82
  refine (unhide HL).mono ?_
  rintro e w2 ⟨rfl, hb2⟩
  have HB := hide hb2
  clear hb2
  go_wp2
  go_ret
  exact ⟨by rfl, unhide HB⟩
set_option maxRecDepth 100000 in
set_option maxHeartbeats 1000000 in
theorem forward_yes (L : List Sp.Arc) (lv : Value) (w : World) (hl : ArcsI w lv L) (h1000 : L.length ≤ 1000) (hld : ∀ a ∈ L, 0 ≤ a.l) :
    Calls Try.prog 44 #[lv] w fun e w' => e = .returned (.bool true) ∧ Below w.heap.size w w' := by
  have HC := hide (containsFwd L lv w hl h1000 hld)
  obtain ⟨a, c, rfl, -⟩ := hl.form
  clear hl hld
  go_enter Try.func44, Try.ntmps44
  go_wp2_with fail
  go_at_call 59
  refine (unhide HC).mono ?_
  rintro e w2 ⟨rfl, hb2⟩
  have HB := hide hb2
  clear hb2
  go_wp2
  go_ret
  exact ⟨by rfl, unhide HB⟩
set_option maxRecDepth 100000 in
set_option maxHeartbeats 2000000 in
theorem psound_yes (n : Nat) (L : List Sp.Arc) (E : List Int) (lv ev : Value) (w : World) (hl : ArcsI w lv L) (he : Ints w ev E) (hE : E.length ≤ 1000) (hn : 1 ≤ n ∧ n ≤ 300) (hS : Sp.Snd n L) (hld : ∀ x ∈ E, 0 ≤ x ∧ x < (n : Int)) :
    Calls Try.prog 43 #[.int .i64 (n : Int), lv, ev] w fun e w' => e = .returned (.bool true) ∧ Below w.heap.size w w' := by
  have hn1 : ¬ (n : Int) < 1 := by omega
  have hn2 : ¬ 300 < (n : Int) := by omega
  have hf := hS.few
  have hl3 : ¬ 1000 < (L.length : Int) := by omega
  obtain ⟨W1, hW1⟩ : ∃ W1, W1 = w.alloc (.cells #[.int .i64 (n : Int)] 3) := ⟨_, rfl⟩
  have hb1 : Below w.heap.size w W1 := by rw [hW1]; exact (Below.refl _ w).alloc (Nat.le_refl _) _
  have hs1 : W1.heap.size = w.heap.size + 1 := by rw [hW1]; simp
  have hc1 : W1.cell? ⟨w.heap.size, 0, none⟩ = some (.int .i64 (n : Int)) := by
    have e : W1.heap[w.heap.size]? = some (.cells #[.int .i64 (n : Int)] 3) := by
      rw [hW1]; show (w.heap.push _)[w.heap.size]? = _; simp
    simp only [World.cell?, e]; rfl
  have HC1 := hide (containsEnds n E ev w.heap.size W1 (he.below hb1) hE hld (by omega) hc1)
  have HC2 : Hid (∀ w', Below W1.heap.size W1 w' → Calls Try.prog 59 #[lv, .func (.func 60) #[] #[.pointer (some ⟨w.heap.size, 0, none⟩)]] w' fun e w'' => e = .returned (.bool false) ∧ Below w'.heap.size w' w'') := hide fun w' hw =>
    containsArcs n L lv w.heap.size w' ((hl.below hb1).below hw) hf hS (by have := hw.size; omega) ((hw.cell (by show w.heap.size < _; omega)).trans hc1)
  have HB : Hid (∀ w' w'', Below W1.heap.size W1 w' → Below w'.heap.size w' w'' → Below w.heap.size w w'') := hide fun w' w'' h h' => hb1.trans ((h.trans (h'.mono h.size)).mono (by omega))
  obtain ⟨a, c, rfl, -⟩ := hl.form
  obtain ⟨a2, c2, rfl, -⟩ := he.form
  clear hl he hS hld hb1 hs1
  subst hW1
  go_enter Try.func43, Try.ntmps43
  go_wp2_with fail
  go_at_call 56
  generalize w.alloc (.cells #[.int .i64 (n : Int)] 3) = W1 at *
  refine (unhide HC1).mono ?_
  rintro e w2 ⟨rfl, hb2⟩
  have HB2 := hide hb2
  have HC3 := hide (unhide HC2 _ hb2)
  clear hb2 HC1 hc1
  go_wp2_with fail
  go_at_call 59
  refine (unhide HC3).mono ?_
  rintro e w3 ⟨rfl, hb3⟩
  have HB3 := hide (unhide HB _ _ (unhide HB2) hb3)
  clear hb3
  go_wp2
  go_ret
  exact ⟨by rfl, unhide HB3⟩
end Go.Proofs.Ytoegjnolccabjab


/- A heap's block: 901 numbers; what a store into it leaves. -/
namespace Go.Proofs.Ytoegjnolccabjab
open Go Go.RowKit

/-- One number of a row turned. -/
def Sp.upd (z : Nat → Int) (j : Nat) (v : Int) : Nat → Int := fun k => if k = j then v else z k
theorem Sp.upd_same (z : Nat → Int) (j : Nat) (v : Int) : Sp.upd z j v j = v := by simp [Sp.upd]
theorem Sp.upd_other (z : Nat → Int) {j k : Nat} (v : Int) (h : k ≠ j) : Sp.upd z j v k = z k := by simp [Sp.upd, h]

/-- Block b holds a heap's numbers. -/
def HpAt (w : World) (b : Nat) (z : Nat → Int) : Prop := ∃ c, w.heap[b]? = some (.cells c 111) ∧ c.size = 901 ∧ ∀ j, j < 901 → c[j]? = some (.int .i64 (z j))
theorem HpAt.lt {w : World} {b : Nat} {z : Nat → Int} (h : HpAt w b z) : b < w.heap.size := by
  obtain ⟨c, hc, -⟩ := h
  exact (Array.getElem?_eq_some_iff.1 hc).1
theorem HpAt.cell {w : World} {b : Nat} {z : Nat → Int} (h : HpAt w b z) {j : Nat} (hj : j < 901) : w.cell? ⟨b, j, none⟩ = some (.int .i64 (z j)) := by
  obtain ⟨c, hc, -, hz⟩ := h
  simp only [World.cell?, hc]
  exact hz j hj
theorem HpAt.frozen {w : World} {b : Nat} {z : Nat → Int} (h : HpAt w b z) (j : Nat) (s : Option Nat) : w.frozen? ⟨b, j, s⟩ = false := by
  obtain ⟨c, hc, -⟩ := h
  simp only [World.frozen?, hc]
  simp
theorem HpAt.of_block {w w' : World} {b : Nat} {z : Nat → Int} (h : HpAt w b z) (e : w'.heap[b]? = w.heap[b]?) : HpAt w' b z := by
  obtain ⟨c, hc, h1⟩ := h
  exact ⟨c, by rw [e]; exact hc, h1⟩
theorem HpAt.set {w : World} {b : Nat} {z : Nat → Int} (h : HpAt w b z) (j : Nat) (v : Int) : HpAt (w.setCell ⟨b, j, none⟩ (.int .i64 v)) b (Sp.upd z j v) := by
  obtain ⟨c, hc, hs, hz⟩ := h
  refine ⟨c.setIfInBounds j (.int .i64 v), ?_, by simpa using hs, fun k hk => ?_⟩
  · simp only [World.setCell, Array.getElem?_modify, if_pos, hc]
    rfl
  · rw [Array.getElem?_setIfInBounds]
    by_cases hjk : j = k
    · rw [if_pos hjk, if_pos (by omega), ← hjk, Sp.upd_same]
    · rw [if_neg hjk, hz k hk, Sp.upd_other _ _ (by omega)]
/-- All but block b is as it was. -/
structure But (b : Nat) (w w' : World) : Prop where
  os : w'.os = w.os
  tape : w'.tape = w.tape
  output : w'.output = w.output
  size : w.heap.size ≤ w'.heap.size
  block : ∀ k, k < w.heap.size → k ≠ b → w'.heap[k]? = w.heap[k]?
theorem But.refl (b : Nat) (w : World) : But b w w := ⟨rfl, rfl, rfl, Nat.le_refl _, fun _ _ _ => rfl⟩
theorem But.trans {b : Nat} {u v w : World} (h : But b u v) (k : But b v w) : But b u w :=
  ⟨k.os.trans h.os, k.tape.trans h.tape, k.output.trans h.output, Nat.le_trans h.size k.size, fun i hi hb => (k.block i (Nat.lt_of_lt_of_le hi h.size) hb).trans (h.block i hi hb)⟩
theorem But.of {b : Nat} {w w' : World} (h : Below w.heap.size w w') : But b w w' := ⟨h.os, h.tape, h.output, h.size, fun k hk _ => h.block k hk⟩
theorem But.below {b B : Nat} {w w' : World} (h : But b w w') (hB : B ≤ b) (hw : B ≤ w.heap.size) : Below B w w' := ⟨h.os, h.tape, h.output, h.size, fun k hk => h.block k (by omega) (by omega)⟩
theorem But.drew {b : Nat} {u w : World} (h : But b u w) : But b u w.drew := h.trans ⟨rfl, rfl, rfl, Nat.le_refl _, fun _ _ _ => rfl⟩
theorem But.alloc {b : Nat} {u w : World} (h : But b u w) (o : Obj) : But b u (w.alloc o) := h.trans (But.of ((Below.refl _ w).alloc (Nat.le_refl _) o))
theorem But.set {b : Nat} {u w : World} (h : But b u w) (j : Nat) (s : Option Nat) (v : Value) : But b u (w.setCell ⟨b, j, s⟩ v) :=
  h.trans ⟨rfl, rfl, rfl, by simp [World.setCell], fun k _ hb => Below.heap_setCell _ _ _ _ hb⟩
theorem But.cell {b : Nat} {w w' : World} (h : But b w w') {p : Addr} (hp : p.block < w.heap.size) (hb : p.block ≠ b) : w'.cell? p = w.cell? p := World.cell?_of_block (w := w) (h.block p.block hp hb)
theorem HpAt.below {w w' : World} {b : Nat} {z : Nat → Int} (h : HpAt w b z) (hb : Below w.heap.size w w') : HpAt w' b z := h.of_block (hb.block b h.lt)
theorem HpAt.alloc {w : World} {b : Nat} {z : Nat → Int} (h : HpAt w b z) (o : Obj) : HpAt (w.alloc o) b z := h.below ((Below.refl _ w).alloc (Nat.le_refl _) o)
theorem HpAt.drew {w : World} {b : Nat} {z : Nat → Int} (h : HpAt w b z) : HpAt w.drew b z := h.of_block rfl
/-- An item in a block of its own. -/
theorem item_new (w : World) (k r : Value) : (w.alloc (.cells #[k, r] 98)).cell? ⟨w.heap.size, 0, none⟩ = some k ∧ (w.alloc (.cells #[k, r] 98)).cell? ⟨w.heap.size, 1, none⟩ = some r := by
  have e : (w.alloc (.cells #[k, r] 98)).heap[w.heap.size]? = some (.cells #[k, r] 98) := by
    show (w.heap.push _)[w.heap.size]? = _
    simp
  constructor <;> simp only [World.cell?, e] <;> rfl

set_option maxRecDepth 100000 in
set_option maxHeartbeats 1000000 in
theorem isKey_any (k : Int) (w : World) : Calls Try.prog 83 #[.int .i64 k] w fun e w' => e = .returned (.bool (decide (0 ≤ k ∧ k < 300))) ∧ w' = w := by
  by_cases h0 : 0 ≤ k
  · by_cases h1 : k < 300
    · have HR := hide (decide_eq_true (And.intro h0 h1))
      generalize decide (0 ≤ k ∧ k < 300) = R at *
      go_enter Try.func83, Try.ntmps83
      go_wp2
      go_ret
      exact ⟨by rw [unhide HR]; rfl, rfl⟩
    · have HR := hide (show decide (0 ≤ k ∧ k < 300) = false from decide_eq_false (by omega))
      generalize decide (0 ≤ k ∧ k < 300) = R at *
      go_enter Try.func83, Try.ntmps83
      go_wp2
      go_ret
      exact ⟨by rw [unhide HR]; rfl, rfl⟩
  · have HR := hide (show decide (0 ≤ k ∧ k < 300) = false from decide_eq_false (by omega))
    generalize decide (0 ≤ k ∧ k < 300) = R at *
    go_enter Try.func83, Try.ntmps83
    go_wp2
    go_ret
    exact ⟨by rw [unhide HR]; rfl, rfl⟩

/-- Whether one item is to be taken before another one: keys, ranks. -/
def Sp.aheadB (k r k' r' : Int) : Bool := decide (r < r') || (decide (r = r') && decide (k < k'))
set_option maxRecDepth 100000 in
set_option maxHeartbeats 1000000 in
theorem ahead_any (k r k' r' : Int) (w : World) : Calls Try.prog 96 #[.agg #[.int .i64 k, .int .i64 r], .agg #[.int .i64 k', .int .i64 r']] w fun e w' => e = .returned (.bool (Sp.aheadB k r k' r')) ∧ Below w.heap.size w w' := by
  have HB : Hid (∀ o o', Below w.heap.size w ((w.alloc o).alloc o')) := hide fun o o' => ((Below.refl _ w).alloc (Nat.le_refl _) o).alloc (by simp) o'
  by_cases h0 : r < r'
  · have HR : Hid (Sp.aheadB k r k' r' = true) := hide (by simp [Sp.aheadB, h0])
    generalize Sp.aheadB k r k' r' = R at *
    go_enter Try.func96, Try.ntmps96
    go_wp2
    go_ret
    exact ⟨by rw [unhide HR]; rfl, unhide HB _ _⟩
  · by_cases h1 : r = r'
    · subst h1
      by_cases h2 : k < k'
      · have HR : Hid (Sp.aheadB k r k' r = true) := hide (by simp [Sp.aheadB, h2])
        generalize Sp.aheadB k r k' r = R at *
        go_enter Try.func96, Try.ntmps96
        go_wp2
        go_ret
        exact ⟨by rw [unhide HR]; rfl, unhide HB _ _⟩
      · have HR : Hid (Sp.aheadB k r k' r = false) := hide (by simp [Sp.aheadB, h2])
        generalize Sp.aheadB k r k' r = R at *
        go_enter Try.func96, Try.ntmps96
        go_wp2
        go_ret
        exact ⟨by rw [unhide HR]; rfl, unhide HB _ _⟩
    · have HR : Hid (Sp.aheadB k r k' r' = false) := hide (by simp [Sp.aheadB, h0, h1])
      generalize Sp.aheadB k r k' r' = R at *
      go_enter Try.func96, Try.ntmps96
      go_wp2
      go_ret
      exact ⟨by rw [unhide HR]; rfl, unhide HB _ _⟩
end Go.Proofs.Ytoegjnolccabjab


/- Package heap: find, stand. -/
namespace Go.Proofs.Ytoegjnolccabjab
open Go Go.RowKit

theorem cell_set_ne {w : World} {b j b' j' : Nat} {v : Value} (h : b ≠ b' ∨ j ≠ j') : (w.setCell ⟨b, j, none⟩ v).cell? ⟨b', j', none⟩ = w.cell? ⟨b', j', none⟩ := by
  apply World.cell?_setCell_other
  intro e
  injection e with e1 e2
  omega
/-- An item laid at a place. -/
def Sp.stand (z : Nat → Int) (p k : Nat) (r : Int) : Nat → Int := Sp.upd (Sp.upd (Sp.upd z (p * 2) (k : Int)) (p * 2 + 1) r) (601 + k) ((p : Int) + 1)

set_option maxRecDepth 100000 in
set_option maxHeartbeats 1000000 in
theorem stand_any (z : Nat → Int) (b p k : Nat) (r : Int) (w : World) (h : HpAt w b z) (hp : p < 300) (hk : k < 300) :
    Calls Try.prog 95 #[.pointer (some ⟨b, 0, none⟩), .int .i64 (p : Int), .agg #[.int .i64 (k : Int), .int .i64 r]] w fun e w' => e = .returned (.tuple #[]) ∧ But b w w' ∧ HpAt w' b (Sp.stand z p k r) := by
  have hpI : (p : Int) < 300 := by omega
  have hkI : (k : Int) < 300 := by omega
  have hb := h.lt
  obtain ⟨x0, x1⟩ := item_new w (.int .i64 (k : Int)) (.int .i64 r)
  have h1 := h.alloc (.cells #[.int .i64 (k : Int), .int .i64 r] 98)
  have c0 := h1.cell (j := p * 2) (by omega)
  have c1 := h1.cell (j := p * 2 + 1) (by omega)
  have f := fun j => h1.frozen j none
  have c1' := fun v : Value => show ((w.alloc (.cells #[.int .i64 (k : Int), .int .i64 r] 98)).setCell ⟨b, p * 2, none⟩ v).cell? ⟨b, p * 2 + 1, none⟩ = some (.int .i64 (z (p * 2 + 1))) by rw [cell_set_ne (by omega)]; exact c1
  have H := hide h1
  clear h h1
  go_enter Try.func95, Try.ntmps95
  go_wp2_with fail
  generalize hW : w.alloc (.cells #[.int .i64 (k : Int), .int .i64 r] 98) = W1 at *
  have HW := hide hW
  clear hW
  go_region
  go_wp2_with fail
  obtain ⟨W2, hW2⟩ : ∃ W2, W2 = ((W1.setCell ⟨b, p * 2, none⟩ (.int .i64 (k : Int))).setCell ⟨b, p * 2 + 1, none⟩ (.int .i64 r)).drew := ⟨_, rfl⟩
  have h2 : HpAt W2 b (Sp.upd (Sp.upd z (p * 2) (k : Int)) (p * 2 + 1) r) := by rw [hW2]; exact (((unhide H).set _ _).set _ _).drew
  have HB2 : Hid (But b w W2) := hide (by rw [hW2, ← unhide HW]; exact ((((But.refl b w).alloc _).set _ _ _).set _ _ _).drew)
  have y0 : W2.cell? ⟨w.heap.size, 0, none⟩ = some (.int .i64 (k : Int)) := by
    rw [hW2]; show World.cell? (World.setCell _ _ _) _ = _; rw [cell_set_ne (by omega), cell_set_ne (by omega)]; exact x0
  rw [← hW2]
  clear x0 x1 c0 c1 f c1' H HW hW2
  have c2 := h2.cell (j := 601 + k) (by omega)
  have f2 := fun j => h2.frozen j none
  have H2 := hide h2
  clear h2
  go_region
  go_wp2
  go_end0
  exact ⟨rfl, ((unhide HB2).set _ _ _).drew, ((unhide H2).set _ _).drew⟩
end Go.Proofs.Ytoegjnolccabjab


/- A row of numbers in a block of its own, as a function; all but some blocks as they were. -/
namespace Go.Proofs.Ytoegjnolccabjab
open Go Go.RowKit

/-- All but the blocks of p is as it was. -/
structure Bt (p : Nat → Prop) (w w' : World) : Prop where
  os : w'.os = w.os
  tape : w'.tape = w.tape
  output : w'.output = w.output
  size : w.heap.size ≤ w'.heap.size
  block : ∀ k, k < w.heap.size → ¬ p k → w'.heap[k]? = w.heap[k]?
theorem Bt.refl (p : Nat → Prop) (w : World) : Bt p w w := ⟨rfl, rfl, rfl, Nat.le_refl _, fun _ _ _ => rfl⟩
theorem Bt.trans {p : Nat → Prop} {u v w : World} (h : Bt p u v) (k : Bt p v w) : Bt p u w :=
  ⟨k.os.trans h.os, k.tape.trans h.tape, k.output.trans h.output, Nat.le_trans h.size k.size, fun i hi hb => (k.block i (Nat.lt_of_lt_of_le hi h.size) hb).trans (h.block i hi hb)⟩
theorem Bt.mono {p q : Nat → Prop} {w w' : World} (h : Bt p w w') (hq : ∀ k, k < w.heap.size → p k → q k) : Bt q w w' := ⟨h.os, h.tape, h.output, h.size, fun k hk hn => h.block k hk (fun hp => hn (hq k hk hp))⟩
theorem Bt.of {p : Nat → Prop} {w w' : World} (h : Below w.heap.size w w') : Bt p w w' := ⟨h.os, h.tape, h.output, h.size, fun k hk _ => h.block k hk⟩
theorem Bt.below {p : Nat → Prop} {B : Nat} {w w' : World} (h : Bt p w w') (hp : ∀ k, p k → B ≤ k) (hw : B ≤ w.heap.size) : Below B w w' := ⟨h.os, h.tape, h.output, h.size, fun k hk => h.block k (by omega) (fun e => by have := hp k e; omega)⟩
theorem Bt.drew {p : Nat → Prop} {u w : World} (h : Bt p u w) : Bt p u w.drew := h.trans ⟨rfl, rfl, rfl, Nat.le_refl _, fun _ _ _ => rfl⟩
theorem Bt.dn {p : Nat → Prop} {u w : World} (h : Bt p u w) (n : Nat) : Bt p u (w.drewN n) := ⟨h.os, h.tape, h.output, h.size, h.block⟩
theorem Bt.alloc {p : Nat → Prop} {u w : World} (h : Bt p u w) (o : Obj) : Bt p u (w.alloc o) := h.trans (Bt.of ((Below.refl _ w).alloc (Nat.le_refl _) o))
theorem Bt.set {p : Nat → Prop} {u w : World} (h : Bt p u w) {b : Nat} (hb : p b ∨ u.heap.size ≤ b) (j : Nat) (s : Option Nat) (v : Value) : Bt p u (w.setCell ⟨b, j, s⟩ v) := by
  refine ⟨h.os, h.tape, h.output, ?_, fun k hk hn => ?_⟩
  · have := h.size
    have e : (w.setCell ⟨b, j, s⟩ v).heap.size = w.heap.size := by simp [World.setCell]
    omega
  · rw [Below.heap_setCell _ _ _ _ (by
      show k ≠ b
      intro e
      subst e
      rcases hb with hb | hb
      · exact hn hb
      · omega)]
    exact h.block k hk hn
theorem Bt.cell {p : Nat → Prop} {w w' : World} (h : Bt p w w') {a : Addr} (ha : a.block < w.heap.size) (hb : ¬ p a.block) : w'.cell? a = w.cell? a := World.cell?_of_block (w := w) (h.block a.block ha hb)
/-- Block b is a row of the n numbers z. -/
def RowAt (w : World) (b n : Nat) (z : Nat → Int) : Prop := ∃ c, w.heap[b]? = some (.cells c 3) ∧ c.size = n ∧ ∀ j, j < n → c[j]? = some (.int .i64 (z j))
theorem RowAt.lt {w : World} {b n : Nat} {z : Nat → Int} (h : RowAt w b n z) : b < w.heap.size := by
  obtain ⟨c, hc, -⟩ := h
  exact (Array.getElem?_eq_some_iff.1 hc).1
theorem RowAt.cell {w : World} {b n : Nat} {z : Nat → Int} (h : RowAt w b n z) {j : Nat} (hj : j < n) : w.cell? ⟨b, j, none⟩ = some (.int .i64 (z j)) := by
  obtain ⟨c, hc, -, hz⟩ := h
  simp only [World.cell?, hc]
  exact hz j hj
theorem RowAt.frozen {w : World} {b n : Nat} {z : Nat → Int} (h : RowAt w b n z) (j : Nat) (s : Option Nat) : w.frozen? ⟨b, j, s⟩ = false := by
  obtain ⟨c, hc, -⟩ := h
  simp only [World.frozen?, hc]
  simp
theorem RowAt.of_block {w w' : World} {b n : Nat} {z : Nat → Int} (h : RowAt w b n z) (e : w'.heap[b]? = w.heap[b]?) : RowAt w' b n z := by
  obtain ⟨c, hc, h1⟩ := h
  exact ⟨c, by rw [e]; exact hc, h1⟩
theorem RowAt.set {w : World} {b n : Nat} {z : Nat → Int} (h : RowAt w b n z) (j : Nat) (v : Int) : RowAt (w.setCell ⟨b, j, none⟩ (.int .i64 v)) b n (Sp.upd z j v) := by
  obtain ⟨c, hc, hs, hz⟩ := h
  refine ⟨c.setIfInBounds j (.int .i64 v), ?_, by simpa using hs, fun k hk => ?_⟩
  · simp only [World.setCell, Array.getElem?_modify, if_pos, hc]
    rfl
  · rw [Array.getElem?_setIfInBounds]
    by_cases hjk : j = k
    · rw [if_pos hjk, if_pos (by omega), ← hjk, Sp.upd_same]
    · rw [if_neg hjk, hz k hk, Sp.upd_other _ _ (by omega)]
theorem RowAt.set_ne {w : World} {b n : Nat} {z : Nat → Int} (h : RowAt w b n z) {b' : Nat} (hb : b ≠ b') (j : Nat) (s : Option Nat) (v : Value) : RowAt (w.setCell ⟨b', j, s⟩ v) b n z :=
  h.of_block (Below.heap_setCell _ _ _ _ hb)
theorem RowAt.below {w w' : World} {b n : Nat} {z : Nat → Int} (h : RowAt w b n z) (hb : Below w.heap.size w w') : RowAt w' b n z := h.of_block (hb.block b h.lt)
theorem RowAt.bt {p : Nat → Prop} {w w' : World} {b n : Nat} {z : Nat → Int} (h : RowAt w b n z) (hb : Bt p w w') (hp : ¬ p b) : RowAt w' b n z := h.of_block (hb.block b h.lt hp)
theorem RowAt.alloc {w : World} {b n : Nat} {z : Nat → Int} (h : RowAt w b n z) (o : Obj) : RowAt (w.alloc o) b n z := h.below ((Below.refl _ w).alloc (Nat.le_refl _) o)
theorem RowAt.drew {w : World} {b n : Nat} {z : Nat → Int} (h : RowAt w b n z) : RowAt w.drew b n z := h.of_block rfl
theorem RowAt.dn {w : World} {b n : Nat} {z : Nat → Int} (h : RowAt w b n z) (k : Nat) : RowAt (w.drewN k) b n z := h.of_block rfl
theorem RowAt.congr {w : World} {b n : Nat} {z z' : Nat → Int} (h : RowAt w b n z) (e : ∀ j, j < n → z j = z' j) : RowAt w b n z' := by
  obtain ⟨c, hc, hs, hz⟩ := h
  exact ⟨c, hc, hs, fun j hj => by rw [← e j hj]; exact hz j hj⟩
theorem RowAt.own {w : World} {b n B : Nat} {z : Nat → Int} (h : RowAt w b n z) (hB : B ≤ b) (hn : n ≤ 1000000) : OwnI w B (.slice (some ⟨b, 0, none⟩) n n) ((List.range n).map z) := by
  obtain ⟨c, hc, hs, hz⟩ := h
  refine ⟨by simp, .inr ⟨b, n, c, by simp, hB, hc, by simp, by unfold maxLen; omega, by simp [hs], ?_⟩⟩
  apply List.ext_getElem?
  intro j
  simp only [List.length_map, List.length_range, List.getElem?_map, List.getElem?_take, Nat.mul_one]
  by_cases hj : j < n
  · rw [if_pos hj, Array.getElem?_toList, hz j hj, List.getElem?_range hj]; rfl
  · rw [if_neg hj, List.getElem?_eq_none (by simpa using hj)]; rfl
theorem RowAt.ints {w : World} {b n : Nat} {z : Nat → Int} (h : RowAt w b n z) (hn : n ≤ 1000000) : Ints w (.slice (some ⟨b, 0, none⟩) n n) ((List.range n).map z) := (h.own (Nat.zero_le _) hn).ints
theorem RowAt.of_own {w : World} {B b n : Nat} {l : List Int} (h : OwnI w B (.slice (some ⟨b, 0, none⟩) n n) l) (hl : l.length = n) : RowAt w b n (fun j => l.getD j 0) ∧ B ≤ b := by
  obtain ⟨h1, ⟨h2, -⟩ | ⟨g', cap, cur, e, hg, hh, hnc, hcm, hsz, htk⟩⟩ := h
  · cases h2
  · injection e with e1 e2 e3
    injection e1 with e1
    injection e1 with e1 _
    subst e1 e3
    refine ⟨⟨cur, hh, by omega, fun j hj => ?_⟩, hg⟩
    have e4 : cur.toList = l.map (Value.int .i64) := by
      rw [← htk, List.take_of_length_le]
      simp; omega
    show _ = some (Value.int .i64 (l.getD j 0))
    rw [← Array.getElem?_toList, e4, List.getElem?_map, List.getD_eq_getElem?_getD, List.getElem?_eq_getElem (by omega)]; rfl
theorem RowAt.of_rep {w : World} {B b n : Nat} {x : Int} (h : OwnI w B (.slice (some ⟨b, 0, none⟩) n n) (List.replicate n x)) : RowAt w b n (fun _ => x) ∧ B ≤ b := by
  obtain ⟨h1, h2⟩ := RowAt.of_own h (by simp)
  exact ⟨h1.congr fun j hj => by rw [List.getD_eq_getElem?_getD, List.getElem?_replicate, if_pos hj]; rfl, h2⟩
end Go.Proofs.Ytoegjnolccabjab


/- rim: the arcs of a land. -/
namespace Go.Proofs.Ytoegjnolccabjab
open Go Go.RowKit

theorem OwnA.at_ {w : World} {B n c : Nat} {a : Option Addr} {L : List Sp.Arc} (h : OwnA w B (.slice a n c) L) (hp : 0 < L.length) : ∃ g, a = some ⟨g, 0, none⟩ ∧ B ≤ g ∧ g < w.heap.size := by
  have h' := h
  obtain ⟨_, ⟨_, h2⟩ | ⟨g, cap, cur, e, hg, _⟩⟩ := h
  · omega
  · injection e with e1
    subst e1
    exact ⟨g, rfl, hg, (h'.lt g rfl).2⟩
theorem OwnA.cells {w : World} {B g c : Nat} {L : List Sp.Arc} (h : OwnA w B (.slice (some ⟨g, 0, none⟩) L.length c) L) {i : Nat} (hi : i < L.length) : w.cell? ⟨g, i * 3, none⟩ = some (.int .i64 ((L.getD i Sp.arc0).f : Int)) ∧ w.cell? ⟨g, i * 3 + 1, none⟩ = some (.int .i64 ((L.getD i Sp.arc0).t : Int)) ∧ w.cell? ⟨g, i * 3 + 2, none⟩ = some (.int .i64 (L.getD i Sp.arc0).l) := by
  have h' := h
  unfold OwnA at h'
  obtain ⟨g0, g1, g2⟩ := Sp.cells3_get L i hi
  have hc : ∀ j, j < L.length * 3 → w.cell? ⟨g, j, none⟩ = (Sp.cells3 L)[j]? := fun j hj => World.ownsRow.cellAt h' j hj
  exact ⟨(hc _ (by omega)).trans g0, (hc _ (by omega)).trans g1, (hc _ (by omega)).trans g2⟩
set_option maxRecDepth 100000 in
set_option maxHeartbeats 8000000 in
theorem rmarcs_any (F C : List Int) (fv cv : Value) (b0 : Int) (m : Nat) (w : World) (hF : Ints w fv F) (hC : Ints w cv C) (hFl : F.length = m) (hCl : C.length = m) (hev : m % 2 = 0) (hm : m ≤ 999) (hFn : ∀ d, d < m → 0 ≤ F.getD d 0) :
    Calls Try.prog 32 #[.agg #[fv, .slice none 0 0, .int .i64 b0], cv] w fun e w' => ∃ v, e = .returned v ∧ OwnA w' w.heap.size v (Sp.rimL F C m) ∧ Below w.heap.size w w' := by
  obtain ⟨fa, fc, hfe, -, -, HFa⟩ := hF.allA
  obtain ⟨ca, cc, hce, -, -, HCa⟩ := hC.allA
  rw [hFl] at hfe HFa
  rw [hCl] at hce HCa
  subst hfe hce
  have HFn := hide hFn
  have HB1 : Hid (∀ w', Below (w.heap.size + 1) (w.alloc (.cells #[.slice fa m fc, .slice none 0 0, .int .i64 b0] 44)) w' → Below w.heap.size w w' ∧ w'.cell? ⟨w.heap.size, 0, none⟩ = some (.slice fa m fc)) := hide fun w' hb => by
    have hs : (w.alloc (.cells #[.slice fa m fc, .slice none 0 0, .int .i64 b0] 44)).heap.size = w.heap.size + 1 := by simp
    exact ⟨((Below.refl _ w).alloc (Nat.le_refl _) _).trans (hb.mono (by omega)), (hb.cell (p := ⟨w.heap.size, 0, none⟩) (by show w.heap.size < _; omega)).trans (by rw [cell_of_row _ _ _ _ _ _ (heap_alloc_new w _)]; rfl)⟩
  have HS1 : Hid ((w.alloc (.cells #[.slice fa m fc, .slice none 0 0, .int .i64 b0] 44)).heap.size = w.heap.size + 1) := hide (by simp)
  obtain ⟨P, hP⟩ : ∃ P : Ending → World → Prop, P = fun e w' => ∃ v, e = .returned v ∧ OwnA w' w.heap.size v (Sp.rimL F C m) ∧ Below w.heap.size w w' := ⟨_, rfl⟩
  rw [← hP]
  have HP := hide hP
  clear hP hF hC hFl hCl hFn
  have HQ : Hid (Below (w.heap.size + 1) (w.alloc (.cells #[.slice fa m fc, .slice none 0 0, .int .i64 b0] 44)) (w.alloc (.cells #[.slice fa m fc, .slice none 0 0, .int .i64 b0] 44)) ∧ OwnA (w.alloc (.cells #[.slice fa m fc, .slice none 0 0, .int .i64 b0] 44)) (w.heap.size + 1) (.slice none 0 0) (Sp.rimL F C 0)) := hide ⟨Below.refl _ _, OwnA.nil _ _⟩
  go_enter Try.func32, Try.ntmps32
  go_wp2
  go_step3
  go_wp2
  go_step3
  go_wp2
  generalize w.alloc (.cells #[.slice fa m fc, .slice none 0 0, .int .i64 b0] 44) = W1 at *
  go_loopg [5, 14] m (fun g s5 s14 wr => ∃ d : Nat, d + g = m ∧ s14 = .int .i64 (d : Int) ∧ Hid (Below (w.heap.size + 1) W1 wr ∧ OwnA wr (w.heap.size + 1) s5 (Sp.rimL F C d)))
  case atStart => exact ⟨0, by omega, rfl, HQ⟩
  case round =>
    clear HQ
    obtain ⟨d, hdg, rfl, HI⟩ := hrel
    have HSr : Hid (w.heap.size + 1 ≤ wr.heap.size) := hide (by have := (unhide HI).1.size; have := unhide HS1; omega)
    obtain ⟨L, hLe⟩ : ∃ L, Sp.rimL F C d = L := ⟨_, rfl⟩
    have hLd : L.length ≤ d := by rw [← hLe]; exact Sp.rimL_len F C d
    have HLs0 : Hid (Sp.rimL F C (d + 1) = Sp.putA L (Sp.rimA F C d)) := hide (by rw [← hLe]; rfl)
    have hLe' := hide hLe
    rw [hLe] at HI
    clear hLe
    obtain ⟨va, vc, hve, -, -⟩ := (unhide HI).2.arcs.form
    subst hve
    cases gk with
    | succ g' =>
      have hd : d < m := by omega
      have hdI : (d : Int) < (m : Int) := by omega
      have ho := oth_lt hd hev
      have hoI : ((Sp.oth d : Nat) : Int) < (m : Int) := by omega
      have HOt := hide (fun w' => rmother_any d w' (by omega))
      obtain ⟨x, hx⟩ : ∃ x : Nat, F.getD d 0 = (x : Int) := ⟨_, (Int.toNat_of_nonneg (unhide HFn d hd)).symm⟩
      obtain ⟨y, hy⟩ : ∃ y : Nat, F.getD (Sp.oth d) 0 = (y : Int) := ⟨_, (Int.toNat_of_nonneg (unhide HFn _ ho)).symm⟩
      obtain ⟨z, hz⟩ : ∃ z, C.getD d 0 = z := ⟨_, rfl⟩
      have HLs : Hid (Sp.rimL F C (d + 1) = Sp.putA L ⟨x, y, z⟩) := hide (by rw [unhide HLs0]; unfold Sp.rimA; rw [hx, hy, hz]; rfl)
      obtain ⟨b1, o1, rfl, -, hc1⟩ := unhide HFa d hd
      obtain ⟨b2, o2, e2, -, hc2⟩ := unhide HFa _ ho
      obtain ⟨b3, o3, rfl, -, hc3⟩ := unhide HCa d hd
      injection e2 with e2
      injection e2 with q1 q2
      subst q1 q2
      rw [hx] at hc1
      rw [hy] at hc2
      rw [hz] at hc3
      have HRD : Hid (∀ w', Below wr.heap.size wr w' → w'.cell? ⟨w.heap.size, 0, none⟩ = some (.slice (some ⟨b1, o1, none⟩) m fc) ∧ w'.cell? ⟨b1, o1 + d, none⟩ = some (.int .i64 (x : Int)) ∧ w'.cell? ⟨b1, o1 + Sp.oth d, none⟩ = some (.int .i64 (y : Int)) ∧ w'.cell? ⟨b3, o3 + d, none⟩ = some (.int .i64 z)) := hide fun w' hb => by
        have h := unhide HB1 _ ((unhide HI).1.trans (hb.mono (unhide HSr)))
        exact ⟨h.2, hc1 _ h.1, hc2 _ h.1, hc3 _ h.1⟩
      obtain ⟨c0, c1, c2, c3⟩ := unhide HRD wr (Below.refl _ _)
      clear hx hy hz hc1 hc2 hc3 HLs0
      go_upto_region 5 with fail
      go_cut [8] (fun s8 wc6 => ∃ (B8 : Nat) (w6 : World), wc6 = w6 ∧ s8 = .pointer (some ⟨B8, 0, none⟩) ∧ wr.heap.size ≤ B8 ∧ Hid (Below wr.heap.size wr w6 ∧ w6.heap[B8]? = some (.cells #[.int .i64 (x : Int), .int .i64 (y : Int), .int .i64 z] 65)))
      case first =>
        have hbq := (Below.refl wr.heap.size wr).drew
        refine wp_region_G (fun w' => w'.cell? ⟨w.heap.size, 0, none⟩ = some (.slice (some ⟨b1, o1, none⟩) m fc) ∧ w'.cell? ⟨b1, o1 + d, none⟩ = some (.int .i64 (x : Int)) ∧ w'.cell? ⟨b1, o1 + Sp.oth d, none⟩ = some (.int .i64 (y : Int)) ∧ w'.cell? ⟨b3, o3 + d, none⟩ = some (.int .i64 z)) (fun _ => false) (by kernel_rfl) (unhide HRD _ hbq) (fun hHeld => ?_)
        generalize wr.drew = wq at *
        refine wpAnyG_take (v := ?_) 0 (by rfl) (by kernel_rfl) (by kernel_rfl) (by kernel_rfl) (by kernel_rfl) (fun _ _ _ h => h) (Or.inl ⟨by rfl, ?_⟩) (by assumption) ?_
        rotate_left
        · (intro w' hSw; (try dsimp only at hSw); (try simp only [List.getElem_toArray, List.getElem_cons_zero]); go_simp; try (with_reducible rfl))
        simp only [Act.put, List.getElem_toArray, List.getElem_cons_zero, List.setIfInBounds_toArray, List.set_cons_zero, List.set_cons_succ]
        refine wpAnyG_take (v := ?_) 1 (by rfl) (by kernel_rfl) (by kernel_rfl) (by kernel_rfl) (by kernel_rfl) (fun _ _ _ h => h) (Or.inl ⟨by rfl, ?_⟩) (by assumption) ?_
        rotate_left
        · (intro w' hSw; (try dsimp only at hSw); (try simp only [List.getElem_toArray, List.getElem_cons_succ, List.getElem_cons_zero]); go_simp; try (with_reducible rfl))
        simp only [Act.put, List.getElem_toArray, List.getElem_cons_succ, List.getElem_cons_zero, List.setIfInBounds_toArray, List.set_cons_zero, List.set_cons_succ]
        refine wpAnyG_take (v := ?_) 2 (by rfl) (by kernel_rfl) (by kernel_rfl) (by kernel_rfl) (by kernel_rfl) (fun _ _ _ h => h) (Or.inl ⟨by rfl, ?_⟩) (by assumption) ?_
        rotate_left
        · (intro w' hSw; (try dsimp only at hSw); (try simp only [List.getElem_toArray, List.getElem_cons_succ, List.getElem_cons_zero]); go_simp; try (with_reducible rfl))
        simp only [Act.put, List.getElem_toArray, List.getElem_cons_succ, List.getElem_cons_zero, List.setIfInBounds_toArray, List.set_cons_zero, List.set_cons_succ]
        refine wpAnyG_take (v := ?_) 3 (by rfl) (by kernel_rfl) (by kernel_rfl) (by kernel_rfl) (by kernel_rfl) (fun _ _ _ h => h) (Or.inl ⟨by rfl, ?_⟩) (by assumption) ?_
        rotate_left
        · (intro w' hSw; (try dsimp only at hSw); (try simp only [List.getElem_toArray, List.getElem_cons_succ, List.getElem_cons_zero]); go_simp; try (with_reducible rfl))
        simp only [Act.put, List.getElem_toArray, List.getElem_cons_succ, List.getElem_cons_zero, List.setIfInBounds_toArray, List.set_cons_zero, List.set_cons_succ]
        refine wpAnyG_take (v := ?_) 7 (by rfl) (by kernel_rfl) (by kernel_rfl) (by kernel_rfl) (by kernel_rfl) (fun _ _ _ h => h) (Or.inl ⟨by rfl, ?_⟩) (by assumption) ?_
        rotate_left
        · (intro w' hSw; (try dsimp only at hSw); (try simp only [List.getElem_toArray, List.getElem_cons_succ, List.getElem_cons_zero]); go_simp; try (with_reducible rfl))
        simp only [Act.put, List.getElem_toArray, List.getElem_cons_succ, List.getElem_cons_zero, List.setIfInBounds_toArray, List.set_cons_zero, List.set_cons_succ]
        refine wpAnyG_take (v := ?_) 8 (by rfl) (by kernel_rfl) (by kernel_rfl) (by kernel_rfl) (by kernel_rfl) (fun _ _ _ h => h) (Or.inl ⟨by rfl, ?_⟩) (by assumption) ?_
        rotate_left
        · (intro w' hSw; (try dsimp only at hSw); (try simp only [List.getElem_toArray, List.getElem_cons_succ, List.getElem_cons_zero]); go_simp; try (with_reducible rfl))
        simp only [Act.put, List.getElem_toArray, List.getElem_cons_succ, List.getElem_cons_zero, List.setIfInBounds_toArray, List.set_cons_zero, List.set_cons_succ]
        refine wpAnyG_take (v := ?_) 9 (by rfl) (by kernel_rfl) (by kernel_rfl) (by kernel_rfl) (by kernel_rfl) (fun _ _ _ h => h) (Or.inl ⟨by rfl, ?_⟩) (by assumption) ?_
        rotate_left
        · (intro w' hSw; (try dsimp only at hSw); (try simp only [List.getElem_toArray, List.getElem_cons_succ, List.getElem_cons_zero]); go_simp; try (with_reducible rfl))
        simp only [Act.put, List.getElem_toArray, List.getElem_cons_succ, List.getElem_cons_zero, List.setIfInBounds_toArray, List.set_cons_zero, List.set_cons_succ]
        refine wpAnyG_take (v := ?_) 10 (by rfl) (by kernel_rfl) (by kernel_rfl) (by kernel_rfl) (by kernel_rfl) (fun _ _ _ h => h) (Or.inl ⟨by rfl, ?_⟩) (by assumption) ?_
        rotate_left
        · (intro w' hSw; (try dsimp only at hSw); (try simp only [List.getElem_toArray, List.getElem_cons_succ, List.getElem_cons_zero]); go_simp; try (with_reducible rfl))
        simp only [Act.put, List.getElem_toArray, List.getElem_cons_succ, List.getElem_cons_zero, List.setIfInBounds_toArray, List.set_cons_zero, List.set_cons_succ]
        refine wpAnyG_ready [4, 12] (by kernel_rfl) (by simp) ?_
        refine AllReadyG.cons 4 (by rfl) (fun K hK => ?_) ?_
        · simp only [List.getElem_toArray, List.getElem_cons_succ, List.getElem_cons_zero]
          go_simp
          go_at_call 33
          refine (unhide HOt _).mono ?_
          rintro e wc1 ⟨rfl, hlc1⟩
          have hlc1' := hlc1.symm
          clear hlc1
          subst hlc1'
          refine hK.out _ _ (unhide HRD _ hbq) (fun _ => ?_)
          clear hK K
          try simp only [Act.put, List.setIfInBounds_toArray, List.set_cons_zero, List.set_cons_succ]
          refine wpAnyG_take (v := ?_) 5 (by rfl) (by kernel_rfl) (by kernel_rfl) (by kernel_rfl) (by kernel_rfl) (fun _ _ _ h => h) (Or.inl ⟨by rfl, ?_⟩) (by assumption) ?_
          rotate_left
          · (intro w' hSw; (try dsimp only at hSw); (try simp only [List.getElem_toArray, List.getElem_cons_succ, List.getElem_cons_zero]); go_simp; try (with_reducible rfl))
          simp only [Act.put, List.getElem_toArray, List.getElem_cons_succ, List.getElem_cons_zero, List.setIfInBounds_toArray, List.set_cons_zero, List.set_cons_succ]
          refine wpAnyG_take (v := ?_) 6 (by rfl) (by kernel_rfl) (by kernel_rfl) (by kernel_rfl) (by kernel_rfl) (fun _ _ _ h => h) (Or.inl ⟨by rfl, ?_⟩) (by assumption) ?_
          rotate_left
          · (intro w' hSw; (try dsimp only at hSw); (try simp only [List.getElem_toArray, List.getElem_cons_succ, List.getElem_cons_zero]); go_simp; try (with_reducible rfl))
          simp only [Act.put, List.getElem_toArray, List.getElem_cons_succ, List.getElem_cons_zero, List.setIfInBounds_toArray, List.set_cons_zero, List.set_cons_succ]
          refine wpAnyG_take (v := ?_) 11 (by rfl) (by kernel_rfl) (by kernel_rfl) (by kernel_rfl) (by kernel_rfl) (fun _ _ _ h => h) (Or.inl ⟨by rfl, ?_⟩) (by assumption) ?_
          rotate_left
          · (intro w' hSw; (try dsimp only at hSw); (try simp only [List.getElem_toArray, List.getElem_cons_succ, List.getElem_cons_zero]); go_simp; try (with_reducible rfl))
          simp only [Act.put, List.getElem_toArray, List.getElem_cons_succ, List.getElem_cons_zero, List.setIfInBounds_toArray, List.set_cons_zero, List.set_cons_succ]
          refine wpAnyG_ready [12] (by kernel_rfl) (by simp) ?_
          refine AllReadyG.cons 12 (by rfl) (fun K hK => ?_) ?_
          · simp only [List.getElem_toArray, List.getElem_cons_succ, List.getElem_cons_zero]
            go_simp
            have hba := Below.alloc hbq hbq.size (.cells #[.int .i64 0, .int .i64 0, .int .i64 0] 65)
            refine hK.out _ _ (unhide HRD _ hba) (fun _ => ?_)
            clear hK K
            try simp only [Act.put, List.setIfInBounds_toArray, List.set_cons_zero, List.set_cons_succ]
            refine wpAnyG_ready [13] (by kernel_rfl) (by simp) ?_
            refine AllReadyG.cons 13 (by rfl) (fun K hK => ?_) ?_
            · simp only [List.getElem_toArray, List.getElem_cons_succ, List.getElem_cons_zero]
              go_simp
              have hbs := Below.alloc hbq hbq.size (.cells #[.int .i64 (x : Int), .int .i64 (y : Int), .int .i64 z] 65)
              refine hK.out _ _ (unhide HRD _ hbs) (fun _ => ?_)
              clear hK K
              try simp only [Act.put, List.setIfInBounds_toArray, List.set_cons_zero, List.set_cons_succ]
              refine wpAnyG_done (by kernel_rfl) ?_ _
              refine NoPanic.normal ?_
              clear hHeld
              go_wp2
              go_meet
              exact ⟨_, _, rfl, rfl, hbq.size, hide ⟨hbs, heap_alloc_new _ _⟩⟩
            exact AllReadyG.nil
          exact AllReadyG.nil
        refine AllReadyG.cons 12 (by rfl) (fun K hK => ?_) ?_
        · simp only [List.getElem_toArray, List.getElem_cons_succ, List.getElem_cons_zero]
          go_simp
          have hba := Below.alloc hbq hbq.size (.cells #[.int .i64 0, .int .i64 0, .int .i64 0] 65)
          refine hK.out _ _ (unhide HRD _ hba) (fun _ => ?_)
          clear hK K
          try simp only [Act.put, List.setIfInBounds_toArray, List.set_cons_zero, List.set_cons_succ]
          refine wpAnyG_ready [4] (by kernel_rfl) (by simp) ?_
          refine AllReadyG.cons 4 (by rfl) (fun K hK => ?_) ?_
          · simp only [List.getElem_toArray, List.getElem_cons_succ, List.getElem_cons_zero]
            go_simp
            go_at_call 33
            refine (unhide HOt _).mono ?_
            rintro e wc1 ⟨rfl, hlc1⟩
            have hlc1' := hlc1.symm
            clear hlc1
            subst hlc1'
            refine hK.out _ _ (unhide HRD _ hba) (fun _ => ?_)
            clear hK K
            try simp only [Act.put, List.setIfInBounds_toArray, List.set_cons_zero, List.set_cons_succ]
            refine wpAnyG_take (v := ?_) 5 (by rfl) (by kernel_rfl) (by kernel_rfl) (by kernel_rfl) (by kernel_rfl) (fun _ _ _ h => h) (Or.inl ⟨by rfl, ?_⟩) (by assumption) ?_
            rotate_left
            · (intro w' hSw; (try dsimp only at hSw); (try simp only [List.getElem_toArray, List.getElem_cons_succ, List.getElem_cons_zero]); go_simp; try (with_reducible rfl))
            simp only [Act.put, List.getElem_toArray, List.getElem_cons_succ, List.getElem_cons_zero, List.setIfInBounds_toArray, List.set_cons_zero, List.set_cons_succ]
            refine wpAnyG_take (v := ?_) 6 (by rfl) (by kernel_rfl) (by kernel_rfl) (by kernel_rfl) (by kernel_rfl) (fun _ _ _ h => h) (Or.inl ⟨by rfl, ?_⟩) (by assumption) ?_
            rotate_left
            · (intro w' hSw; (try dsimp only at hSw); (try simp only [List.getElem_toArray, List.getElem_cons_succ, List.getElem_cons_zero]); go_simp; try (with_reducible rfl))
            simp only [Act.put, List.getElem_toArray, List.getElem_cons_succ, List.getElem_cons_zero, List.setIfInBounds_toArray, List.set_cons_zero, List.set_cons_succ]
            refine wpAnyG_take (v := ?_) 11 (by rfl) (by kernel_rfl) (by kernel_rfl) (by kernel_rfl) (by kernel_rfl) (fun _ _ _ h => h) (Or.inl ⟨by rfl, ?_⟩) (by assumption) ?_
            rotate_left
            · (intro w' hSw; (try dsimp only at hSw); (try simp only [List.getElem_toArray, List.getElem_cons_succ, List.getElem_cons_zero]); go_simp; try (with_reducible rfl))
            simp only [Act.put, List.getElem_toArray, List.getElem_cons_succ, List.getElem_cons_zero, List.setIfInBounds_toArray, List.set_cons_zero, List.set_cons_succ]
            refine wpAnyG_ready [13] (by kernel_rfl) (by simp) ?_
            refine AllReadyG.cons 13 (by rfl) (fun K hK => ?_) ?_
            · simp only [List.getElem_toArray, List.getElem_cons_succ, List.getElem_cons_zero]
              go_simp
              have hbs := Below.alloc hbq hbq.size (.cells #[.int .i64 (x : Int), .int .i64 (y : Int), .int .i64 z] 65)
              refine hK.out _ _ (unhide HRD _ hbs) (fun _ => ?_)
              clear hK K
              try simp only [Act.put, List.setIfInBounds_toArray, List.set_cons_zero, List.set_cons_succ]
              refine wpAnyG_done (by kernel_rfl) ?_ _
              refine NoPanic.normal ?_
              clear hHeld
              go_wp2
              go_meet
              exact ⟨_, _, rfl, rfl, hbq.size, hide ⟨hbs, heap_alloc_new _ _⟩⟩
            exact AllReadyG.nil
          exact AllReadyG.nil
        exact AllReadyG.nil
      case rest =>
        obtain ⟨B8, w6, hw6, h8, hB8, HA⟩ := hcut
        have hw6' := hw6.symm
        subst hw6'
        subst h8
        clear hw6
        clear c0 c1 c2 c3 HRD HOt
        have HA6 := HA
        have HO6 := hide ((unhide HI).2.below (unhide HA).1)
        have HK8 : Hid (∀ w', Below w6.heap.size w6 w' → B8 < w'.heap.size ∧ w'.cell? ⟨B8, 0, none⟩ = some (.int .i64 (x : Int)) ∧ w'.cell? ⟨B8, 1, none⟩ = some (.int .i64 (y : Int)) ∧ w'.cell? ⟨B8, 2, none⟩ = some (.int .i64 z)) := hide fun w' hb => by
          have hlt : B8 < w6.heap.size := (Array.getElem?_eq_some_iff.1 (unhide HA).2).1
          have e := hb.block B8 hlt
          rw [(unhide HA).2] at e
          refine ⟨by have := hb.size; omega, ?_, ?_, ?_⟩ <;> rw [cell_of_row _ _ _ _ _ _ e] <;> rfl
        have HN0 : Hid (∀ j, j < 0 → ¬ ((L.getD j Sp.arc0).f = x ∧ (L.getD j Sp.arc0).t = y)) := hide fun j hj => by omega
        have HBr := hide (Below.refl w6.heap.size w6)
        clear HA
        go_wp2
        go_loopg [33] L.length (fun g2 s33 wr => ∃ i : Nat, i + g2 = L.length ∧ s33 = .int .i64 (i : Int) ∧ Hid (Below w6.heap.size w6 wr) ∧ Hid (∀ j, j < i → ¬ ((L.getD j Sp.arc0).f = x ∧ (L.getD j Sp.arc0).t = y)))
        case atStart => exact ⟨0, by omega, rfl, HBr, HN0⟩
        case round =>
          clear HBr HN0
          obtain ⟨i, hig, rfl, HB, HN⟩ := hrel
          cases gk with
          | succ g2' =>
            have hi : i < L.length := by omega
            have hiI : (i : Int) < (L.length : Int) := by omega
            obtain ⟨gL, rfl, hgL, hgL2⟩ := (unhide HO6).at_ (by omega)
            obtain ⟨c0, c1, c2⟩ := ((unhide HO6).below (unhide HB)).cells hi
            obtain ⟨⟨p, q, l⟩, ha⟩ : ∃ a, L.getD i Sp.arc0 = a := ⟨_, rfl⟩
            rw [ha] at c0 c1 c2
            have HLi := hide ha
            clear ha
            go_upto_region 9 with fail
            obtain ⟨wt, hwt⟩ : ∃ wt, wr.alloc (.cells #[.int .i64 (p : Int), .int .i64 (q : Int), .int .i64 l] 65) = wt := ⟨_, rfl⟩
            rw [hwt]
            obtain ⟨k0, k1, k2⟩ := arc_new wr (.int .i64 (p : Int)) (.int .i64 (q : Int)) (.int .i64 l)
            rw [hwt] at k0 k1 k2
            have HBt := hide ((unhide HB).alloc (unhide HB).size (.cells #[.int .i64 (p : Int), .int .i64 (q : Int), .int .i64 l] 65))
            rw [hwt] at HBt
            obtain ⟨-, a0, a1, a2⟩ := unhide HK8 wt (unhide HBt)
            clear hwt c0 c1 c2
            by_cases hpx : p = x
            · have hpb : ((p : Int) == (x : Int)) = true := beq_iff_eq.2 (by rw [hpx])
              by_cases hqy : q = y
              · have hqb : ((q : Int) == (y : Int)) = true := beq_iff_eq.2 (by rw [hqy])
                have fz := fun k => ((unhide HO6).below (unhide HBt)).frozen k
                have d2 := (((unhide HO6).below (unhide HBt)).cells hi).2.2
                rw [unhide HLi] at d2
                by_cases hlz : l ≤ z
                · have hmin : min l z = l := Int.min_eq_left hlz
                  have HF : Hid (Below (w.heap.size + 1) W1 (wt.setCell ⟨gL, i * 3 + 2, none⟩ (.int .i64 (min l z))) ∧ OwnA (wt.setCell ⟨gL, i * 3 + 2, none⟩ (.int .i64 (min l z))) (w.heap.size + 1) (.slice (some ⟨gL, 0, none⟩) L.length vc) (Sp.rimL F C (d + 1))) := hide ⟨((unhide HI).1.trans ((unhide HA6).1.trans ((unhide HBt).mono (unhide HA6).1.size) |>.mono (unhide HSr))).setCell (p := ⟨gL, i * 3 + 2, none⟩) (by exact hgL) _, by
                    rw [unhide HLs, Sp.putA_at L ⟨x, y, z⟩ i hi (unhide HN) (by rw [unhide HLi]; exact ⟨hpx, hqy⟩), unhide HLi]
                    have h := ((unhide HO6).below (unhide HBt)).set rfl i (min l z)
                    rw [unhide HLi] at h
                    exact h⟩
                  rw [hmin] at HF
                  go_wp2
                  go_roundg g'
                  case rel => exact ⟨d + 1, by omega, by go_num, HF⟩
                  case measure => omega
                · have hmin : min l z = z := Int.min_eq_right (by omega)
                  have HF : Hid (Below (w.heap.size + 1) W1 (wt.setCell ⟨gL, i * 3 + 2, none⟩ (.int .i64 (min l z))) ∧ OwnA (wt.setCell ⟨gL, i * 3 + 2, none⟩ (.int .i64 (min l z))) (w.heap.size + 1) (.slice (some ⟨gL, 0, none⟩) L.length vc) (Sp.rimL F C (d + 1))) := hide ⟨((unhide HI).1.trans ((unhide HA6).1.trans ((unhide HBt).mono (unhide HA6).1.size) |>.mono (unhide HSr))).setCell (p := ⟨gL, i * 3 + 2, none⟩) (by exact hgL) _, by
                    rw [unhide HLs, Sp.putA_at L ⟨x, y, z⟩ i hi (unhide HN) (by rw [unhide HLi]; exact ⟨hpx, hqy⟩), unhide HLi]
                    have h := ((unhide HO6).below (unhide HBt)).set rfl i (min l z)
                    rw [unhide HLi] at h
                    exact h⟩
                  rw [hmin] at HF
                  go_wp2
                  go_roundg g'
                  case rel => exact ⟨d + 1, by omega, by go_num, HF⟩
                  case measure => omega
              · have hqb : ((q : Int) == (y : Int)) = false := beq_eq_false_iff_ne.2 (by omega)
                have HN2 : Hid (∀ j, j < i + 1 → ¬ ((L.getD j Sp.arc0).f = x ∧ (L.getD j Sp.arc0).t = y)) := hide fun j hj => by
                  by_cases e : j = i
                  · subst e; rw [unhide HLi]; exact fun hh => hqy hh.2
                  · exact unhide HN j (by omega)
                go_wp2
                go_roundg g2'
                case rel => exact ⟨i + 1, by omega, by go_num, HBt, HN2⟩
                case measure => omega
            · have hpb : ((p : Int) == (x : Int)) = false := beq_eq_false_iff_ne.2 (by omega)
              have HN2 : Hid (∀ j, j < i + 1 → ¬ ((L.getD j Sp.arc0).f = x ∧ (L.getD j Sp.arc0).t = y)) := hide fun j hj => by
                by_cases e : j = i
                · subst e; rw [unhide HLi]; exact fun hh => hpx hh.1
                · exact unhide HN j (by omega)
              go_wp2
              go_roundg g2'
              case rel => exact ⟨i + 1, by omega, by go_num, HBt, HN2⟩
              case measure => omega
          | zero =>
            obtain rfl : i = L.length := by omega
            have hnn : ¬ ((L.length : Nat) : Int) < (L.length : Int) := by omega
            obtain ⟨-, a0, a1, a2⟩ := unhide HK8 wr (unhide HB)
            have HO7 := hide ((unhide HO6).below (unhide HB))
            have HB7 := hide ((unhide HI).1.trans (((unhide HA6).1.trans ((unhide HB).mono (unhide HA6).1.size)).mono (unhide HSr)))
            go_wp2_with (at_builtin; refine wpList_appA (w := wr.alloc (.cells #[.int .i64 (x : Int), .int .i64 (y : Int), .int .i64 z] 65)) rfl _ _ rfl (w.heap.size + 1) _ _ L [⟨x, y, z⟩] rfl rfl ((unhide HO7).alloc _) (OwnA.arcs (own_litA _ 0 _ 1 [⟨x, y, z⟩] _ rfl rfl rfl (Nat.zero_le _) (by simp))) (L.length + 1) rfl (by omega) (by have h1 := (unhide HB7).size; have h2 := unhide HS1; simp; omega) ?_)
            intro a9 c9 w9 hown9 hg9 ho9
            have HF : Hid (Below (w.heap.size + 1) W1 w9 ∧ OwnA w9 (w.heap.size + 1) (.slice a9 (L.length + 1) c9) (Sp.rimL F C (d + 1))) := hide ⟨((unhide HB7).alloc (by have h1 := (unhide HB7).size; have h2 := unhide HS1; omega) _).grown hg9 (by have h1 := (unhide HB7).size; have h2 := unhide HS1; simp; omega) (fun g hg => ((unhide HO7).lt g hg).1), by rw [unhide HLs, Sp.putA_end L ⟨x, y, z⟩ (unhide HN)]; exact hown9⟩
            clear hown9 hg9 ho9 a0 a1 a2
            go_wp2
            go_roundg g'
            case rel => exact ⟨d + 1, by omega, by go_num, HF⟩
            case measure => omega
    | zero =>
      obtain rfl : d = m := by omega
      have hnn : ¬ (d : Int) < (d : Int) := by omega
      go_wp2
      try rw [Exit.noGoto_ret]
      rw [unhide HP]
      exact ⟨_, rfl, by rw [unhide hLe']; exact (unhide HI).2.base (by omega), (unhide HB1 _ (unhide HI).1).1⟩
end Go.Proofs.Ytoegjnolccabjab


/- The walks of the second law's within and lay, of the second reference's Head. -/
namespace Go.Proofs.Ytoegjnolccabjab
open Go Go.RowKit

set_option maxHeartbeats 400000 in
theorem within2_any (a n : Int) (w : World) (hn : 0 < n) (hn1 : n ≤ 4611686018427387904) :
    Calls Try.prog 21 #[.int .i64 a, .int .i64 n] w fun e w' => e = .returned (.int .i64 (a % n)) ∧ w' = w := by
  have h0 : 0 ≤ a % n := Int.emod_nonneg a (by omega)
  have h1 : a % n < n := Int.emod_lt_of_pos a hn
  rcases tmod_cases a n hn with ⟨ha, hb⟩ | ⟨ha, hb⟩
  · have hc : -n ≤ a.tmod n := by omega
    have Hb := hide hb; clear hb h0 h1
    go_enter Try.func21, Try.ntmps21
    go_wp2
    go_ret
    exact ⟨ret_int (unhide Hb), rfl⟩
  · have Hb := hide hb; clear hb h0 h1
    go_enter Try.func21, Try.ntmps21
    go_wp2
    go_ret
    exact ⟨ret_int (unhide Hb), rfl⟩
set_option maxRecDepth 100000 in
set_option maxHeartbeats 400000 in
theorem head2_any (q : Sp.Net) (v tv nv cv : Value) (d : Nat) (w : World) (hv : NetI w v q tv nv cv) (hd : d < q.tail.length) (hev : q.tail.length % 2 = 0) (h240 : q.tail.length ≤ 240) :
    Calls Try.prog 39 #[v, .int .i64 (d : Int)] w fun e w' => e = .returned (.int .i64 (q.tail.getD (Sp.oth d) 0)) ∧ Below w.heap.size w w' := by
  obtain ⟨rfl, h1, h2, h3⟩ := hv
  obtain ⟨ta, tc, rfl, htc, htm, HT⟩ := h1.all
  obtain ⟨na, nc, rfl, -, -⟩ := h2.form
  obtain ⟨ca, cc, rfl, -, -⟩ := h3.form
  clear h1 h2 h3
  have ho := oth_lt hd hev
  have hX := xor_oth ⟨d, by omega⟩
  obtain ⟨b, o, rfl, -, hcx⟩ := unhide HT _ ho
  have HF : Hid (q.tail.getD (Sp.oth d) 0 = q.tail[Sp.oth d]) := hide (Sp.getD_eq _ _ ho)
  have hb : ∀ ob, Below w.heap.size w (w.alloc ob) := fun ob => (Below.refl _ w).alloc (Nat.le_refl _) ob
  have HB := hide hb
  generalize q.tail[Sp.oth d] = z at *
  have g := fun ob => hcx _ (hb ob)
  generalize q.tail.getD (Sp.oth d) 0 = R at *
  simp only at hX
  generalize Sp.oth d = od at *
  have ho' : (od : Int) < q.tail.length := by omega
  clear hcx hb HT
  go_enter Try.func39, Try.ntmps39
  go_wp2
  go_ret
  exact ⟨by rw [unhide HF]; rfl, unhide HB _⟩
/-- A row of the caller's own, another one laid behind a dart. -/
def Sp.layIn (l : List Int) (bh d : Nat) : List Int := (l.set d (l.getD bh 0)).set bh (d : Int)
set_option maxRecDepth 100000 in
set_option maxHeartbeats 400000 in
theorem lay_any (l : List Int) (B g n c bh d : Nat) (w : World) (hO : OwnI w B (.slice (some ⟨g, 0, none⟩) n c) l) (hl : l.length = n) (_hn : n ≤ 1000) (hbh : bh < n) (hd : d < n) (hne : bh ≠ d) :
    Calls Try.prog 24 #[.slice (some ⟨g, 0, none⟩) n c, .int .i64 (bh : Int), .int .i64 (d : Int)] w fun e w' => (∃ v, e = .returned v) ∧ OwnI w' B (.slice (some ⟨g, 0, none⟩) n c) (Sp.layIn l bh d) ∧ ButRow g w w' := by
  have r1 := own_cell hO bh (by omega)
  have r2 := own_cell hO d (by omega)
  have y1 := own_frozen hO bh
  have y2 := own_frozen hO d
  have HL : Hid (Sp.layIn l bh d = (l.set d (l.getD bh 0)).set bh (d : Int)) := hide rfl
  have HG : Hid (l.getD bh 0 = l[bh]'(by omega)) := hide (Sp.getD_eq _ _ (by omega))
  generalize Sp.layIn l bh d = R at *
  have HO := hide hO
  clear hO
  generalize l[bh]'_ = z at *
  generalize l[d]'_ = z2 at *
  have hbI : (bh : Int) < n := by omega
  have hdI : (d : Int) < n := by omega
  clear hl
  go_enter Try.func24, Try.ntmps24
  go_wp2
  exact ⟨rfl, .tuple #[], by simp [results, Try.results24, go_sem], ⟨_, rfl⟩, by rw [unhide HL, unhide HG]; exact own_setCell (own_setCell (unhide HO) d z) bh d, ((ButRow.refl g w).setCell d _).setCell bh _⟩
end Go.Proofs.Ytoegjnolccabjab


/- The walk of the reference's About at a net. -/
namespace Go.Proofs.Ytoegjnolccabjab
open Go Go.RowKit

def sliceLen : Value → Nat
  | .slice _ n _ => n
  | _ => 0
end Go.Proofs.Ytoegjnolccabjab


