/- What the proof needs, part 6. -/
import Derived.Deep.RegionHeld3
import Derived.Test.YtenffkplneimlaaL5
/- A tree by the order in which vertices are found (P401): what Span tells, as a recursion; what stays along it. -/
namespace Go.Proofs.Ytenffkplneimlaa
open Go Go.RowKit

/-- The darts from d on, c of them, of the vertex u: what is found by them. -/
def Sp.rowGo (T : List Int) (root u : Int) : Nat → Nat → List Int → List Int → List Int × List Int
  | 0, _, fl, up => (fl, up)
  | c + 1, d, fl, up =>
    if T.getD d 0 = u then
      if T.getD (Sp.oth d) 0 = root ∨ up.getD (T.getD (Sp.oth d) 0).toNat 0 ≠ -1 then Sp.rowGo T root u c (d + 1) fl up
      else Sp.rowGo T root u c (d + 1) (fl ++ [T.getD (Sp.oth d) 0]) (up.set (T.getD (Sp.oth d) 0).toNat ((Sp.oth d : Nat) : Int))
    else Sp.rowGo T root u c (d + 1) fl up
/-- The vertices from the i-th found one on. -/
def Sp.spanGo (T : List Int) (root : Int) : Nat → Nat → List Int → List Int → List Int × List Int
  | 0, _, fl, up => (fl, up)
  | g + 1, i, fl, up => if i < fl.length then Sp.spanGo T root g (i + 1) (Sp.rowGo T root (fl.getD i 0) T.length 0 fl up).1 (Sp.rowGo T root (fl.getD i 0) T.length 0 fl up).2 else (fl, up)
/-- Span (P401). -/
def Sp.span (q : Sp.Net) (root : Int) : List Int := (Sp.spanGo q.tail root q.n.toNat 0 [root] (List.replicate q.n.toNat (-1))).2
/-- What stays along the way. -/
structure Sp.SpSt (T : List Int) (root : Int) (N : Nat) (fl up : List Int) : Prop where
  len : up.length = N
  bd : ∀ x ∈ fl, 0 ≤ x ∧ x < (N : Int)
  nd : fl.Nodup
  hd : ∃ r, fl = root :: r
  rt : up.getD root.toNat 0 = -1
  mem : ∀ v : Nat, v < N → ((v : Int) ∈ fl ↔ (v : Int) = root ∨ up.getD v 0 ≠ -1)
  dart : ∀ v : Nat, v < N → up.getD v 0 ≠ -1 → ∃ d : Nat, d < T.length ∧ up.getD v 0 = (d : Int) ∧ T.getD d 0 = (v : Int) ∧ T.getD (Sp.oth d) 0 ∈ fl
theorem getD_set1 (l : List Int) (i k : Nat) (v : Int) (hi : i < l.length) : (l.set i v).getD k 0 = if i = k then v else l.getD k 0 := by
  rw [List.getD_eq_getElem?_getD, List.getElem?_set, List.getD_eq_getElem?_getD]
  by_cases h : i = k
  · subst h
    rw [if_pos rfl, if_pos hi, if_pos rfl]
    rfl
  · rw [if_neg h, if_neg h]
theorem getD_rep1 (n i : Nat) (x : Int) (h : i < n) : (List.replicate n x).getD i 0 = x := by
  rw [List.getD_eq_getElem?_getD, List.getElem?_replicate, if_pos h]; rfl
theorem Sp.SpSt.first (T : List Int) {root : Int} {N : Nat} (h0 : 0 ≤ root) (h1 : root < (N : Int)) : Sp.SpSt T root N [root] (List.replicate N (-1)) := by
  refine ⟨by simp, fun x hx => ?_, by simp, ⟨[], rfl⟩, getD_rep1 _ _ _ (by omega), fun v hv => ?_, fun v hv e => absurd (getD_rep1 _ _ _ hv) e⟩
  · simp at hx; subst hx; exact ⟨h0, h1⟩
  · rw [getD_rep1 _ _ _ hv]
    simp
/-- A vertex is found. -/
theorem Sp.SpSt.find {T : List Int} {root : Int} {N : Nat} {fl up : List Int} (h : Sp.SpSt T root N fl up) (hT : ∀ x ∈ T, 0 ≤ x ∧ x < (N : Int)) (hev : T.length % 2 = 0) {d : Nat} (hd : d < T.length) (hu : T.getD d 0 ∈ fl) (hn : ¬ (T.getD (Sp.oth d) 0 = root ∨ up.getD (T.getD (Sp.oth d) 0).toNat 0 ≠ -1)) :
    Sp.SpSt T root N (fl ++ [T.getD (Sp.oth d) 0]) (up.set (T.getD (Sp.oth d) 0).toNat ((Sp.oth d : Nat) : Int)) := by
  have ho := oth_lt hd hev
  have hb := hT _ (Sp.getD_mem (l := T) ho)
  have hv : (T.getD (Sp.oth d) 0).toNat < N := by omega
  have hvi : (((T.getD (Sp.oth d) 0).toNat : Nat) : Int) = T.getD (Sp.oth d) 0 := by omega
  have hnm : ¬ T.getD (Sp.oth d) 0 ∈ fl := fun hm => hn (by
    have := (h.mem _ hv).1 (by rw [hvi]; exact hm)
    rw [hvi] at this
    exact this)
  have hnr : T.getD (Sp.oth d) 0 ≠ root := fun e => hn (.inl e)
  obtain ⟨r, hr⟩ := h.hd
  have hrb := h.bd root (by rw [hr]; simp)
  refine ⟨by rw [List.length_set]; exact h.len, fun x hx => ?_, ?_, ⟨r ++ [T.getD (Sp.oth d) 0], by rw [hr]; rfl⟩, ?_, fun v hvN => ?_, fun v hvN e => ?_⟩
  · rcases List.mem_append.1 hx with h1 | h1
    · exact h.bd x h1
    · simp at h1; subst h1; exact hb
  · rw [List.nodup_append]
    refine ⟨h.nd, by simp, fun a ha b hb' e => ?_⟩
    simp at hb'
    subst hb' e
    exact hnm ha
  · rw [getD_set1 _ _ _ _ (by rw [h.len]; exact hv), if_neg (by omega)]
    exact h.rt
  · rw [getD_set1 _ _ _ _ (by rw [h.len]; exact hv), List.mem_append, h.mem v hvN]
    by_cases e : (T.getD (Sp.oth d) 0).toNat = v
    · rw [if_pos e]
      constructor
      · intro _; exact .inr (by omega)
      · intro _; exact .inr (List.mem_singleton.2 (by omega))
    · rw [if_neg e]
      constructor
      · rintro (h1 | h1)
        · exact h1
        · have := List.mem_singleton.1 h1; omega
      · intro h1; exact .inl h1
  · rw [getD_set1 _ _ _ _ (by rw [h.len]; exact hv)] at e ⊢
    by_cases e2 : (T.getD (Sp.oth d) 0).toNat = v
    · rw [if_pos e2]
      exact ⟨Sp.oth d, ho, rfl, by omega, by rw [oth_oth]; exact List.mem_append.2 (.inl hu)⟩
    · rw [if_neg e2] at e ⊢
      obtain ⟨c, c1, c2, c3, c4⟩ := h.dart v hvN e
      exact ⟨c, c1, c2, c3, List.mem_append.2 (.inl c4)⟩
theorem Sp.SpSt.row {T : List Int} {root : Int} {N : Nat} (hT : ∀ x ∈ T, 0 ≤ x ∧ x < (N : Int)) (hev : T.length % 2 = 0) {u : Int} : ∀ c d fl up, d + c = T.length → u ∈ fl → Sp.SpSt T root N fl up → Sp.SpSt T root N (Sp.rowGo T root u c d fl up).1 (Sp.rowGo T root u c d fl up).2 ∧ ∃ r, (Sp.rowGo T root u c d fl up).1 = fl ++ r
  | 0, d, fl, up, _, _, h => ⟨h, [], by simp [Sp.rowGo]⟩
  | c + 1, d, fl, up, hd, hu, h => by
    rw [Sp.rowGo]
    split
    · rename_i e
      split
      · exact Sp.SpSt.row hT hev c (d + 1) fl up (by omega) hu h
      · rename_i hn
        obtain ⟨h1, r, h2⟩ := Sp.SpSt.row hT hev c (d + 1) _ _ (by omega) (List.mem_append.2 (.inl hu)) (h.find hT hev (by omega) (by rw [e]; exact hu) hn)
        exact ⟨h1, [T.getD (Sp.oth d) 0] ++ r, by rw [h2, List.append_assoc]⟩
    · exact Sp.SpSt.row hT hev c (d + 1) fl up (by omega) hu h
/-- As many were found as there are vertices, at most. -/
theorem Sp.SpSt.le {T : List Int} {root : Int} {N : Nat} {fl up : List Int} (h : Sp.SpSt T root N fl up) : fl.length ≤ N := nodup_le N fl h.nd h.bd
end Go.Proofs.Ytenffkplneimlaa


/- Package tree: isVertex, sound. -/
namespace Go.Proofs.Ytenffkplneimlaa
open Go Go.RowKit

set_option maxRecDepth 100000 in
set_option maxHeartbeats 1000000 in
theorem isVertex_any (q : Sp.Net) (v tv nv cv : Value) (x : Int) (w : World) (hv : NetI w v q tv nv cv) :
    Calls Try.prog 29 #[v, .int .i64 x] w fun e w' => e = .returned (.bool (decide (0 ≤ x ∧ x < q.n))) ∧ Below w.heap.size w w' := by
  obtain ⟨rfl, h1, h2, h3⟩ := hv
  obtain ⟨ta, tc, rfl, -, -⟩ := h1.form
  obtain ⟨na, nc, rfl, -, -⟩ := h2.form
  obtain ⟨ca, cc, rfl, -, -⟩ := h3.form
  have HB := hide ((Below.refl _ w).alloc (Nat.le_refl _) (.cells #[.int .i64 q.n, .slice ta q.tail.length tc, .slice na q.next.length nc, .slice ca q.cap.length cc] 25))
  clear h1 h2 h3
  by_cases h0 : 0 ≤ x
  · by_cases hn : x < q.n
    · have HR : Hid (decide (0 ≤ x ∧ x < q.n) = true) := hide (decide_eq_true ⟨h0, hn⟩)
      generalize decide (0 ≤ x ∧ x < q.n) = R at *
      go_enter Try.func29, Try.ntmps29
      go_wp2
      go_ret
      exact ⟨by rw [unhide HR]; rfl, unhide HB⟩
    · have HR : Hid (decide (0 ≤ x ∧ x < q.n) = false) := hide (decide_eq_false fun h => hn h.2)
      generalize decide (0 ≤ x ∧ x < q.n) = R at *
      go_enter Try.func29, Try.ntmps29
      go_wp2
      go_ret
      exact ⟨by rw [unhide HR]; rfl, unhide HB⟩
  · have HR : Hid (decide (0 ≤ x ∧ x < q.n) = false) := hide (decide_eq_false fun h => h0 h.1)
    generalize decide (0 ≤ x ∧ x < q.n) = R at *
    go_enter Try.func29, Try.ntmps29
    go_wp2
    go_ret
    exact ⟨by rw [unhide HR]; rfl, unhide HB⟩
set_option maxRecDepth 100000 in
set_option maxHeartbeats 1000000 in
theorem sound1_any (q : Sp.Net) (v tv nv cv : Value) (x : Int) (b : Nat) (w : World) (hv : NetI w v q tv nv cv) (hc : w.cell? ⟨b, 0, none⟩ = some (.int .i64 q.n) ∧ w.cell? ⟨b, 1, none⟩ = some tv ∧ w.cell? ⟨b, 2, none⟩ = some nv ∧ w.cell? ⟨b, 3, none⟩ = some cv) (hx : 0 ≤ x ∧ x < q.n) :
    Calls Try.prog 38 #[.int .i64 x, .pointer (some ⟨b, 0, none⟩)] w fun e w' => e = .returned (.bool false) ∧ Below w.heap.size w w' := by
  have HC := hide (isVertex_any q v tv nv cv x w hv)
  rw [decide_eq_true hx] at HC
  obtain ⟨rfl, -, -, -⟩ := hv
  obtain ⟨x0, x1, x2, x3⟩ := hc
  clear hx
  go_enter Try.func38, Try.ntmps38
  go_wp2_with fail
  go_at_call 29
  refine (unhide HC).mono ?_
  rintro e w2 ⟨rfl, hb2⟩
  have HB := hide hb2
  clear hb2 x0 x1 x2 x3
  go_wp2
  go_ret
  exact ⟨by rfl, unhide HB⟩
set_option maxRecDepth 100000 in
set_option maxHeartbeats 2000000 in
theorem indexSound_any (q : Sp.Net) (l : List Int) (v tv nv cv lv : Value) (b n : Nat) (w : World) (hv : NetI w v q tv nv cv) (hl : Ints w lv l) (hn : l.length = n) (h240 : n ≤ 1000) (hld : ∀ x ∈ l, 0 ≤ x ∧ x < q.n) (hb : b < w.heap.size)
    (hc : w.cell? ⟨b, 0, none⟩ = some (.int .i64 q.n) ∧ w.cell? ⟨b, 1, none⟩ = some tv ∧ w.cell? ⟨b, 2, none⟩ = some nv ∧ w.cell? ⟨b, 3, none⟩ = some cv) :
    Calls Try.prog 42 #[lv, .func (.func 38) #[] #[.pointer (some ⟨b, 0, none⟩)]] w fun e w' => e = .returned (.int .i64 (-1)) ∧ Below w.heap.size w w' := by
  obtain ⟨la, lc, rfl, -, -, HL⟩ := hl.allD
  rw [hn] at HL ⊢
  have HC : Hid (∀ w' j, Below w.heap.size w w' → j < n → Calls Try.prog 38 #[.int .i64 (l.getD j 0), .pointer (some ⟨b, 0, none⟩)] w' fun e w'' => e = .returned (.bool false) ∧ Below w'.heap.size w' w'') := hide fun w' j hw hj =>
    sound1_any q v tv nv cv (l.getD j 0) b w' (hv.below hw) ⟨(hw.cell hb).trans hc.1, (hw.cell hb).trans hc.2.1, (hw.cell hb).trans hc.2.2.1, (hw.cell hb).trans hc.2.2.2⟩ (hld _ (Sp.getD_mem (by rw [hn]; exact hj)))
  obtain ⟨P, hP⟩ : ∃ P : Ending → World → Prop, P = fun e w' => e = .returned (.int .i64 (-1)) ∧ Below w.heap.size w w' := ⟨_, rfl⟩
  rw [← hP]
  have HP := hide hP
  clear hP hl hv hld hc hn
  go_enter Try.func42, Try.ntmps42
  go_wp2
  go_loopg [8] n (fun g s8 wr => ∃ k : Nat, k + g = n ∧ s8 = .int .i64 (k : Int) ∧ Hid (Below w.heap.size w wr))
  case atStart => exact ⟨0, by omega, rfl, hide (Below.refl _ _)⟩
  case round =>
    obtain ⟨k, hk, rfl, HB⟩ := hrel
    cases gk with
    | zero =>
      obtain rfl : k = n := by omega
      go_wp2
      rw [unhide HP]
      exact ⟨by rfl, unhide HB⟩
    | succ g' =>
      have hlt : k < n := by omega
      have hltI : (k : Int) < (n : Int) := by omega
      obtain ⟨b', o, rfl, -, hcx⟩ := unhide HL k hlt
      have c1 := hcx wr (unhide HB)
      have HCl := hide (unhide HC wr k (unhide HB) hlt)
      generalize l.getD k 0 = z at *
      clear hcx
      go_wp2_with fail
      go_at_call 38
      refine (unhide HCl).mono ?_
      rintro e w2 ⟨rfl, hb2⟩
      have HB2 := hide ((unhide HB).trans (hb2.mono (unhide HB).size))
      clear hb2 HCl HB c1
      go_wp2
      go_roundg g'
      case rel => exact ⟨k + 1, by omega, by go_num, HB2⟩
      case measure => omega
set_option maxRecDepth 100000 in
set_option maxHeartbeats 1000000 in
theorem containsSound_any (q : Sp.Net) (l : List Int) (v tv nv cv lv : Value) (b n : Nat) (w : World) (hv : NetI w v q tv nv cv) (hl : Ints w lv l) (hn : l.length = n) (h240 : n ≤ 1000) (hld : ∀ x ∈ l, 0 ≤ x ∧ x < q.n) (hb : b < w.heap.size)
    (hc : w.cell? ⟨b, 0, none⟩ = some (.int .i64 q.n) ∧ w.cell? ⟨b, 1, none⟩ = some tv ∧ w.cell? ⟨b, 2, none⟩ = some nv ∧ w.cell? ⟨b, 3, none⟩ = some cv) :
    Calls Try.prog 37 #[lv, .func (.func 38) #[] #[.pointer (some ⟨b, 0, none⟩)]] w fun e w' => e = .returned (.bool false) ∧ Below w.heap.size w w' := by
  have HL := hide (indexSound_any q l v tv nv cv lv b n w hv hl hn h240 hld hb hc)
  clear hv hl hn hld hc
  go_enter Try.func37, Try.ntmps37
  go_wp2_with fail
  go_at_call 42
  refine (unhide HL).mono ?_
  rintro e w2 ⟨rfl, hb2⟩
  have HB := hide hb2
  clear hb2
  go_wp2
  go_ret
  exact ⟨by rfl, unhide HB⟩
set_option maxRecDepth 100000 in
set_option maxHeartbeats 2000000 in
theorem sound_any (q : Sp.Net) (v tv nv cv : Value) (w : World) (hv : NetI w v q tv nv cv) (hev : q.tail.length % 2 = 0) (h240 : q.tail.length ≤ 240) (hn : q.n ≤ ((q.tail.length / 2 : Nat) : Int) + 1) (hT : ∀ x ∈ q.tail, 0 ≤ x ∧ x < q.n) :
    Calls Try.prog 28 #[v] w fun e w' => e = .returned (.bool true) ∧ Below w.heap.size w w' := by
  have hv' := hv
  obtain ⟨rfl, h1, h2, h3⟩ := hv
  obtain ⟨ta, tc, rfl, -, -⟩ := h1.form
  obtain ⟨na, nc, rfl, -, -⟩ := h2.form
  obtain ⟨ca, cc, rfl, -, -⟩ := h3.form
  obtain ⟨W1, hW1⟩ : ∃ W1, W1 = w.alloc (.cells #[.int .i64 q.n, .slice ta q.tail.length tc, .slice na q.next.length nc, .slice ca q.cap.length cc] 25) := ⟨_, rfl⟩
  have HBX := hide (box_new w q.n (.slice ta q.tail.length tc) (.slice na q.next.length nc) (.slice ca q.cap.length cc))
  rw [← hW1] at HBX
  have hb1 : Below w.heap.size w W1 := by rw [hW1]; exact (Below.refl _ w).alloc (Nat.le_refl _) _
  have hs1 : W1.heap.size = w.heap.size + 1 := by rw [hW1]; simp
  obtain ⟨x0, x1, x2, x3, -⟩ := unhide HBX W1 (Below.refl _ _)
  have HC := hide (containsSound_any q q.tail _ _ _ _ (.slice ta q.tail.length tc) w.heap.size q.tail.length W1 (hv'.below hb1) (h1.below hb1) rfl (by omega) hT (by omega) ⟨x0, x1, x2, x3⟩)
  have HB : Hid (∀ w', Below W1.heap.size W1 w' → Below w.heap.size w w') := hide fun w' hb => hb1.trans (hb.mono (by omega))
  obtain ⟨m, hm⟩ : ∃ m, q.tail.length = 2 * m := ⟨q.tail.length / 2, by omega⟩
  have hdv : ((q.tail.length : Nat) : Int).tdiv 2 = (m : Int) := by
    rw [hm]
    have := Int.ofNat_tdiv (2 * m) 2
    rw [Nat.mul_div_cancel_left m (by decide)] at this
    exact this.symm
  have hml : IntKind.i64.wrap (2 * (m : Int)) = ((q.tail.length : Nat) : Int) := by rw [IntKind.wrap_i64]; omega
  have hmw : IntKind.i64.wrap (m : Int) = (m : Int) := by rw [IntKind.wrap_i64]; omega
  have hne : (((q.tail.length : Nat) : Int) != ((q.tail.length : Nat) : Int)) = false := by simp
  have had : IntKind.i64.wrap ((m : Int) + 1) = (m : Int) + 1 := by rw [IntKind.wrap_i64]; omega
  have hgt : ¬ (m : Int) + 1 < q.n := by omega
  have hgd : decide ((m : Int) + 1 < q.n) = false := decide_eq_false hgt
  clear hv' h1 h2 h3 hT hm hb1 hs1 hev
  subst hW1
  go_enter Try.func28, Try.ntmps28
  go_wp2_with fail
  go_at_call 37
  refine (unhide HC).mono ?_
  rintro e w2 ⟨rfl, hb2⟩
  have HB2 := hide (unhide HB _ hb2)
  clear hb2 x0 x1 x2 x3 HC
  go_wp2
  go_ret
  exact ⟨by rfl, unhide HB2⟩
end Go.Proofs.Ytenffkplneimlaa


/- The reference's Left (P401). -/
namespace Go.Proofs.Ytenffkplneimlaa
open Go Go.RowKit

/-- Is an edge's dart among the first j of the row? -/
def Sp.usedB (up : List Int) (d : Nat) : Nat → Bool
  | 0 => false
  | j + 1 => Sp.usedB up d j || up.getD j 0 == (d : Int) || up.getD j 0 == (d : Int) + 1
def Sp.leftGo (up : List Int) : Nat → Nat → List Int → List Int
  | 0, _, out => out
  | g + 1, e, out => if Sp.usedB up (2 * e) up.length = true then Sp.leftGo up g (e + 1) out else Sp.leftGo up g (e + 1) (out ++ [((2 * e : Nat) : Int)])
/-- The edges that are left. -/
def Sp.leftL (q : Sp.Net) (up : List Int) : List Int := Sp.leftGo up (q.tail.length / 2) 0 []
set_option maxRecDepth 100000 in
set_option maxHeartbeats 4000000 in
theorem left2_any (q : Sp.Net) (U : List Int) (v tv nv cv uv : Value) (w : World) (hv : NetI w v q tv nv cv) (hu : Ints w uv U) (hev : q.tail.length % 2 = 0) (h240 : q.tail.length ≤ 240) (hU : U.length ≤ 240) :
    Calls Try.prog 17 #[v, uv] w fun e w' => ∃ lv, e = .returned lv ∧ OwnI w' w.heap.size lv (Sp.leftL q U) ∧ Below w.heap.size w w' := by
  obtain ⟨rfl, h1, h2, h3⟩ := hv
  obtain ⟨ta, tc, rfl, -, -⟩ := h1.form
  obtain ⟨na, nc, rfl, -, -⟩ := h2.form
  obtain ⟨ca, cc, rfl, -, -⟩ := h3.form
  obtain ⟨ua, uc, rfl, -, -, HU⟩ := hu.allD
  clear h1 h2 h3 hu
  have HBX := hide (box_new w q.n (.slice ta q.tail.length tc) (.slice na q.next.length nc) (.slice ca q.cap.length cc))
  obtain ⟨W1, hW1⟩ : ∃ W1, W1 = w.alloc (.cells #[.int .i64 q.n, .slice ta q.tail.length tc, .slice na q.next.length nc, .slice ca q.cap.length cc] 25) := ⟨_, rfl⟩
  rw [← hW1] at HBX
  have hb1 : Below w.heap.size w W1 := by rw [hW1]; exact (Below.refl _ w).alloc (Nat.le_refl _) _
  have hs1 : W1.heap.size = w.heap.size + 1 := by rw [hW1]; simp
  have HW : Hid (∀ w', Below (w.heap.size + 1) W1 w' → Below w.heap.size w w') := hide fun w' hb => hb1.trans (hb.mono (by omega))
  obtain ⟨m, hm⟩ : ∃ m, q.tail.length = 2 * m := ⟨q.tail.length / 2, by omega⟩
  have HL : Hid (Sp.leftL q U = Sp.leftGo U m 0 []) := hide (by unfold Sp.leftL; rw [hm, Nat.mul_div_cancel_left m (by decide)])
  generalize Sp.leftL q U = R at *
  obtain ⟨P, hP⟩ : ∃ P : Ending → World → Prop, P = fun e w' => ∃ lv, e = .returned lv ∧ OwnI w' w.heap.size lv R ∧ Below w.heap.size w w' := ⟨_, rfl⟩
  rw [← hP]
  have HP := hide hP
  rw [hm] at HBX h240 hW1 ⊢
  have HB0 : Hid (Below (w.heap.size + 1) W1 W1 ∧ OwnI W1 (w.heap.size + 1) (.slice none 0 0) [] ∧ R = Sp.leftGo U m 0 []) := hide ⟨Below.refl _ _, ⟨by simp, .inl ⟨rfl, rfl⟩⟩, unhide HL⟩
  clear hP hm hev hb1 hs1 HL
  subst hW1
  go_enter Try.func17, Try.ntmps17
  go_wp2
  generalize w.alloc (.cells #[.int .i64 q.n, .slice ta (2 * m) tc, .slice na q.next.length nc, .slice ca q.cap.length cc] 25) = W1 at *
  go_loopg [5, 6] m (fun g s5 s6 wr => ∃ (e : Nat) (out : List Int) (oa : Option Addr) (oc : Nat), e + g = m ∧ out.length ≤ e ∧ s5 = .slice oa out.length oc ∧ s6 = .int .i64 ((2 * e : Nat) : Int) ∧ Hid (Below (w.heap.size + 1) W1 wr ∧ OwnI wr (w.heap.size + 1) (.slice oa out.length oc) out ∧ R = Sp.leftGo U g e out))
  case atStart => exact ⟨0, [], none, 0, by omega, by simp, rfl, rfl, HB0⟩
  case round =>
    clear HB0
    obtain ⟨e, out, oa, oc, heg, hol, rfl, rfl, HI⟩ := hrel
    obtain ⟨x0, x1, x2, x3, hszr⟩ := unhide HBX wr (unhide HI).1
    cases gk with
    | zero =>
      obtain rfl : e = m := by omega
      have hge : ¬ ((2 * e : Nat) : Int) < ((2 * e : Nat) : Int) := by omega
      have HF := hide (And.intro (own_base (unhide HI).2.1 (show w.heap.size ≤ w.heap.size + 1 by omega)) (unhide HW _ (unhide HI).1))
      have HR : Hid (R = out) := hide (unhide HI).2.2
      clear HI
      go_wp2
      rw [unhide HP]
      exact ⟨_, rfl, by rw [unhide HR]; exact (unhide HF).1, (unhide HF).2⟩
    | succ g' =>
      have hlt : 2 * e < 2 * m := by omega
      have hltI : ((2 * e : Nat) : Int) < ((2 * m : Nat) : Int) := by omega
      have HR : Hid (R = if Sp.usedB U (2 * e) U.length = true then Sp.leftGo U g' (e + 1) out else Sp.leftGo U g' (e + 1) (out ++ [((2 * e : Nat) : Int)])) := hide (unhide HI).2.2
      have HB := hide (And.intro (unhide HI).1 (unhide HI).2.1)
      have hw2 : IntKind.i64.wrap (((2 * e : Nat) : Int) + 2) = ((2 * (e + 1) : Nat) : Int) := by rw [IntKind.wrap_i64]; omega
      have hw1 : IntKind.i64.wrap (((2 * e : Nat) : Int) + 1) = ((2 * e : Nat) : Int) + 1 := by rw [IntKind.wrap_i64]; omega
      clear HI
      generalize hd2 : 2 * e = d2 at *
      have Hd2 := hide hd2
      clear hd2
      go_wp2
      clear x0 x1 x2 x3
      go_loopg [7, 8] U.length (fun g2 s7 s8 wr' => ∃ j : Nat, j + g2 = U.length ∧ s8 = .int .i64 (j : Int) ∧ s7 = .bool (Sp.usedB U d2 j) ∧ wr' = wr)
      case atStart => exact ⟨0, by omega, rfl, rfl, rfl⟩
      case round =>
        obtain ⟨j, hjg, rfl, rfl, hwr⟩ := hrel
        subst hwr
        cases gk with
        | succ g2 =>
          have hjl : j < U.length := by omega
          have hjI : (j : Int) < (U.length : Int) := by omega
          obtain ⟨b, o, rfl, -, hcx⟩ := unhide HU j hjl
          have c1 := hcx _ (unhide HW _ (unhide HB).1)
          have hs : Sp.usedB U d2 (j + 1) = (Sp.usedB U d2 j || U.getD j 0 == (d2 : Int) || U.getD j 0 == (d2 : Int) + 1) := rfl
          have HS := hide hs
          clear hcx hs
          generalize U.getD j 0 = z at *
          generalize Sp.usedB U d2 j = bj at *
          cases bj with
          | true =>
            go_wp2
            go_roundg g2
            case rel => exact ⟨j + 1, by omega, by go_num, by rw [unhide HS]; simp, rfl⟩
            case measure => omega
          | false =>
            by_cases hz1 : z = (d2 : Int)
            · have e1 : (z == (d2 : Int)) = true := by rw [hz1]; exact beq_self_eq_true _
              have HS2 : Hid (Sp.usedB U d2 (j + 1) = true) := hide (by rw [unhide HS, e1]; rfl)
              clear hz1
              go_wp2
              go_roundg g2
              case rel => exact ⟨j + 1, by omega, by go_num, by rw [unhide HS2], rfl⟩
              case measure => omega
            · have e1 : (z == (d2 : Int)) = false := beq_eq_false_iff_ne.2 hz1
              by_cases hz2 : z = (d2 : Int) + 1
              · have e2 : (z == (d2 : Int) + 1) = true := by rw [hz2]; exact beq_self_eq_true _
                have HS2 : Hid (Sp.usedB U d2 (j + 1) = true) := hide (by rw [unhide HS, e1, e2]; rfl)
                clear hz1 hz2
                go_wp2
                go_roundg g2
                case rel => exact ⟨j + 1, by omega, by go_num, by rw [unhide HS2], rfl⟩
                case measure => omega
              · have e2 : (z == (d2 : Int) + 1) = false := beq_eq_false_iff_ne.2 hz2
                have HS2 : Hid (Sp.usedB U d2 (j + 1) = false) := hide (by rw [unhide HS, e1, e2]; rfl)
                clear hz1 hz2
                go_wp2
                go_roundg g2
                case rel => exact ⟨j + 1, by omega, by go_num, by rw [unhide HS2], rfl⟩
                case measure => omega
        | zero =>
          obtain rfl : j = U.length := by omega
          generalize Sp.usedB U d2 U.length = bj at *
          cases bj with
          | true =>
            have HR2 : Hid (R = Sp.leftGo U g' (e + 1) out) := hide (by rw [unhide HR, if_pos (by simp)])
            go_wp2
            go_roundg g'
            case rel => exact ⟨e + 1, out, oa, oc, by omega, by omega, rfl, by congr 1 <;> omega, hide ⟨(unhide HB).1, (unhide HB).2, unhide HR2⟩⟩
            case measure => omega
          | false =>
            have HR2 : Hid (R = Sp.leftGo U g' (e + 1) (out ++ [(d2 : Int)])) := hide (by rw [unhide HR, if_neg (by simp)])
            go_wp2_with (at_builtin; refine wpList_app (w := wr.alloc (.cells #[.int .i64 (d2 : Int)] 3)) rfl _ _ rfl (w.heap.size + 1) _ _ out [(d2 : Int)] rfl rfl (World.ownsRow.alloc (unhide HB).2 _) (OwnI.ints (own_lit wr 0 _ 1 [(d2 : Int)] rfl rfl (by omega) (by simp))) (out.length + 1) (by simp) (by omega) (by simp; omega) ?_)
            intro a6 c6 w6 hown6 hb6 hgr6
            have hb6' : Below (w.heap.size + 1) W1 w6 := ((unhide HB).1.alloc hszr _).trans hb6
            have hl6 : (out ++ [(d2 : Int)]).length = out.length + 1 := by simp
            have HO6 := hide hown6
            clear hgr6 hb6 hown6 HB
            go_wp2
            go_roundg g'
            case rel => exact ⟨e + 1, out ++ [(d2 : Int)], a6, c6, by omega, by omega, by rw [hl6], by congr 1 <;> omega, hide ⟨hb6', by rw [hl6]; exact unhide HO6, unhide HR2⟩⟩
            case measure => omega
end Go.Proofs.Ytenffkplneimlaa


/- The reference's Way (P401). -/
namespace Go.Proofs.Ytenffkplneimlaa
open Go Go.RowKit

/-- The way from v on, g steps at most. -/
def Sp.wayGo (T up : List Int) : Nat → Nat → List Int → Option (List Int)
  | 0, v, out => if 0 ≤ up.getD v 0 then none else some out
  | g + 1, v, out => if 0 ≤ up.getD v 0 then Sp.wayGo T up g (T.getD (Sp.oth (up.getD v 0).toNat) 0).toNat (out ++ [up.getD v 0]) else some out
theorem Sp.wayGo_neg (T up : List Int) (g v : Nat) (out : List Int) (h : ¬ 0 ≤ up.getD v 0) : Sp.wayGo T up g v out = some out := by
  cases g <;> rw [Sp.wayGo, if_neg h]
set_option maxRecDepth 100000 in
set_option maxHeartbeats 4000000 in
theorem way2_any (q : Sp.Net) (U : List Int) (x G : Nat) (R : List Int) (v tv nv cv uv : Value) (w : World) (hv : NetI w v q tv nv cv) (hu : Ints w uv U) (hev : q.tail.length % 2 = 0) (h240 : q.tail.length ≤ 240) (hx : x < U.length) (hT : ∀ y ∈ q.tail, 0 ≤ y ∧ y < (U.length : Int)) (hup : ∀ z ∈ U, z < (q.tail.length : Int)) (hG : G ≤ 240) (hR : Sp.wayGo q.tail U G x [] = some R) :
    Calls Try.prog 19 #[v, uv, .int .i64 (x : Int)] w fun e w' => ∃ lv, e = .returned lv ∧ OwnI w' w.heap.size lv R ∧ Below w.heap.size w w' := by
  have hv' := hv
  obtain ⟨rfl, h1, h2, h3⟩ := hv
  obtain ⟨ta, tc, rfl, -, -⟩ := h1.form
  obtain ⟨na, nc, rfl, -, -⟩ := h2.form
  obtain ⟨ca, cc, rfl, -, -⟩ := h3.form
  obtain ⟨ua, uc, rfl, -, -, HU⟩ := hu.allD
  clear h1 h2 h3 hu
  have HBX := hide (box_new w q.n (.slice ta q.tail.length tc) (.slice na q.next.length nc) (.slice ca q.cap.length cc))
  obtain ⟨W1, hW1⟩ : ∃ W1, W1 = w.alloc (.cells #[.int .i64 q.n, .slice ta q.tail.length tc, .slice na q.next.length nc, .slice ca q.cap.length cc] 25) := ⟨_, rfl⟩
  rw [← hW1] at HBX
  have hb1 : Below w.heap.size w W1 := by rw [hW1]; exact (Below.refl _ w).alloc (Nat.le_refl _) _
  have hs1 : W1.heap.size = w.heap.size + 1 := by rw [hW1]; simp
  have HW : Hid (∀ w', Below (w.heap.size + 1) W1 w' → Below w.heap.size w w') := hide fun w' hb => hb1.trans (hb.mono (by omega))
  have HV : Hid (∀ w', Below (w.heap.size + 1) W1 w' → NetI w' (.agg #[.int .i64 q.n, .slice ta q.tail.length tc, .slice na q.next.length nc, .slice ca q.cap.length cc]) q (.slice ta q.tail.length tc) (.slice na q.next.length nc) (.slice ca q.cap.length cc)) := hide fun w' hb => by
    have hb0 := unhide HW w' hb
    exact ⟨rfl, hv'.tail.below hb0, hv'.next.below hb0, hv'.cap.below hb0⟩
  have HHd := hide (fun (y : Nat) w' (hy : y < q.tail.length) (hb : Below (w.heap.size + 1) W1 w') => head2_any q _ _ _ _ y w' (unhide HV w' hb) hy hev h240)
  have HTb := hide hT
  have HUb := hide hup
  obtain ⟨P, hP⟩ : ∃ P : Ending → World → Prop, P = fun e w' => ∃ lv, e = .returned lv ∧ OwnI w' w.heap.size lv R ∧ Below w.heap.size w w' := ⟨_, rfl⟩
  rw [← hP]
  have HP := hide hP
  have HB0 : Hid (Below (w.heap.size + 1) W1 W1 ∧ OwnI W1 (w.heap.size + 1) (.slice none 0 0) [] ∧ Sp.wayGo q.tail U G x [] = some R) := hide ⟨Below.refl _ _, ⟨by simp, .inl ⟨rfl, rfl⟩⟩, hR⟩
  have HO := hide (fun (y : Nat) (hy : y < q.tail.length) => oth_lt hy hev)
  clear hP hb1 hR hT hup hev HV hv'
  have HS1 := hide hs1
  clear hs1
  subst hW1
  go_enter Try.func19, Try.ntmps19
  go_wp2
  generalize w.alloc (.cells #[.int .i64 q.n, .slice ta q.tail.length tc, .slice na q.next.length nc, .slice ca q.cap.length cc] 25) = W1 at *
  go_loopg [2, 7] G (fun g s2 s7 wr => ∃ (x : Nat) (out : List Int) (oa : Option Addr) (oc : Nat), x < U.length ∧ out.length + g = G ∧ s2 = .int .i64 (x : Int) ∧ s7 = .slice oa out.length oc ∧ Hid (Below (w.heap.size + 1) W1 wr ∧ OwnI wr (w.heap.size + 1) (.slice oa out.length oc) out ∧ Sp.wayGo q.tail U g x out = some R))
  case atStart => exact ⟨x, [], none, 0, hx, by simp, rfl, rfl, HB0⟩
  case round =>
    clear HB0 hx
    clear x
    obtain ⟨x, out, oa, oc, hx, hog, rfl, rfl, HI⟩ := hrel
    have hxI : (x : Int) < (U.length : Int) := by omega
    have hszr := (unhide HBX wr (unhide HI).1).2.2.2.2
    obtain ⟨b, o, rfl, -, hcx⟩ := unhide HU x hx
    have HC := hide hcx
    have c1 := hcx _ (unhide HW _ (unhide HI).1)
    have hub := unhide HUb _ (Sp.getD_mem hx)
    clear hcx
    by_cases hz : 0 ≤ U.getD x 0
    · cases gk with
      | zero =>
        exfalso
        have := (unhide HI).2.2
        rw [Sp.wayGo, if_pos hz] at this
        cases this
      | succ g' =>
        have HR0 : Hid (Sp.wayGo q.tail U g' (q.tail.getD (Sp.oth (U.getD x 0).toNat) 0).toNat (out ++ [U.getD x 0]) = some R) := hide (by
          have := (unhide HI).2.2
          rw [Sp.wayGo, if_pos hz] at this
          exact this)
        obtain ⟨d, hd⟩ : ∃ d : Nat, U.getD x 0 = (d : Int) := ⟨(U.getD x 0).toNat, by omega⟩
        rw [hd] at c1 hub HC
        rw [hd, Int.toNat_natCast] at HR0
        clear hz hd
        have hdl : d < q.tail.length := by omega
        have hyb := unhide HTb _ (Sp.getD_mem (unhide HO d hdl))
        have HH := hide (fun w' hb => unhide HHd d w' hdl hb)
        obtain ⟨y, hy⟩ : ∃ y : Nat, q.tail.getD (Sp.oth d) 0 = (y : Int) := ⟨(q.tail.getD (Sp.oth d) 0).toNat, by omega⟩
        rw [hy] at hyb HH
        rw [hy, Int.toNat_natCast] at HR0
        clear hy
        have hge : (0 : Int) ≤ (d : Int) := by omega
        have hyl : y < U.length := by omega
        have HB := hide (And.intro (unhide HI).1 (unhide HI).2.1)
        clear HI
        go_wp2_with (at_builtin; refine wpList_app (w := wr.alloc (.cells #[.int .i64 (d : Int)] 3)) rfl _ _ rfl (w.heap.size + 1) _ _ out [(d : Int)] rfl rfl (World.ownsRow.alloc (unhide HB).2 _) (OwnI.ints (own_lit wr 0 _ 1 [(d : Int)] rfl rfl (by omega) (by simp))) (out.length + 1) (by simp) (by omega) (by simp; omega) ?_)
        intro a6 c6 w6 hown6 hb6 hgr6
        have hb6' : Below (w.heap.size + 1) W1 w6 := ((unhide HB).1.alloc hszr _).trans hb6
        have hl6 : (out ++ [(d : Int)]).length = out.length + 1 := by simp
        have HO6 := hide hown6
        have hs6 := (unhide HBX w6 hb6').2.2.2.2
        have HLow : Hid (∀ w', Below w6.heap.size w6 w' → Below (w.heap.size + 1) W1 w') := hide fun w' hb => hb6'.trans (hb.mono hs6)
        clear hgr6 hb6 hown6 HB c1
        obtain ⟨x0, x1, x2, x3, -⟩ := unhide HBX w6 hb6'
        have c1 := unhide HC _ (unhide HW _ hb6')
        clear hs6
        have hbr : Below w6.heap.size w6 w6.drew := (Below.refl _ _).drew
        go_upto_region 4 with fail
        clear x0 x1 x2 x3 c1
        go_region_held3 (fun w' => w'.cell? ⟨w.heap.size, 0, none⟩ = some (.int .i64 q.n) ∧ w'.cell? ⟨w.heap.size, 1, none⟩ = some (.slice ta q.tail.length tc) ∧ w'.cell? ⟨w.heap.size, 2, none⟩ = some (.slice na q.next.length nc) ∧ w'.cell? ⟨w.heap.size, 3, none⟩ = some (.slice ca q.cap.length cc) ∧ w'.cell? ⟨b, o + x, none⟩ = some (.int .i64 (d : Int)))
          (first
            | exact ⟨(unhide HBX _ (unhide HLow _ hb8)).1, (unhide HBX _ (unhide HLow _ hb8)).2.1, (unhide HBX _ (unhide HLow _ hb8)).2.2.1, (unhide HBX _ (unhide HLow _ hb8)).2.2.2.1, unhide HC _ (unhide HW _ (unhide HLow _ hb8))⟩
            | exact ⟨(unhide HBX _ (unhide HLow _ hbr)).1, (unhide HBX _ (unhide HLow _ hbr)).2.1, (unhide HBX _ (unhide HLow _ hbr)).2.2.1, (unhide HBX _ (unhide HLow _ hbr)).2.2.2.1, unhide HC _ (unhide HW _ (unhide HLow _ hbr))⟩)
          (first
            | (go_at_call 23
               refine (unhide HH _ (unhide HLow _ hbr)).mono ?_
               rintro e w8 ⟨rfl, hl8⟩
               have hb8 : Below w6.heap.size w6 w8 := hbr.trans hl8))
        all_goals
          go_wp2
          go_roundg g'
          case rel => exact ⟨y, out ++ [(d : Int)], a6, c6, hyl, by omega, rfl, by rw [hl6], hide ⟨unhide HLow _ hb8, by rw [hl6]; exact own_below (unhide HO6) hb8, unhide HR0⟩⟩
          case measure => omega
    · have HR0 : Hid (some out = some R) := hide (by rw [← (unhide HI).2.2, Sp.wayGo_neg _ _ _ _ _ hz])
      have HF := hide (And.intro (own_base (unhide HI).2.1 (show w.heap.size ≤ w.heap.size + 1 by omega)) (unhide HW _ (unhide HI).1))
      clear HI
      generalize U.getD x 0 = z at *
      go_wp2
      rw [unhide HP]
      exact ⟨_, rfl, by rw [← Option.some.inj (unhide HR0)]; exact (unhide HF).1, (unhide HF).2⟩
end Go.Proofs.Ytenffkplneimlaa


/- The reference's Right (P401). -/
namespace Go.Proofs.Ytenffkplneimlaa
open Go Go.RowKit

/-- Each vertex but the root has a dart of its own. -/
def Sp.edgesGo (T up : List Int) (root : Int) : Nat → Nat → Bool
  | 0, _ => true
  | g + 1, v => if (v : Int) = root ∨ (0 ≤ up.getD v 0 ∧ up.getD v 0 < (T.length : Int) ∧ T.getD (up.getD v 0).toNat 0 = (v : Int)) then Sp.edgesGo T up root g (v + 1) else false
/-- Is the root come to from w, in g steps at most? -/
def Sp.reachGo (T up : List Int) (root : Int) : Nat → Nat → Bool
  | 0, w => decide ((w : Int) = root)
  | g + 1, w => if (w : Int) = root then true else Sp.reachGo T up root g (T.getD (Sp.oth (up.getD w 0).toNat) 0).toNat
def Sp.chainsGo (T up : List Int) (root : Int) (N : Nat) : Nat → Nat → Bool
  | 0, _ => true
  | g + 1, v => if Sp.reachGo T up root (N + 1) v = true then Sp.chainsGo T up root N g (v + 1) else false
/-- Right (P401). -/
def Sp.rightB (q : Sp.Net) (up : List Int) (root : Int) : Bool :=
  decide ((up.length : Int) = q.n ∧ 0 ≤ root ∧ root < q.n ∧ up.getD root.toNat 0 = -1) && (Sp.edgesGo q.tail up root q.n.toNat 0 && Sp.chainsGo q.tail up root q.n.toNat q.n.toNat 0)
theorem Sp.reachGo_self (T up : List Int) (root : Int) (g w : Nat) (h : (w : Int) = root) : Sp.reachGo T up root g w = true := by
  cases g
  · rw [Sp.reachGo, decide_eq_true h]
  · rw [Sp.reachGo, if_pos h]
set_option maxRecDepth 100000 in
set_option maxHeartbeats 4000000 in
theorem right2_no (q : Sp.Net) (U : List Int) (root : Int) (v tv nv cv uv : Value) (w : World) (hv : NetI w v q tv nv cv) (hu : Ints w uv U) (hno : ¬ ((U.length : Int) = q.n ∧ 0 ≤ root ∧ root < q.n ∧ U.getD root.toNat 0 = -1)) :
    Calls Try.prog 20 #[v, uv, .int .i64 root] w fun e w' => e = .returned (.bool false) ∧ Below w.heap.size w w' := by
  have hv' := hv
  obtain ⟨rfl, h1, h2, h3⟩ := hv
  obtain ⟨ta, tc, rfl, -, -, HT⟩ := h1.allD
  obtain ⟨na, nc, rfl, -, -⟩ := h2.form
  obtain ⟨ca, cc, rfl, -, -⟩ := h3.form
  obtain ⟨ua, uc, rfl, -, -, HU⟩ := hu.allD
  clear h1 h2 h3 hu
  have HBX := hide (box_new w q.n (.slice ta q.tail.length tc) (.slice na q.next.length nc) (.slice ca q.cap.length cc))
  obtain ⟨W1, hW1⟩ : ∃ W1, W1 = w.alloc (.cells #[.int .i64 q.n, .slice ta q.tail.length tc, .slice na q.next.length nc, .slice ca q.cap.length cc] 25) := ⟨_, rfl⟩
  rw [← hW1] at HBX
  have hb1 : Below w.heap.size w W1 := by rw [hW1]; exact (Below.refl _ w).alloc (Nat.le_refl _) _
  have HW : Hid (∀ w', Below (w.heap.size + 1) W1 w' → Below w.heap.size w w') := hide fun w' hb => hb1.trans (hb.mono (by omega))
  obtain ⟨x0, x1, x2, x3, -⟩ := unhide HBX W1 (Below.refl _ _)
  have HF := hide hb1
  clear hb1 HBX HT
  by_cases hA : (U.length : Int) = q.n
  · have eA : ((U.length : Int) == q.n) = true := by rw [hA]; exact beq_self_eq_true _
    by_cases hB : 0 ≤ root
    · have hB' : ¬ root < 0 := by omega
      by_cases hC : root < q.n
      · have hC' : ¬ q.n ≤ root := by omega
        have hz : U.getD root.toNat 0 ≠ -1 := fun e => hno ⟨hA, hB, hC, e⟩
        obtain ⟨r, rfl⟩ : ∃ r : Nat, root = (r : Int) := ⟨root.toNat, by omega⟩
        rw [Int.toNat_natCast] at hz
        have hrl : r < U.length := by omega
        have hrI : (r : Int) < (U.length : Int) := by omega
        obtain ⟨b, o, rfl, -, hcx⟩ := unhide HU r hrl
        have c1 := hcx _ (unhide HW _ (Below.refl _ _))
        have c2 := hcx _ (unhide HW _ (Below.refl _ _).drew)
        have ez : (U.getD r 0 == -1) = false := beq_eq_false_iff_ne.2 hz
        clear hcx HU hno HW
        generalize U.getD r 0 = z at *
        subst hW1
        go_enter Try.func20, Try.ntmps20
        go_wp2
        go_ret
        exact ⟨rfl, unhide HF⟩
      · have hC' : q.n ≤ root := by omega
        clear hno HU HW
        subst hW1
        go_enter Try.func20, Try.ntmps20
        go_wp2
        go_ret
        exact ⟨rfl, unhide HF⟩
    · have hB' : root < 0 := by omega
      clear hno HU HW
      subst hW1
      go_enter Try.func20, Try.ntmps20
      go_wp2
      go_ret
      exact ⟨rfl, unhide HF⟩
  · have eA : ((U.length : Int) == q.n) = false := beq_eq_false_iff_ne.2 hA
    clear hno HU HW
    subst hW1
    go_enter Try.func20, Try.ntmps20
    go_wp2
    go_ret
    exact ⟨rfl, unhide HF⟩
end Go.Proofs.Ytenffkplneimlaa


/- Package tree: leaves. -/
namespace Go.Proofs.Ytenffkplneimlaa
open Go Go.RowKit

set_option maxRecDepth 100000 in
set_option maxHeartbeats 4000000 in
theorem leaves_any (q : Sp.Net) (U : List Int) (r N : Nat) (v tv nv cv uv : Value) (w : World) (hv : NetI w v q tv nv cv) (hu : Ints w uv U) (hN : q.n = (N : Int)) (hN2 : N ≤ 1000) (hr : r < N) (_h240 : q.tail.length ≤ 240) :
    Calls Try.prog 33 #[v, uv, .int .i64 (r : Int)] w fun e w' => e = .returned (.bool (decide (U.length = N) && (decide (U.getD r 0 = -1) && Sp.edgesGo q.tail U (r : Int) N 0))) ∧ Below w.heap.size w w' := by
  obtain ⟨rfl, h1, h2, h3⟩ := hv
  obtain ⟨ta, tc, rfl, -, -, HT⟩ := h1.allD
  obtain ⟨na, nc, rfl, -, -⟩ := h2.form
  obtain ⟨ca, cc, rfl, -, -⟩ := h3.form
  obtain ⟨ua, uc, rfl, -, -, HU⟩ := hu.allD
  clear h1 h2 h3 hu
  rw [hN]
  obtain ⟨x0, x1, x2, x3, -⟩ := box_new w (N : Int) (.slice ta q.tail.length tc) (.slice na q.next.length nc) (.slice ca q.cap.length cc) _ (Below.refl _ _)
  have hb1 : Below w.heap.size w (w.alloc (.cells #[.int .i64 (N : Int), .slice ta q.tail.length tc, .slice na q.next.length nc, .slice ca q.cap.length cc] 25)) := (Below.refl _ w).alloc (Nat.le_refl _) _
  have HF := hide hb1
  obtain ⟨P, hP⟩ : ∃ P : Ending → World → Prop, P = fun e w' => e = .returned (.bool (decide (U.length = N) && (decide (U.getD r 0 = -1) && Sp.edgesGo q.tail U (r : Int) N 0))) ∧ Below w.heap.size w w' := ⟨_, rfl⟩
  rw [← hP]
  have HP := hide hP
  clear hP hb1
  by_cases hl : U.length = N
  · have hrl : r < U.length := by omega
    obtain ⟨b, o, rfl, -, hcx⟩ := unhide HU r hrl
    have c1 := hcx _ (unhide HF)
    clear hcx
    have hrI : (r : Int) < (N : Int) := by omega
    have eL : ((N : Int) == (N : Int)) = true := beq_self_eq_true _
    have HU2 : Hid (∀ k, k < N → (w.alloc (.cells #[.int .i64 (N : Int), .slice ta q.tail.length tc, .slice na q.next.length nc, .slice ca q.cap.length cc] 25)).cell? ⟨b, o + k, none⟩ = some (.int .i64 (U.getD k 0))) := hide fun k hk => by
      obtain ⟨b', o', e1, -, h'⟩ := unhide HU k (by omega)
      injection e1 with e1
      injection e1 with e1 e2
      subst e1 e2
      exact h' _ (unhide HF)
    have HT2 : Hid (∀ k, k < q.tail.length → ∃ tb tt, ta = some ⟨tb, tt, none⟩ ∧ (w.alloc (.cells #[.int .i64 (N : Int), .slice ta q.tail.length tc, .slice na q.next.length nc, .slice ca q.cap.length cc] 25)).cell? ⟨tb, tt + k, none⟩ = some (.int .i64 (q.tail.getD k 0))) := hide fun k hk => by
      obtain ⟨b', o', e1, -, h'⟩ := unhide HT k hk
      exact ⟨b', o', e1, h' _ (unhide HF)⟩
    have HPL : Hid (decide (U.length = N) = true) := hide (decide_eq_true hl)
    clear HU HT hrl
    rw [hl]
    by_cases hz : U.getD r 0 = -1
    · have HPZ := hide (decide_eq_true hz)
      rw [hz] at c1
      clear hz
      obtain ⟨E, hE⟩ : ∃ E, E = Sp.edgesGo q.tail U (r : Int) N 0 := ⟨_, rfl⟩
      rw [← hE] at HP
      have HE := hide hE
      clear hE
      go_enter Try.func33, Try.ntmps33
      go_wp2
      generalize w.alloc (.cells #[.int .i64 (N : Int), .slice ta q.tail.length tc, .slice na q.next.length nc, .slice ca q.cap.length cc] 25) = W1 at *
      go_loopg [23] N (fun g s23 wr => ∃ v : Nat, v + g = N ∧ s23 = .int .i64 (v : Int) ∧ wr = W1 ∧ Hid (E = Sp.edgesGo q.tail U (r : Int) g v))
      case atStart => exact ⟨0, by omega, rfl, rfl, HE⟩
      case round =>
        clear HE c1
        obtain ⟨v, hvg, rfl, rfl, HI⟩ := hrel
        cases gk with
        | zero =>
          obtain rfl : v = N := by omega
          have HE : Hid (E = true) := hide (unhide HI)
          have hge : ¬ (v : Int) < (v : Int) := by omega
          clear HI
          go_wp2
          rw [unhide HP, unhide HPL, unhide HPZ, unhide HE]
          exact ⟨rfl, unhide HF⟩
        | succ g' =>
          have hlt : v < N := by omega
          have hltI : (v : Int) < (N : Int) := by omega
          have c1 := unhide HU2 v hlt
          have HR : Hid (E = if (v : Int) = (r : Int) ∨ (0 ≤ U.getD v 0 ∧ U.getD v 0 < (q.tail.length : Int) ∧ q.tail.getD (U.getD v 0).toNat 0 = (v : Int)) then Sp.edgesGo q.tail U (r : Int) g' (v + 1) else false) := hide (unhide HI)
          clear HI
          by_cases h1 : v = r
          · have HR2 : Hid (E = Sp.edgesGo q.tail U (r : Int) g' (v + 1)) := hide (by rw [unhide HR, if_pos (.inl (by rw [h1]))])
            clear HR
            subst h1
            generalize U.getD v 0 = z at *
            go_wp2
            go_roundg g'
            case rel => exact ⟨v + 1, by omega, by go_num, rfl, HR2⟩
            case measure => omega
          · have h1I : (v : Int) ≠ (r : Int) := by omega
            have e1 : ((v : Int) == (r : Int)) = false := beq_eq_false_iff_ne.2 h1I
            have eb : ((v : Int) != (r : Int)) = true := by simp only [bne, e1]; rfl
            have e2 : (v == r) = false := beq_eq_false_iff_ne.2 h1
            generalize U.getD v 0 = z at *
            by_cases h2 : z < 0
            · have HR2 : Hid (E = false) := hide (by rw [unhide HR, if_neg (by rintro (h | h) <;> omega)])
              clear HR
              go_wp2
              rw [unhide HP, unhide HPL, unhide HPZ, unhide HR2]
              exact ⟨rfl, unhide HF⟩
            · by_cases h3 : (q.tail.length : Int) ≤ z
              · have HR2 : Hid (E = false) := hide (by rw [unhide HR, if_neg (by rintro (h | h) <;> omega)])
                clear HR
                go_wp2
                rw [unhide HP, unhide HPL, unhide HPZ, unhide HR2]
                exact ⟨rfl, unhide HF⟩
              · obtain ⟨d, rfl⟩ : ∃ d : Nat, z = (d : Int) := ⟨z.toNat, by omega⟩
                rw [Int.toNat_natCast] at HR
                have hdl : d < q.tail.length := by omega
                have hdI : (d : Int) < (q.tail.length : Int) := by omega
                obtain ⟨tb, tt, rfl, ct⟩ := unhide HT2 d hdl
                generalize q.tail.getD d 0 = t at *
                by_cases h4 : t = (v : Int)
                · have HR2 : Hid (E = Sp.edgesGo q.tail U (r : Int) g' (v + 1)) := hide (by rw [unhide HR, if_pos (.inr ⟨by omega, hdI, h4⟩)])
                  clear HR
                  subst h4
                  go_wp2
                  go_roundg g'
                  case rel => exact ⟨v + 1, by omega, by go_num, rfl, HR2⟩
                  case measure => omega
                · have HR2 : Hid (E = false) := hide (by rw [unhide HR, if_neg (fun h => h.elim h1I (fun h => h4 h.2.2))])
                  have e4 : (t == (v : Int)) = false := beq_eq_false_iff_ne.2 h4
                  have eb4 : (t != (v : Int)) = true := by simp only [bne, e4]; rfl
                  clear HR
                  go_wp2
                  rw [unhide HP, unhide HPL, unhide HPZ, unhide HR2]
                  exact ⟨rfl, unhide HF⟩
    · have HPZ := hide (decide_eq_false hz)
      have ez : (U.getD r 0 == -1) = false := beq_eq_false_iff_ne.2 hz
      clear HU2 HT2 hz
      generalize U.getD r 0 = z at *
      go_enter Try.func33, Try.ntmps33
      go_wp2
      rw [unhide HP, unhide HPL, unhide HPZ]
      exact ⟨rfl, unhide HF⟩
  · have HPL : Hid (decide (U.length = N) = false) := hide (decide_eq_false hl)
    have eL : ((U.length : Int) == (N : Int)) = false := beq_eq_false_iff_ne.2 (by omega)
    have eL2 : (U.length == N) = false := beq_eq_false_iff_ne.2 hl
    clear HU HT
    go_enter Try.func33, Try.ntmps33
    go_wp2
    rw [unhide HP, unhide HPL]
    exact ⟨rfl, unhide HF⟩
end Go.Proofs.Ytenffkplneimlaa


/- Ways up: who comes to the root; a way that meets a vertex twice goes round (P401). -/
namespace Go.Proofs.Ytenffkplneimlaa
open Go Go.RowKit

/-- Where a vertex's dart leads. -/
def Sp.nx (T up : List Int) (x : Nat) : Nat := (T.getD (Sp.oth (up.getD x 0).toNat) 0).toNat
/-- In m steps from x to y, none of them from the root. -/
def Sp.Stp (T up : List Int) (root : Int) : Nat → Nat → Nat → Prop
  | 0, x, y => x = y
  | m + 1, x, y => (x : Int) ≠ root ∧ Sp.Stp T up root m (Sp.nx T up x) y
/-- The root is come to. -/
def Sp.Rc (T up : List Int) (root : Int) (x : Nat) : Prop := ∃ g, Sp.reachGo T up root g x = true
theorem Sp.reach_succ (T up : List Int) (root : Int) (g x : Nat) : Sp.reachGo T up root (g + 1) x = if (x : Int) = root then true else Sp.reachGo T up root g (Sp.nx T up x) := rfl
theorem Sp.reach_mono (T up : List Int) (root : Int) : ∀ g x, Sp.reachGo T up root g x = true → Sp.reachGo T up root (g + 1) x = true
  | 0, x, h => by
    rw [Sp.reach_succ, if_pos (of_decide_eq_true h)]
  | g + 1, x, h => by
    rw [Sp.reach_succ] at h ⊢
    split
    · rfl
    · rename_i hx
      rw [if_neg hx] at h
      exact Sp.reach_mono T up root g _ h
theorem Sp.reach_le (T up : List Int) (root : Int) {g g' x : Nat} (h : Sp.reachGo T up root g x = true) (hg : g ≤ g') : Sp.reachGo T up root g' x = true := by
  induction hg with
  | refl => exact h
  | step _ ih => exact Sp.reach_mono _ _ _ _ _ ih
theorem Sp.Stp.reach {T up : List Int} {root : Int} : ∀ {m x y : Nat}, Sp.Stp T up root m x y → ∀ g, Sp.reachGo T up root (g + m) x = Sp.reachGo T up root g y
  | 0, x, y, h, g => by rw [show x = y from h]; rfl
  | m + 1, x, y, h, g => by
    rw [show g + (m + 1) = (g + m) + 1 by omega, Sp.reach_succ, if_neg h.1]
    exact Sp.Stp.reach h.2 g
theorem Sp.Stp.snoc {T up : List Int} {root : Int} : ∀ {m x y : Nat}, Sp.Stp T up root m x y → (y : Int) ≠ root → Sp.Stp T up root (m + 1) x (Sp.nx T up y)
  | 0, x, y, h, hy => by
    obtain rfl : x = y := h
    exact ⟨hy, rfl⟩
  | m + 1, x, y, h, hy => ⟨h.1, Sp.Stp.snoc h.2 hy⟩
theorem Sp.Stp.rc {T up : List Int} {root : Int} {m x y : Nat} (h : Sp.Stp T up root m x y) : Sp.Rc T up root x ↔ Sp.Rc T up root y := by
  constructor
  · rintro ⟨g, hg⟩
    exact ⟨g, by rw [← h.reach]; exact Sp.reach_le _ _ _ hg (by omega)⟩
  · rintro ⟨g, hg⟩
    exact ⟨g + m, by rw [h.reach]; exact hg⟩
/-- What comes round does not come to the root. -/
theorem Sp.Stp.round {T up : List Int} {root : Int} {m x : Nat} (h : Sp.Stp T up root (m + 1) x x) : ¬ Sp.Rc T up root x := by
  rintro ⟨g, hg⟩
  induction g using Nat.strongRecOn with
  | ind g ih =>
    rcases Nat.lt_or_ge g (m + 1) with h1 | h1
    · have := Sp.reach_le _ _ _ hg (show g ≤ 0 + (m + 1) by omega)
      rw [h.reach] at this
      exact h.1 (of_decide_eq_true this)
    · have e := h.reach (g - (m + 1))
      rw [Nat.sub_add_cancel h1] at e
      exact ih (g - (m + 1)) (by omega) (by rw [← e]; exact hg)
theorem Sp.rc_root (T up : List Int) {root : Int} {x : Nat} (h : (x : Int) = root) : Sp.Rc T up root x := ⟨0, decide_eq_true h⟩
theorem Sp.rc_next {T up : List Int} {root : Int} {x : Nat} (h : (x : Int) ≠ root) : Sp.Rc T up root x ↔ Sp.Rc T up root (Sp.nx T up x) := Sp.Stp.rc (m := 1) ⟨h, rfl⟩
/-- The vertices of a way. -/
def Sp.pl (T up : List Int) : Nat → Nat → List Int
  | 0, x => [(x : Int)]
  | g + 1, x => (x : Int) :: Sp.pl T up g (Sp.nx T up x)
theorem Sp.pl_len (T up : List Int) : ∀ g x, (Sp.pl T up g x).length = g + 1
  | 0, _ => rfl
  | g + 1, x => by simp only [Sp.pl, List.length_cons, Sp.pl_len T up g]
/-- The first number of steps by which the root is come to. -/
def Sp.Mn (T up : List Int) (root : Int) (g x : Nat) : Prop := Sp.reachGo T up root g x = true ∧ ∀ g', g' < g → Sp.reachGo T up root g' x = false
theorem Sp.Mn.next {T up : List Int} {root : Int} {g x : Nat} (h : Sp.Mn T up root (g + 1) x) : (x : Int) ≠ root ∧ Sp.Mn T up root g (Sp.nx T up x) := by
  have hx : (x : Int) ≠ root := fun e => by
    have := h.2 0 (by omega)
    rw [show Sp.reachGo T up root 0 x = true from decide_eq_true e] at this
    cases this
  refine ⟨hx, ?_, fun g' hg' => ?_⟩
  · have := h.1
    rw [Sp.reach_succ, if_neg hx] at this
    exact this
  · have := h.2 (g' + 1) (by omega)
    rw [Sp.reach_succ, if_neg hx] at this
    exact this
theorem Sp.pl_mem {T up : List Int} {root : Int} : ∀ {g x : Nat}, Sp.Mn T up root g x → ∀ z ∈ Sp.pl T up g x, ∃ (g' y : Nat), z = (y : Int) ∧ g' ≤ g ∧ Sp.reachGo T up root g' y = true
  | 0, x, h, z, hz => by
    simp [Sp.pl] at hz
    exact ⟨0, x, hz, Nat.le_refl _, h.1⟩
  | g + 1, x, h, z, hz => by
    rcases List.mem_cons.1 hz with hz | hz
    · exact ⟨g + 1, x, hz, Nat.le_refl _, h.1⟩
    · obtain ⟨g', y, a, b, c⟩ := Sp.pl_mem h.next.2 z hz
      exact ⟨g', y, a, by omega, c⟩
theorem Sp.pl_nodup {T up : List Int} {root : Int} : ∀ {g x : Nat}, Sp.Mn T up root g x → (Sp.pl T up g x).Nodup
  | 0, x, _ => by simp [Sp.pl]
  | g + 1, x, h => by
    refine List.nodup_cons.2 ⟨fun hm => ?_, Sp.pl_nodup h.next.2⟩
    obtain ⟨g', y, a, b, c⟩ := Sp.pl_mem h.next.2 _ hm
    have : y = x := by omega
    subst this
    have := h.2 g' (by omega)
    rw [c] at this
    cases this
theorem Sp.pl_bd {T up : List Int} {N : Nat} (hT : ∀ y, y < N → (Sp.nx T up y) < N) : ∀ g x, x < N → ∀ z ∈ Sp.pl T up g x, 0 ≤ z ∧ z < (N : Int)
  | 0, x, hx, z, hz => by simp [Sp.pl] at hz; omega
  | g + 1, x, hx, z, hz => by
    rcases List.mem_cons.1 hz with hz | hz
    · omega
    · exact Sp.pl_bd hT g _ (hT x hx) z hz
theorem Sp.Rc.least {T up : List Int} {root : Int} {x : Nat} (h : Sp.Rc T up root x) : ∃ g, Sp.Mn T up root g x := by
  obtain ⟨g, hg⟩ := h
  induction g using Nat.strongRecOn with
  | ind g ih =>
    by_cases hm : ∃ g', g' < g ∧ Sp.reachGo T up root g' x = true
    · obtain ⟨g', h1, h2⟩ := hm
      exact ih g' h1 h2
    · exact ⟨g, hg, fun g' h1 => by
        cases h2 : Sp.reachGo T up root g' x with
        | false => rfl
        | true => exact absurd ⟨g', h1, h2⟩ hm⟩
/-- Who comes to the root at all comes there in as many steps as there are vertices. -/
theorem Sp.Rc.soon {T up : List Int} {root : Int} {N x : Nat} (hT : ∀ y, y < N → (Sp.nx T up y) < N) (hx : x < N) (h : Sp.Rc T up root x) : Sp.reachGo T up root (N + 1) x = true := by
  obtain ⟨g, hg⟩ := h.least
  have := nodup_le N _ (Sp.pl_nodup hg) (Sp.pl_bd hT g x hx)
  rw [Sp.pl_len] at this
  exact Sp.reach_le _ _ _ hg.1 (by omega)
theorem Sp.chains_iff {T up : List Int} {root : Int} {N : Nat} (hT : ∀ y, y < N → (Sp.nx T up y) < N) : ∀ g v, v + g = N → (Sp.chainsGo T up root N g v = true ↔ ∀ x, v ≤ x → x < N → Sp.Rc T up root x)
  | 0, v, h => by
    simp only [Sp.chainsGo, true_iff]
    intro x h1 h2
    omega
  | g + 1, v, h => by
    rw [Sp.chainsGo]
    by_cases hr : Sp.reachGo T up root (N + 1) v = true
    · rw [if_pos hr, Sp.chains_iff hT g (v + 1) (by omega)]
      constructor
      · intro hh x h1 h2
        by_cases hxv : x = v
        · rw [hxv]; exact ⟨_, hr⟩
        · exact hh x (by omega) h2
      · intro hh x h1 h2
        exact hh x (by omega) h2
    · rw [if_neg hr]
      constructor
      · intro hh; cases hh
      · intro hh
        exact absurd ((hh v (Nat.le_refl _) (by omega)).soon hT (by omega)) hr
end Go.Proofs.Ytenffkplneimlaa


