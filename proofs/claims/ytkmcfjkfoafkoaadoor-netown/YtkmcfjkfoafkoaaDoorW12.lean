/- The walk of net.Parse. -/
import Derived.Test.YtkmcfjkfoafkoaaDoorW11
namespace Go.Proofs.YtkmcfjkfoafkoaaDoor
open Go Go.RowKit

/-- A net's value: its lists in slices of the call's own, apart from one another. -/
structure NetV (w : World) (B : Nat) (v : Value) (q : Sp.Net) (tv nv cv : Value) : Prop where
  val : v = .agg #[.int .i64 q.n, tv, nv, cv]
  tail : OwnI w B tv q.tail
  next : OwnI w B nv q.next
  cap : OwnI w B cv q.cap
  tn : tv.ownBlock = none ∨ tv.ownBlock ≠ nv.ownBlock
  tc : tv.ownBlock = none ∨ tv.ownBlock ≠ cv.ownBlock
  nc : nv.ownBlock = none ∨ nv.ownBlock ≠ cv.ownBlock
/-- A draft on the way: its bounds. -/
structure Good (q : Sp.Net) : Prop where
  n0 : 0 ≤ q.n
  n1 : q.n ≤ 60
  tl : q.tail.length ≤ 240
  nl : q.next.length = q.tail.length
  cl : q.cap.length = q.tail.length
  ev : q.tail.length % 2 = 0
/-- The frame of Parse, slot by slot. -/
def lit (f : Nat → Value) : Act := { tmps := #[f 0, f 1, f 2, f 3, f 4, f 5, f 6, f 7, f 8, f 9, f 10, f 11, f 12, f 13, f 14, f 15, f 16, f 17, f 18, f 19, f 20, f 21, f 22, f 23, f 24, f 25, f 26, f 27, f 28, f 29, f 30, f 31, f 32, f 33, f 34, f 35, f 36, f 37, f 38, f 39, f 40, f 41, f 42, f 43, f 44, f 45, f 46, f 47, f 48, f 49, f 50, f 51, f 52, f 53, f 54, f 55, f 56, f 57, f 58, f 59], defers := [] }
/-- The world behind strings.Split: W; B: the first block of the call's own (the result's), B + 1 the draft's, B + 2 the lines'. -/
structure Env (w0 W : World) (B : Nat) (L : List ByteArray) : Prop where
  below : Below B w0 W
  rt : Rt W
  zero : W.heap[B]? = some (.cells #[.int .i64 0, .slice none 0 0, .slice none 0 0, .slice none 0 0] 34 (0, 0))
  lines : W.heap[B + 2]? = some (.cells (L.map Value.string).toArray 9 (0, 0))
  size : W.heap.size = B + 3
  len : L.length ≤ 1000001
  sz : ∀ x ∈ L, x.size ≤ 1000000
/-- What stands while the lines are read. -/
structure St (W w : World) (B : Nat) (q : Sp.Net) (tv nv cv : Value) : Prop where
  draft : DraftAt w (B + 1) (B + 3) q tv nv cv
  keep : Keep (B + 1) (B + 3) W w
  good : Good q
def J (w0 : World) (B : Nat) (R : Sp.Res) : Nat → Act → World → Prop
  | 0, a, w => ∃ (f : Nat → Value) (k : Nat) (c : Int), a = lit f ∧ f 2 = .pointer (some ⟨B, 0, none⟩) ∧ f 7 = .int .i64 k ∧ f 8 = .int .i64 c ∧ R = (none, k, c) ∧ Below B w0 w ∧ w.heap[B]? = some (.cells #[.int .i64 0, .slice none 0 0, .slice none 0 0, .slice none 0 0] 34 (0, 0))
  | 1, a, w => ∃ (f : Nat → Value) (W : World) (L : List ByteArray) (k : Nat) (q : Sp.Net) (tv nv cv : Value), a = lit f ∧ f 2 = .pointer (some ⟨B, 0, none⟩) ∧ f 5 = .pointer (some ⟨B + 1, 0, none⟩) ∧ f 6 = .slice (some ⟨B + 2, 0, none⟩) L.length L.length ∧ f 7 = .int .i64 k ∧
      1 ≤ k ∧ k ≤ L.length ∧ R = Sp.edgesFrom (bytesOf L) (L.length + 1 - k) q (k + 1) ∧ Env w0 W B L ∧ St W w B q tv nv cv
  | _, _, _ => False
def lenOf : Value → Nat | .slice _ n _ => n | _ => 0
def mu : Nat → Act → World → Nat
  | 1, a, _ => lenOf (a.tmps.getD 6 undef) + 2 - (intOf (a.tmps.getD 7 undef)).toNat
  | _, _, _ => 0
theorem Env.strs {w0 W : World} {B : Nat} {L : List ByteArray} (h : Env w0 W B L) : Strs W (.slice (some ⟨B + 2, 0, none⟩) L.length L.length) L :=
  ⟨_, _, rfl, Nat.le_refl _, by have := h.len; unfold maxLen; omega, fun k hk => ⟨B + 2, 0, rfl, by rw [h.size]; omega, by rw [cell_of_row W (B + 2) _ _ _ _ h.lines]; simp [hk]⟩⟩
theorem Keep.strs {W w : World} {B : Nat} {L : List ByteArray} (h : Keep (B + 1) (B + 3) W w) (hs : Strs W (.slice (some ⟨B + 2, 0, none⟩) L.length L.length) L) : Strs w (.slice (some ⟨B + 2, 0, none⟩) L.length L.length) L := by
  obtain ⟨a, c, hv, hc, hm, hcell⟩ := hs
  refine ⟨a, c, hv, hc, hm, fun k hk => ?_⟩
  obtain ⟨b, o, ha, hb, hx⟩ := hcell k hk
  injection hv with hv _ _
  rw [ha] at hv
  injection hv with hv
  injection hv with hv _
  subst hv
  exact ⟨B + 2, o, ha, Nat.lt_of_lt_of_le hb h.size, (World.cell?_of_block (h.block (B + 2) (by omega) (by omega))).trans hx⟩
theorem Env.rtOf {w0 W w : World} {B : Nat} {L : List ByteArray} (h : Env w0 W B L) (hr : Rt w0) (hB : w0.heap.size = B) (hk : Keep (B + 1) (B + 3) W w) : Rt w :=
  hr.below (h.below.trans ((hk.below (by omega)).mono (by omega))) (by omega)
theorem Env.zeroOf {w0 W w : World} {B : Nat} {L : List ByteArray} (h : Env w0 W B L) (hk : Keep (B + 1) (B + 3) W w) : w.heap[B]? = some (.cells #[.int .i64 0, .slice none 0 0, .slice none 0 0, .slice none 0 0] 34 (0, 0)) :=
  (hk.block B (by omega) (by omega)).trans h.zero
theorem Env.belowOf {w0 W w : World} {B : Nat} {L : List ByteArray} (h : Env w0 W B L) (hk : Keep (B + 1) (B + 3) W w) : Below B w0 w := h.below.trans ((hk.below (by omega)).mono (by omega))
/-- What Parse hands back. -/
def Out (w0 : World) (R : Sp.Res) (e : Ending) (w' : World) : Prop :=
  ∃ x tv nv cv, e = .returned (.tuple #[x, .int .i64 R.2.1, .int .i64 R.2.2]) ∧ NetV w' w0.heap.size x (R.1.getD Sp.zero) tv nv cv ∧ Below w0.heap.size w0 w'

theorem J0_mk {w0 : World} {B : Nat} {R : Sp.Res} {a : Act} {w : World} (k : Nat) (c : Int) (ha : a = lit fun i => a.tmps.getD i undef) (h2 : a.tmps.getD 2 undef = .pointer (some ⟨B, 0, none⟩)) (h7 : a.tmps.getD 7 undef = .int .i64 k) (h8 : a.tmps.getD 8 undef = .int .i64 c)
    (hR : R = (none, k, c)) (hb : Below B w0 w) (hz : w.heap[B]? = some (.cells #[.int .i64 0, .slice none 0 0, .slice none 0 0, .slice none 0 0] 34 (0, 0))) : J w0 B R 0 a w :=
  ⟨fun i => a.tmps.getD i undef, k, c, ha, h2, h7, h8, hR, hb, hz⟩
theorem J1_mk {w0 : World} {B : Nat} {R : Sp.Res} {a : Act} {w : World} (W : World) (L : List ByteArray) (k : Nat) (q : Sp.Net) (tv nv cv : Value) (ha : a = lit fun i => a.tmps.getD i undef) (h2 : a.tmps.getD 2 undef = .pointer (some ⟨B, 0, none⟩))
    (h5 : a.tmps.getD 5 undef = .pointer (some ⟨B + 1, 0, none⟩)) (h6 : a.tmps.getD 6 undef = .slice (some ⟨B + 2, 0, none⟩) L.length L.length) (h7 : a.tmps.getD 7 undef = .int .i64 k)
    (hk0 : 1 ≤ k) (hk : k ≤ L.length) (hR : R = Sp.edgesFrom (bytesOf L) (L.length + 1 - k) q (k + 1)) (hE : Env w0 W B L) (hS : St W w B q tv nv cv) : J w0 B R 1 a w :=
  ⟨fun i => a.tmps.getD i undef, W, L, k, q, tv, nv, cv, ha, h2, h5, h6, h7, hk0, hk, hR, hE, hS⟩
theorem int_succ (k : Nat) : Value.int .i64 ((k : Int) + 1) = .int .i64 ((k + 1 : Nat) : Int) := by simp
theorem own4 {w : World} {B base : Nat} {v : Value} {l : List Int} {a b c d : Value} (h : OwnI w base v l) (hB : B < base) : OwnI ((((w.setCell ⟨B, 0, none⟩ a).setCell ⟨B, 1, none⟩ b).setCell ⟨B, 2, none⟩ c).setCell ⟨B, 3, none⟩ d) base v l :=
  own_store (own_store (own_store (own_store h hB _ _) hB _ _) hB _ _) hB _ _
theorem edge_in (L : List ByteArray) (k : Nat) : (Sp.lineOf (bytesOf L) k).1 = Sp.wEdge → k ≤ L.length := by
  unfold Sp.lineOf
  split
  · intro h; cases h
  · rename_i h; intro _; simpa using h
theorem edge_Good {q : Sp.Net} {l : Sp.Line} (h : Good q) (hE : Sp.edgeE q l = 0) : Good (Sp.edge q l) := by
  have h240 : q.tail.length ≠ 240 := by
    intro e
    unfold Sp.edgeE at hE
    rw [if_pos e] at hE
    split at hE <;> cases hE
  have := h.tl; have := h.ev
  refine ⟨h.n0, h.n1, ?_, ?_, ?_, ?_⟩
  · simp [Sp.edge]; omega
  · simp [Sp.edge, h.nl]
  · simp [Sp.edge, h.cl]
  · simp [Sp.edge]; omega
theorem head_Good {l : Sp.Line} (hb : ∀ x ∈ l.2, 0 ≤ x ∧ x ≤ 1000000000000000) (hE : Sp.headE l = 0) : Good (Sp.head Sp.zero l) := by
  unfold Sp.headE at hE
  split at hE
  · cases hE
  · rename_i h1
    split at hE
    · cases hE
    · rename_i h2
      have h3 : l.2.length = 1 := Classical.byContradiction fun h => h1 (.inr h)
      obtain ⟨y, hy⟩ := List.length_eq_one_iff.1 h3
      have := hb y (by rw [hy]; simp)
      rw [hy] at h2
      simp at h2
      refine ⟨?_, ?_, by simp [Sp.head, Sp.zero], by simp [Sp.head, Sp.zero], by simp [Sp.head, Sp.zero], by simp [Sp.head, Sp.zero]⟩
      · simp [Sp.head, hy]; omega
      · simp [Sp.head, hy]; omega
theorem turn_Good {q : Sp.Net} {v : Int} {l : Sp.Line} (h : Good q) (hE : Sp.turnE q v l = 0) : Good (Sp.turn q l) := by
  have hs : ∃ nx, Sp.turnTo q.next l.2 l.2.length = some nx := by
    unfold Sp.turnE at hE
    split at hE
    · cases hE
    · split at hE
      · cases hE
      · split at hE
        · cases hE
        · rename_i h3
          cases hh : Sp.turnTo q.next l.2 l.2.length with
          | none => rw [hh] at h3; simp at h3
          | some nx => exact ⟨nx, rfl⟩
  obtain ⟨nx, hn⟩ := hs
  refine ⟨h.n0, h.n1, h.tl, ?_, h.cl, h.ev⟩
  simp only [Sp.turn, hn, Option.getD_some]
  rw [Sp.turnTo_len hn]; exact h.nl

set_option maxRecDepth 100000 in
set_option maxHeartbeats 4000000 in
theorem parse_any (s : ByteArray) (w : World) (hs : s.size ≤ maxLen) (hr : Rt w) :
    Calls Tryd.prog 17 #[.string s] w (Out w (Sp.parse s.data.toList)) := by
  generalize hR : Sp.parse s.data.toList = R
  have HR := hide hR; clear hR
  have Hr := hide hr; clear hr
  go_enter Tryd.func17, Tryd.ntmps17
  go_wp2
  refine wp_scope_more (J w w.heap.size R) mu ?pass ?first
  case first =>
    intro hp
    by_cases h8 : 8000 < s.size
    · have HR2 : Hid (R = (none, 1, 1)) := by
        have h := unhide HR
        unfold Sp.parse at h
        rw [← Lib.size_eq, if_pos h8] at h
        exact hide h.symm
      have h8' : (8000 : Int) < s.size := by omega
      go_wp2
      go_step3
      refine J0_mk 1 1 rfl rfl rfl rfl (unhide HR2) (((Below.refl _ _).alloc (Nat.le_refl _) _).alloc (by simp) _) ?_
      rw [Below.heap_alloc _ _ _ (by simp)]
      exact heap_alloc_new w _
    · have h8' : ¬ (8000 : Int) < s.size := by omega
      have HR2 : Hid (R = Sp.parseL (Sp.partsBy 10 (Lib.trimSuffix s.data.toList [10]))) := by
        have h := unhide HR
        unfold Sp.parse at h
        rw [← Lib.size_eq, if_neg h8] at h
        exact hide h.symm
      go_wp2_with fail
      refine (trim_any s _ hs).mono ?_
      rintro e w1 ⟨t, rfl, ht, hts, hw1⟩
      have HW1 := hide hw1; clear hw1
      rw [← unhide ht] at HR2
      have hb1 : Below w.heap.size w w1 := by rw [unhide HW1]; exact ((Below.refl _ _).alloc (Nat.le_refl _) _).alloc (by simp) _
      have hs1 : w1.heap.size = w.heap.size + 2 := by rw [unhide HW1]; simp
      have HSP := hide (split_any t 10 w1 (by omega) ((unhide Hr).below hb1 (Nat.le_refl _)))
      clear ht
      go_wp2_with fail
      refine (unhide HSP).mono ?_
      rintro e W ⟨L, rfl, hW, hL, hlen, hsz⟩
      clear HSP
      have HE : Hid (Env w W w.heap.size L) := by
        refine hide ⟨?_, ?_, ?_, ?_, ?_, hlen, hsz⟩
        · rw [hW]; exact hb1.alloc (by omega) _
        · rw [hW]; exact (unhide Hr).below (hb1.alloc (by omega) _) (Nat.le_refl _)
        · rw [hW, Below.heap_alloc _ _ _ (by omega), unhide HW1, Below.heap_alloc _ _ _ (by simp)]; exact heap_alloc_new w _
        · rw [hW, ← hs1]; exact heap_alloc_new w1 _
        · rw [hW]; simp [hs1]
      have HS : Hid (St W W w.heap.size Sp.zero (.slice none 0 0) (.slice none 0 0) (.slice none 0 0)) := by
        refine hide ⟨⟨by omega, by rw [(unhide HE).size]; exact Nat.le_refl _, ?_, World.ownsRow_nil _ _ _ _, World.ownsRow_nil _ _ _ _, World.ownsRow_nil _ _ _ _, .inl rfl, .inl rfl, .inl rfl⟩, Keep.refl _ _ _, ⟨by decide, by decide, by decide, by decide, by decide, by decide⟩⟩
        rw [hW, Below.heap_alloc _ _ _ (by omega), unhide HW1]
        have := heap_alloc_new (w.alloc (.cells #[.int .i64 0, .slice none 0 0, .slice none 0 0, .slice none 0 0] 34)) (.cells #[.int .i64 0, .slice none 0 0, .slice none 0 0, .slice none 0 0] 64)
        rw [show Sp.zero.n = 0 from rfl]
        simpa using this
      have hL1 : 1 ≤ L.length := by
        have h1 := Sp.partsBy_ne 10 t.data.toList
        rw [← unhide hL] at h1
        rcases L with _ | ⟨x, L⟩
        · exact absurd rfl h1
        · simp
      rw [← unhide hL] at HR2
      clear hL hsz hW HW1 hb1
      have HLA := hide (lineAt_any L (.slice (some ⟨w.heap.size + 2, 0, none⟩) L.length L.length) 1 W (unhide HE).strs hlen (by omega) (by omega) (unhide HE).sz (unhide HE).rt)
      have HB := hide (lineOf_bd (bytesOf L) 1)
      have HN := hide (lineOf_len L 1 (unhide HE).sz)
      unfold Sp.parseL at HR2
      rw [hs1]
      clear hs1
      go_wp2_with fail
      refine (unhide HLA).mono ?_
      rintro e w2 ⟨sw, xv, rfl, hw, hown, hb2⟩
      clear HLA
      obtain ⟨l1, l2⟩ : ∃ l, l = Sp.lineOf (bytesOf L) 1 := ⟨_, rfl⟩
      rw [← l2] at HB HN HR2 hw hown
      clear l2
      obtain ⟨lw, ln⟩ := l1
      have hwe : (sw.data.toList, ln) = (lw, ln) := by rw [show sw.data.toList = lw from hw]
      rw [← hwe] at HR2
      clear hwe hw
      have HHC := hide (head_any Sp.zero _ _ _ _ _ xv sw ln w2 ((unhide HS).draft.below hb2) hown.ints (unhide HN))
      have HK : Hid (Keep (w.heap.size + 1) (w.heap.size + 3) W w2) := hide (.of (hb2.mono (by rw [(unhide HE).size]; exact Nat.le_refl _)))
      have HG := hide (fun h => head_Good (l := (sw.data.toList, ln)) (unhide HB) h)
      clear HS hown hb2 HB HN
      go_wp2_with fail
      refine (unhide HHC).mono ?_
      rintro e w4 ⟨rfl, hK4, hD4⟩
      clear HHC
      have HK4 := hide ((unhide HK).trans hK4); clear HK hK4
      have HD4 := hide hD4; clear hD4
      generalize Sp.headE (sw.data.toList, ln) = E at *
      generalize Sp.head Sp.zero (sw.data.toList, ln) = q4 at *
      by_cases hE0 : E = 0
      · have hE0' : (E == 0) = true := beq_iff_eq.2 hE0
        rw [if_pos hE0] at HR2
        have HS4 : Hid (St W w4 w.heap.size q4 (.slice none 0 0) (.slice none 0 0) (.slice none 0 0)) := hide ⟨unhide HD4 hE0, unhide HK4, unhide HG hE0⟩
        clear HD4 HG HK4 hE0
        have HR3 : Hid (R = Sp.edgesFrom (bytesOf L) (L.length + 1 - 1) q4 (1 + 1)) := hide (by rw [unhide HR2]; simp)
        have Hp := hide hp; clear hp
        go_wp2
        go_step3
        rename_i hlast
        exact hlast _ _ (unhide Hp 1 _ _ _ (J1_mk W L 1 q4 (.slice none 0 0) (.slice none 0 0) (.slice none 0 0) rfl rfl rfl rfl rfl (by omega) hL1 (unhide HR3) (unhide HE) (unhide HS4)) rfl)
      · have hE0' : (E == 0) = false := beq_eq_false_iff_ne.2 hE0
        rw [if_neg hE0] at HR2
        clear HD4 HG hE0
        go_wp2
        go_step3
        exact J0_mk 1 E rfl rfl rfl rfl (unhide HR2) ((unhide HE).belowOf (unhide HK4)) ((unhide HE).zeroOf (unhide HK4))
  case pass =>
    intro l a w1 hJ
    match l, hJ with
    | 0, hJ =>
      obtain ⟨f, k, c, rfl, h2, h7, h8, hR, hb, hz⟩ := hJ
      refine ⟨_, rfl, ?_⟩
      unfold lit
      rw [h2, h7, h8]
      obtain ⟨z0, z1, z2, z3, e0, e1, e2, e3⟩ := obj_cells hz
      clear h2 h7 h8
      have HR2 := hide hR; clear hR
      go_wp2
      simp only [jumps]
      refine bodyPost_ret (v := .tuple #[.agg #[.int .i64 0, .slice none 0 0, .slice none 0 0, .slice none 0 0], .int .i64 k, .int .i64 c]) (by simp [results, Tryd.results17, go_sem, z0, z1, z2, z3]) rfl ?_
      rw [unhide HR2]
      refine ⟨_, _, _, _, rfl, ⟨rfl, World.ownsRow_nil _ _ _ _, World.ownsRow_nil _ _ _ _, World.ownsRow_nil _ _ _ _, .inl rfl, .inl rfl, .inl rfl⟩, ?_⟩
      exact (((hb.setCell (by simp) _).setCell (by simp) _).setCell (by simp) _).setCell (by simp) _
    | 1, hJ =>
      obtain ⟨f, W, L, k, q, tv, nv, cv, rfl, h2, h5, h6, h7, hk0, hk, hR, hE, hS⟩ := hJ
      refine ⟨_, rfl, ?_⟩
      have hmu : mu 1 (lit f) w1 = L.length + 2 - k := by simp [mu, lit, h6, h7, lenOf, intOf]
      rw [hmu]
      unfold lit
      rw [h2, h5, h6, h7]
      clear h2 h5 h6 h7 hmu
      have HR2 := hide hR; clear hR
      have HE := hide hE; have hlen := hE.len; clear hE
      have hsp := hS.draft.le
      have hLA := lineAt_any L _ (k + 1) w1 (hS.keep.strs (unhide HE).strs) hlen (by omega) (by omega) (unhide HE).sz ((unhide HE).rtOf (unhide Hr) rfl hS.keep)
      rw [show ((k + 1 : Nat) : Int) = (k : Int) + 1 by omega] at hLA
      have HLA := hide hLA; clear hLA
      have HS := hide hS; clear hS
      have HB := hide (lineOf_bd (bytesOf L) (k + 1))
      have HN := hide (lineOf_len L (k + 1) (unhide HE).sz)
      have HP : Hid ((Sp.lineOf (bytesOf L) (k + 1)).1 = Sp.wEdge → k + 1 ≤ L.length) := hide (edge_in L (k + 1))
      have HRe : Hid (R = if (Sp.lineOf (bytesOf L) (k + 1)).1 = Sp.wEdge then (if Sp.edgeE q (Sp.lineOf (bytesOf L) (k + 1)) = 0 then Sp.edgesFrom (bytesOf L) (L.length - k) (Sp.edge q (Sp.lineOf (bytesOf L) (k + 1))) (k + 2) else (none, k + 1, Sp.edgeE q (Sp.lineOf (bytesOf L) (k + 1)))) else Sp.turnsFrom (bytesOf L) q.n.toNat q 0 (k + 1)) := by
        refine hide ?_
        rw [unhide HR2, show L.length + 1 - k = (L.length - k) + 1 by omega, Sp.edgesFrom]
      clear HR2
      go_wp2_with fail
      refine (unhide HLA).mono ?_
      rintro e w2 ⟨sw, xv, rfl, hw, hown, hb2⟩
      clear HLA
      have Hw := hide hw; clear hw
      obtain ⟨l1, l2⟩ : ∃ l, l = Sp.lineOf (bytesOf L) (k + 1) := ⟨_, rfl⟩
      rw [← l2] at HB HN HP HRe Hw hown
      have Hl2 := hide l2; clear l2
      obtain ⟨lw, ln⟩ := l1
      have Hwe : Hid ((sw.data.toList, ln) = (lw, ln)) := hide (by rw [show sw.data.toList = lw from unhide Hw])
      obtain ⟨xa, xc, hxv, -, -, -⟩ := hown.ints
      subst hxv
      have HO := hide hown; clear hown
      by_cases hedge : sw.data.toList = Sp.wEdge
      · have hedge' : (sw.toList == [101, 100, 103, 101]) = true := by rw [Lib.toList_data]; exact beq_iff_eq.2 hedge
        have hle2 : k + 1 ≤ L.length := unhide HP ((unhide Hw).symm.trans hedge)
        rw [if_pos ((unhide Hw).symm.trans hedge), ← unhide Hwe] at HRe
        clear hedge HP
        have HI : Hid (Ints (w2.alloc (.cells #[.string sw, .slice xa ln.length xc] 69)) (.slice xa ln.length xc) ln) := hide ((unhide HO).ints.below ((Below.refl _ w2).alloc (Nat.le_refl _) _))
        have HD : Hid (DraftAt (w2.alloc (.cells #[.string sw, .slice xa ln.length xc] 69)) (w.heap.size + 1) (w.heap.size + 3) q tv nv cv) := hide (((unhide HS).draft.below hb2).alloc _)
        have HK : Hid (Keep (w.heap.size + 1) (w.heap.size + 3) W (w2.alloc (.cells #[.string sw, .slice xa ln.length xc] 69))) := hide (((unhide HS).keep.trans (.of (hb2.mono hsp))).alloc (Nat.le_trans hsp hb2.size) _)
        have hgd := (unhide HS).good
        have HEC := hide (edge_any q _ _ tv nv cv _ sw ln _ (unhide HD) (unhide HI) (unhide HN) hgd.tl (by rw [hgd.nl]; exact hgd.tl) (by rw [hgd.cl]; exact hgd.tl))
        have Hgd := hide hgd; clear hgd
        clear HI HD HS hb2 HO
        go_wp2_with fail
        refine (unhide HEC).mono ?_
        rintro e w4 ⟨rfl, hK4, hD4⟩
        clear HEC
        have HK4 := hide ((unhide HK).trans hK4); clear HK hK4
        have HD4 := hide hD4; clear hD4
        have HEg := hide (fun h => edge_Good (l := (sw.data.toList, ln)) (unhide Hgd) h)
        generalize Sp.edgeE q (sw.data.toList, ln) = E at *
        generalize Sp.edge q (sw.data.toList, ln) = q4 at *
        by_cases hE0 : E = 0
        · have hE0' : (E == 0) = true := beq_iff_eq.2 hE0
          rw [if_pos hE0] at HRe
          obtain ⟨tv4, nv4, cv4, hd4⟩ := unhide HD4 hE0
          have Hd4 := hide hd4; clear hd4
          have Hg4 := hide (unhide HEg hE0)
          clear HD4 HEg hE0
          go_wp2
          go_step3
          refine ⟨J1_mk W L (k + 1) q4 tv4 nv4 cv4 rfl rfl rfl rfl (int_succ k) (by omega) hle2 ?_ (unhide HE) ⟨unhide Hd4, unhide HK4, unhide Hg4⟩, ?_⟩
          · rw [unhide HRe, show L.length + 1 - (k + 1) = L.length - k by omega]
          · simp [mu, lenOf, intOf]; omega
        · have hE0' : (E == 0) = false := beq_eq_false_iff_ne.2 hE0
          rw [if_neg hE0] at HRe
          clear HD4 HEg hE0
          go_wp2
          go_step3
          refine ⟨J0_mk (k + 1) E rfl rfl (int_succ k) rfl (unhide HRe) ((unhide HE).belowOf (unhide HK4)) ((unhide HE).zeroOf (unhide HK4)), ?_⟩
          show 0 < _
          omega
      · have hedge' : (sw.toList == [101, 100, 103, 101]) = false := by rw [Lib.toList_data]; exact beq_eq_false_iff_ne.2 hedge
        rw [if_neg (fun h => hedge ((unhide Hw).trans h))] at HRe
        clear hedge HP Hwe Hw HB HN HO Hl2
        have HS2 : Hid (St W (w2.alloc (.cells #[.string sw, .slice xa ln.length xc] 69)) w.heap.size q tv nv cv) := hide ⟨((unhide HS).draft.below hb2).alloc _, ((unhide HS).keep.trans (.of (hb2.mono hsp))).alloc (Nat.le_trans hsp hb2.size) _, (unhide HS).good⟩
        have hwsz := hb2.size
        clear HS hb2
        obtain ⟨c0, -, -, -, -, -, -, -⟩ := (unhide HS2).draft.cells
        have c0' : w2.cell? ⟨w.heap.size + 1, 0, none⟩ = some (.int .i64 q.n) := by
          have hlt : w.heap.size + 1 < w2.heap.size := by omega
          rw [← c0]
          exact (((Below.refl _ w2).alloc (Nat.le_refl _) _).cell (by exact hlt)).symm
        have hlt2 : w.heap.size + 1 < w2.heap.size := by omega
        have hn0 := (unhide HS2).good.n0
        have hn1 := (unhide HS2).good.n1
        obtain ⟨nn, hnn⟩ : ∃ nn : Nat, q.n = nn := ⟨q.n.toNat, by omega⟩
        have HRt : Hid (R = Sp.turnsFrom (bytesOf L) nn q 0 (k + 1)) := hide (by rw [unhide HRe, hnn]; rfl)
        clear HRe
        rw [hnn] at c0 c0' hn0 hn1
        have Hnn := hide hnn; clear hnn
        go_wp2
        go_loopw [7, 38] (fun av i wr => ∃ (v : Nat) (q' : Sp.Net), v ≤ nn ∧ i = .int .i64 v ∧ av = .int .i64 (k + 1 + v : Nat) ∧ Hid (R = Sp.turnsFrom (bytesOf L) (nn - v) q' v (k + 1 + v)) ∧ Hid (St W wr w.heap.size q' tv nv cv)) (fun _ i _ => nn - (intOf i).toNat)
        case atStart => exact ⟨0, q, Nat.zero_le _, rfl, int_succ k, HRt, HS2⟩
        case round =>
          clear HRt HS2
          obtain ⟨v, q', hv, rfl, rfl, HRt, HS⟩ := hrel
          have hSd := unhide HS
          have hsp := hSd.draft.le
          by_cases hlt : v < nn
          · have HLA := hide (lineAt_any L _ (k + 1 + v) wr (hSd.keep.strs (unhide HE).strs) hlen (by omega) (by omega) (unhide HE).sz ((unhide HE).rtOf (unhide Hr) rfl hSd.keep))
            have HB := hide (lineOf_bd (bytesOf L) (k + 1 + v))
            have HN := hide (lineOf_len L (k + 1 + v) (unhide HE).sz)
            have HM : Hid (∀ j, nv.ownBlock = some j → j < wr.heap.size) := hide fun j hj => (hSd.draft.next.lt j hj).2
            clear hSd
            rw [show nn - v = (nn - v - 1) + 1 by omega, Sp.turnsFrom] at HRt
            have kk : ((k + 1 + v : Nat) : Int) ≤ 2000000 := by omega
            have kk0 : 0 ≤ ((k + 1 + v : Nat) : Int) := by omega
            obtain ⟨at1, hat1⟩ : ∃ at1 : Int, at1 = ((k + 1 + v : Nat) : Int) := ⟨_, rfl⟩
            rw [← hat1] at HLA kk kk0
            rw [← hat1]
            have Hat := hide hat1; clear hat1
            go_wp2_with fail
            refine (unhide HLA).mono ?_
            rintro e w5 ⟨sw', xv', rfl, hw', hown', hb5⟩
            clear HLA
            obtain ⟨l1, l2⟩ : ∃ l, l = Sp.lineOf (bytesOf L) (k + 1 + v) := ⟨_, rfl⟩
            rw [← l2] at HB HN HRt hw' hown'
            clear l2
            obtain ⟨lw', ln'⟩ := l1
            have hwe : (sw'.data.toList, ln') = (lw', ln') := by rw [show sw'.data.toList = lw' from hw']
            rw [← hwe] at HRt
            clear hwe hw'
            have HTC := hide (turn_all q' _ _ wr.heap.size tv nv cv xv' v sw' ln' w5 ((unhide HS).draft.below hb5) hown' (unhide HM) (unhide HN) (fun y hy => (unhide HB y hy).1) (unhide HS).good.nl (unhide HS).good.tl)
            have HK : Hid (Keep (w.heap.size + 1) (w.heap.size + 3) W w5) := hide ((unhide HS).keep.trans (.of (hb5.mono hsp)))
            have HG := hide (fun h => turn_Good (v := v) (l := (sw'.data.toList, ln')) (unhide HS).good h)
            clear HS hown' hb5 HB HN HM
            go_wp2_with fail
            refine (unhide HTC).mono ?_
            rintro e w6 ⟨rfl, hK6, hD6⟩
            clear HTC
            have HK6 := hide ((unhide HK).trans hK6); clear HK hK6
            have HD6 := hide hD6; clear hD6
            generalize Sp.turnE q' v (sw'.data.toList, ln') = E at *
            generalize Sp.turn q' (sw'.data.toList, ln') = q6 at *
            by_cases hE0 : E = 0
            · have hE0' : (E == 0) = true := beq_iff_eq.2 hE0
              rw [if_pos hE0] at HRt
              have HS6 : Hid (St W w6 w.heap.size q6 tv nv cv) := hide ⟨unhide HD6 hE0, unhide HK6, unhide HG hE0⟩
              clear HD6 HG HK6 hE0
              go_wp2
              go_roundw
              case rel =>
                refine ⟨v + 1, q6, by omega, by go_num, ?_, ?_, HS6⟩
                · rw [unhide Hat]; simp; omega
                · rw [show nn - (v + 1) = nn - v - 1 by omega, show k + 1 + (v + 1) = k + 1 + v + 1 by omega]; exact HRt
              case measure => simp [intOf]; omega
            · have hE0' : (E == 0) = false := beq_eq_false_iff_ne.2 hE0
              rw [if_neg hE0] at HRt
              clear HD6 HG hE0
              go_wp2
              go_step3
              refine ⟨J0_mk (k + 1 + v) E rfl rfl (by show Value.int .i64 at1 = _; rw [unhide Hat]) rfl (unhide HRt) ((unhide HE).belowOf (unhide HK6)) ((unhide HE).zeroOf (unhide HK6)), ?_⟩
              show 0 < _
              omega
          · obtain rfl : v = nn := by omega
            rw [Nat.sub_self, Sp.turnsFrom] at HRt
            clear hSd
            by_cases hend : k + 1 + v ≤ L.length
            · rw [if_pos (by simpa using hend)] at HRt
              go_wp2
              go_step3
              refine ⟨J0_mk (k + 1 + v) 1 rfl rfl rfl rfl (unhide HRt) ((unhide HE).belowOf (unhide HS).keep) ((unhide HE).zeroOf (unhide HS).keep), ?_⟩
              show 0 < _
              omega
            · rw [if_neg (by simpa using hend)] at HRt
              clear c0 c0'
              have hD := (unhide HS).draft
              obtain ⟨c0, c1, c2, c3, -, -, -, -⟩ := hD.cells
              obtain ⟨z0, z1, z2, z3, e0, e1, e2, e3⟩ := obj_cells ((unhide HE).zeroOf (unhide HS).keep)
              obtain ⟨ta, tc, htv, -, -, -⟩ := hD.tail.ints
              obtain ⟨na, nc, hnv, -, -, -⟩ := hD.next.ints
              obtain ⟨ca, cc, hcv, -, -, -⟩ := hD.cap.ints
              have HD := hide hD; clear hD
              have HB0 := hide ((unhide HE).belowOf (unhide HS).keep)
              clear HS
              subst htv hnv hcv
              go_wp2
              simp only [jumps]
              refine bodyPost_ret (v := .tuple #[.agg #[.int .i64 q'.n, .slice ta q'.tail.length tc, .slice na q'.next.length nc, .slice ca q'.cap.length cc], .int .i64 0, .int .i64 0]) (by simp [results, Tryd.results17, go_sem, z0, z1, z2, z3]) rfl ?_
              rw [unhide HRt]
              have hD := unhide HD
              refine ⟨_, _, _, _, rfl, ⟨rfl, own_mono (own4 hD.tail (by omega)) (by omega), own_mono (own4 hD.next (by omega)) (by omega), own_mono (own4 hD.cap (by omega)) (by omega), hD.tn, hD.tc, hD.nc⟩, ?_⟩
              exact ((((unhide HB0).setCell (by simp) _).setCell (by simp) _).setCell (by simp) _).setCell (by simp) _
end Go.Proofs.YtkmcfjkfoafkoaaDoor
