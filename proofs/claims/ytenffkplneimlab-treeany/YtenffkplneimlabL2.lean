/- What the proof needs, part 2. -/
import Derived.Deep.LoopGhost
import Derived.Laws.CopyOwn
import Derived.Deep.RegionLaw
import Derived.Lib.SliceRun
import Derived.Test.YtenffkplneimlabL1
/- The walks of the second reference's About and Face, where the way comes round. -/
namespace Go.Proofs.Ytenffkplneimlab
open Go Go.RowKit

/-- What comes behind each dart about its face. -/
def Sp.behindL (nx : List Int) : List Int := (List.range nx.length).map fun d => nx.getD (Sp.oth d) 0
theorem Sp.behindL_len (nx : List Int) : (Sp.behindL nx).length = nx.length := by simp [Sp.behindL]
theorem Sp.behindL_get (nx : List Int) (j : Nat) (h : j < nx.length) : (Sp.behindL nx).getD j 0 = nx.getD (Sp.oth j) 0 := by
  rw [Sp.getD_eq _ _ (by rw [Sp.behindL_len]; exact h)]
  simp [Sp.behindL]
theorem Sp.behindL_bd (nx : List Int) (hev : nx.length % 2 = 0) (hx : ∀ x ∈ nx, 0 ≤ x ∧ x < nx.length) : ∀ x ∈ Sp.behindL nx, 0 ≤ x ∧ x < nx.length := by
  intro x hm
  obtain ⟨d, hd, rfl⟩ := List.mem_map.1 hm
  exact hx _ (Sp.getD_mem (oth_lt (List.mem_range.1 hd) hev))
set_option maxRecDepth 100000 in
set_option maxHeartbeats 1000000 in
theorem face2_any (q : Sp.Net) (v tv nv cv : Value) (d m : Nat) (w : World) (hv : NetI w v q tv nv cv) (hL : q.next.length ≤ 240) (hev : q.next.length % 2 = 0) (hx : ∀ x ∈ q.next, 0 ≤ x ∧ x < q.next.length) (hd : d < q.next.length) (hm1 : 1 ≤ m) (hmL : m ≤ 1000)
    (hback : Sp.nth (Sp.behindL q.next) d m = d) (hnot : ∀ i, 0 < i → i < m → Sp.nth (Sp.behindL q.next) d i ≠ d) :
    Calls Try.prog 32 #[v, .int .i64 (d : Int)] w fun e w' => ∃ lv, e = .returned lv ∧ OwnI w' w.heap.size lv (Sp.rounds (Sp.behindL q.next) d m) ∧ Below w.heap.size w w' := by
  obtain ⟨rfl, h1, h2, h3⟩ := hv
  obtain ⟨ta, tc, rfl, -, -⟩ := h1.form
  obtain ⟨na, nc, rfl, hnc, hnm, HN⟩ := h2.all
  obtain ⟨ca, cc, rfl, -, -⟩ := h3.form
  clear h1 h2 h3
  have hnth : ∀ i, 0 ≤ Sp.nth (Sp.behindL q.next) d i ∧ Sp.nth (Sp.behindL q.next) d i < q.next.length := fun i => Sp.nth_bd (Sp.behindL_len q.next) (Sp.behindL_bd q.next hev hx) (by omega) (by omega) i
  have hstep : ∀ j i : Nat, Sp.nth (Sp.behindL q.next) d i = j → (hj : j < q.next.length) → Sp.nth (Sp.behindL q.next) d (i + 1) = q.next[(Sp.oth j)]'(oth_lt hj hev) := fun j i hj hjl => by
    show (Sp.behindL q.next).getD (Sp.nth (Sp.behindL q.next) d i).toNat 0 = _
    rw [hj, Int.toNat_natCast]
    rw [Sp.behindL_get q.next j hjl, Sp.getD_eq _ _ (oth_lt hjl hev)]
  have Hbd := hide hnth
  have Hst := hide hstep
  have Hback := hide hback
  have Hnot := hide hnot
  clear hnth hstep hback hnot hx
  have HR1 : Hid (Sp.rounds (Sp.behindL q.next) d 1 = [(d : Int)]) := hide rfl
  have HBX := hide (box_new w q.n (.slice ta q.tail.length tc) (.slice na q.next.length nc) (.slice ca q.cap.length cc))
  obtain ⟨W1, hW1⟩ : ∃ W1, W1 = w.alloc (.cells #[.int .i64 q.n, .slice ta q.tail.length tc, .slice na q.next.length nc, .slice ca q.cap.length cc] 25) := ⟨_, rfl⟩
  rw [← hW1] at HBX
  have hb1 : Below w.heap.size w W1 := by rw [hW1]; exact (Below.refl _ w).alloc (Nat.le_refl _) _
  have hs1 : W1.heap.size = w.heap.size + 1 := by rw [hW1]; simp
  have HW : Hid (∀ w', Below (w.heap.size + 1) W1 w' → Below w.heap.size w w') := hide fun w' hb => hb1.trans (hb.mono (by omega))
  have hb2 : Below (w.heap.size + 1) W1 (W1.alloc (.cells #[.int .i64 (d : Int)] 3)) := (Below.refl _ _).alloc (by omega) _
  have HO2 : Hid (OwnI (W1.alloc (.cells #[.int .i64 (d : Int)] 3)) (w.heap.size + 1) (.slice (some ⟨w.heap.size + 1, 0, none⟩) 1 1) [(d : Int)]) := hide (own_lit W1 _ _ 1 [(d : Int)] hs1 rfl (by omega) (by simp))
  obtain ⟨x0, x1, x2, x3, hsz⟩ := unhide HBX _ hb2
  obtain ⟨b, o, hna, -, hcx⟩ := unhide HN (Sp.oth d) (oth_lt hd hev)
  subst hna
  have g := hcx _ (unhide HW _ hb2)
  rw [← unhide Hst d 0 rfl hd] at g
  have hdI : (d : Int) < q.next.length := by omega
  have hod := oth_lt hd hev
  have hodI : (((Sp.oth d) : Nat) : Int) < q.next.length := by omega
  have hX := xor_oth ⟨d, by omega⟩
  simp only at hX
  clear hcx
  generalize Sp.oth d = od at *
  have HB2 := hide hb2
  clear hb1 hs1 hb2  x0 x1 x3
  subst hW1
  go_enter Try.func32, Try.ntmps32
  go_wp2
  clear g x2 hod hodI hX
  generalize (w.alloc (.cells #[.int .i64 q.n, .slice ta q.tail.length tc, .slice (some ⟨b, o, none⟩) q.next.length nc, .slice ca q.cap.length cc] 25)) = W1 at *
  go_loopw [5, 6] (fun ov ev wr => ∃ (i : Nat) (oq : Value), oq = ov ∧ 1 ≤ i ∧ i ≤ m ∧ ev = .int .i64 (Sp.nth (Sp.behindL q.next) d i) ∧ OwnI wr (w.heap.size + 1) oq (Sp.rounds (Sp.behindL q.next) d i) ∧ Below (w.heap.size + 1) W1 wr) (fun ov _ _ => 1001 - sliceLen ov)
  case atStart => exact ⟨1, _, rfl, by omega, hm1, rfl, by rw [unhide HR1]; exact unhide HO2, unhide HB2⟩
  case round =>
    clear HO2 HB2
    obtain ⟨i, oq, rfl, hi1, him, rfl, hown, hb⟩ := hrel
    obtain ⟨c0, c1, c2, c3, hszr⟩ := unhide HBX _ hb
    obtain ⟨oa, oc, rfl, -, -⟩ := hown.ints.form
    have hrl := Sp.rounds_len (Sp.behindL q.next) d i
    have HO := hide hown
    rw [hrl] at HO ⊢
    clear hown hrl
    by_cases him' : i < m
    · have hne := unhide Hnot i (by omega) him'
      obtain ⟨y0, y1⟩ := unhide Hbd i
      obtain ⟨j, hj⟩ : ∃ j : Nat, Sp.nth (Sp.behindL q.next) d i = j := ⟨(Sp.nth (Sp.behindL q.next) d i).toNat, by omega⟩
      have HS : Hid (Sp.rounds (Sp.behindL q.next) d (i + 1) = Sp.rounds (Sp.behindL q.next) d i ++ [(j : Int)]) := hide (by rw [Sp.rounds_succ, hj])
      have hjl : j < q.next.length := by omega
      have HNX := hide (unhide Hst j i hj hjl)
      obtain ⟨b3, o3, e3, -, hc3⟩ := unhide HN (Sp.oth j) (oth_lt hjl hev)
      injection e3 with e3
      injection e3 with e31 e32
      subst e31 e32
      rw [hj] at hne ⊢
      have hne' : ((j : Int) == (d : Int)) = false := beq_eq_false_iff_ne.2 hne
      have hne2 : ((j : Int) != (d : Int)) = true := by simp [bne, hne']
      have hne3 : ¬ (j : Int) = (d : Int) := hne
      have hjL : (j : Int) < q.next.length := by omega
      have hoj := oth_lt hjl hev
      have hojI : (((Sp.oth j) : Nat) : Int) < q.next.length := by omega
      clear hj hne y0 y1
      have hX := xor_oth ⟨j, by omega⟩
      simp only at hX
      generalize q.next[(Sp.oth j)]'_ = z at *
      generalize Sp.oth j = oj at *
      go_wp2_with (at_builtin; refine wpList_app (w := wr.alloc (.cells #[.int .i64 (j : Int)] 3)) rfl _ _ rfl (w.heap.size + 1) _ _ (Sp.rounds (Sp.behindL q.next) d i) [(j : Int)] rfl rfl (World.ownsRow.alloc (unhide HO) _) (OwnI.ints (own_lit wr 0 _ 1 [(j : Int)] rfl rfl (by omega) (by simp))) (i + 1) (by rw [Sp.rounds_len]; rfl) (by omega) (by simp; omega) ?_)
      intro a6 c6 w6 hown6 hb6 hgr6
      have hb6' : Below (w.heap.size + 1) W1 w6 := (hb.alloc hszr _).trans hb6
      have HO6 := hide hown6
      clear hgr6 hb6 c0 c1 c2 c3 hown6 HO
      obtain ⟨c0, c1, c2, c3, hszr6⟩ := unhide HBX _ hb6'
      have g3 := hc3 _ (unhide HW _ hb6')
      clear hc3
      go_wp2
      go_roundw
      case rel => exact ⟨i + 1, _, rfl, by omega, by omega, by rw [unhide HNX], by rw [unhide HS]; exact unhide HO6, hb6'⟩
      case measure => simp [sliceLen]; omega
    · obtain rfl : i = m := by omega
      rw [unhide Hback]
      have hkk : ((d : Int) == (d : Int)) = true := beq_self_eq_true _
      go_wp2
      go_ret
      exact ⟨_, rfl, own_base (unhide HO) (by omega), unhide HW _ hb⟩
end Go.Proofs.Ytenffkplneimlab


/- The walk of package rot: rounds. -/
namespace Go.Proofs.Ytenffkplneimlab
open Go Go.RowKit

/-- One round, from d on: what was met, and the round's darts behind it, where it comes back to its least. -/
def Sp.walkR (st : List Int) (least : Int) : Nat → Int → List Int → Option (List Int)
  | 0, _, _ => none
  | f + 1, d, row => if d ∈ row then (if d = least then some row else none) else Sp.walkR st least f (st.getD d.toNat 0) (row ++ [d])
/-- All rounds, as the row of their darts and the ends of each. -/
def Sp.rgo (st : List Int) : Nat → Nat → List Int → List (Nat × Nat) → Option (List Int × List (Nat × Nat))
  | 0, _, row, ps => some (row, ps)
  | f + 1, k, row, ps => if (k : Int) ∈ row then Sp.rgo st f (k + 1) row ps else
      match Sp.walkR st k (st.length + 1 - row.length) k row with
      | some row' => Sp.rgo st f (k + 1) row' (ps ++ [(row.length, row'.length)])
      | none => none
def Sp.rnds (st : List Int) : Option (List Int × List (Nat × Nat)) := Sp.rgo st st.length 0 [] []
def Sp.metL (n : Nat) (row : List Int) : List Bool := (List.range n).map fun (d : Nat) => decide ((d : Int) ∈ row)
theorem Sp.metL_len (n : Nat) (row : List Int) : (Sp.metL n row).length = n := by simp [Sp.metL]
theorem Sp.metL_get (n : Nat) (row : List Int) (d : Nat) (h : d < (Sp.metL n row).length) : (Sp.metL n row)[d] = decide ((d : Int) ∈ row) := by simp [Sp.metL]
theorem Sp.metL_set (n : Nat) (row : List Int) (d : Nat) : (Sp.metL n row).set d true = Sp.metL n (row ++ [(d : Int)]) := by
  apply List.ext_getElem
  · simp [Sp.metL]
  · intro i h1 h2
    rw [List.getElem_set, Sp.metL_get n (row ++ [(d : Int)]) i h2]
    split
    · rename_i h; subst h; simp
    · rename_i h
      rw [Sp.metL_get]
      have : ¬ ((i : Int) = (d : Int)) := by omega
      simp [this]
/-- A row of numbers below n, each once, is no longer than n. -/
theorem nodup_le : ∀ (n : Nat) (l : List Int), l.Nodup → (∀ x ∈ l, 0 ≤ x ∧ x < (n : Int)) → l.length ≤ n
  | 0, l, _, h => by
    cases l with
    | nil => simp
    | cons x r => have := h x (by simp); omega
  | n + 1, l, hd, h => by
    have h1 : (l.erase (n : Int)).length ≤ n := nodup_le n _ (hd.erase _) fun x hx => by
      have h2 := (List.Nodup.mem_erase_iff hd).1 hx
      have h3 := h x h2.2
      have h4 := h2.1
      omega
    have h2 := List.length_erase (a := (n : Int)) (l := l)
    split at h2 <;> omega

theorem infoB : (Try.prog.info? 4).map (fun i => (i.zero, i.size, i.bytes)) = some (some (.bool false), 1, 1) := by kernel_rfl
abbrev OwnB (w : World) (base : Nat) (v : Value) (l : List Bool) : Prop := w.ownsRow base 4 1 v l.length (l.map Value.bool)
def pieceV (g : Nat) (p : Nat × Nat) : Value := .slice (some ⟨g, p.1, none⟩) (p.2 - p.1) (p.2 - p.1)
/-- What rounds leaves. -/
def RoundsPost (st : List Int) (w : World) (e : Ending) (w' : World) : Prop :=
  Below w.heap.size w w' ∧ (∀ row ps, Sp.rnds st = some (row, ps) → ∃ lv, e = .returned (.tuple #[lv, .bool true]) ∧ OwnI w' w.heap.size (.slice (some ⟨w.heap.size, 0, none⟩) row.length st.length) row ∧ w'.ownsRow w.heap.size 22 1 lv ps.length (ps.map (pieceV w.heap.size)))
    ∧ (Sp.rnds st = none → e = .returned (.tuple #[.slice none 0 0, .bool false]))
/-- The three rows that rounds keeps. -/
structure RKeep (B M n : Nat) (W wr : World) (row : List Int) (ps : List (Nat × Nat)) (lq : Value) : Prop where
  rw1 : OwnI wr B (.slice (some ⟨B, 0, none⟩) row.length n) row
  met : OwnB wr B (.slice (some ⟨M, 0, none⟩) n n) (Sp.metL n row)
  ls : wr.ownsRow (M + 1) 22 1 lq ps.length (ps.map (pieceV B))
  bel : Below B W wr
  big : M < wr.heap.size
  lt : B < M
structure RFit (n : Nat) (row : List Int) : Prop where
  nd : row.Nodup
  bd : ∀ x ∈ row, 0 ≤ x ∧ x < (n : Int)
theorem RFit.le {n : Nat} {row : List Int} (h : RFit n row) : row.length ≤ n := nodup_le n row h.nd h.bd
theorem RFit.snoc {n : Nat} {row : List Int} (h : RFit n row) (d : Nat) (hd : d < n) (hn : ¬ (d : Int) ∈ row) : RFit n (row ++ [(d : Int)]) := by
  refine ⟨?_, ?_⟩
  · rw [List.nodup_append]
    refine ⟨h.nd, by simp, ?_⟩
    intro a ha b hb
    rw [List.mem_singleton] at hb
    subst hb
    intro e; subst e; exact hn ha
  · intro x hx
    rcases List.mem_append.1 hx with hx | hx
    · exact h.bd x hx
    · rw [List.mem_singleton] at hx; subst hx; omega
theorem made_bools' (n : Nat) : (madeCells #[Value.bool false] n).toList = (List.replicate n false).map Value.bool := by
  rw [toList_madeCells_one]
  simp
/-- A dart met: its mark is set, then it is laid behind the row. -/
theorem RKeep.push {B M n : Nat} {W wr : World} {row : List Int} {ps : List (Nat × Nat)} {lq : Value} (h : RKeep B M n W wr row ps lq) (d : Nat) (ob : Obj) (w6 : World) (hgr : ((wr.setCell ⟨M, d, none⟩ (.bool true)).alloc ob).grownBy w6 (some B))
    (hrow : w6.ownsRow B 3 1 (.slice (some ⟨B, 0, none⟩) (row.length + 1) n) (row.length + 1) (row.map (Value.int .i64) ++ [.int .i64 (d : Int)])) : RKeep B M n W w6 (row ++ [(d : Int)]) ps lq := by
  have hlt := h.lt
  have hbig := h.big
  have hm := h.met
  unfold OwnB at hm
  rw [Sp.metL_len] at hm
  obtain ⟨hm2, hg2⟩ := World.ownsRow.stored hm d (.bool true)
  have hls : (wr.setCell ⟨M, d, none⟩ (.bool true)).ownsRow (M + 1) 22 1 lq ps.length (ps.map (pieceV B)) := h.ls.kept hg2 (by
    cases hq : lq.ownBlock with
    | none => exact .inl rfl
    | some q => exact .inr (by have := (h.ls.lt q hq).1; simp; omega))
  have hsz : (wr.setCell ⟨M, d, none⟩ (.bool true)).heap.size = wr.heap.size := by simp
  refine ⟨?_, ?_, ?_, ?_, ?_, hlt⟩
  · show w6.ownsRow B 3 1 (.slice (some ⟨B, 0, none⟩) (row ++ [(d : Int)]).length n) (row ++ [(d : Int)]).length ((row ++ [(d : Int)]).map (Value.int .i64))
    simpa using hrow
  · have h3 := (hm2.alloc ob).kept hgr (.inr (by simp [Value.ownBlock]; omega))
    show w6.ownsRow B 4 1 _ (Sp.metL n (row ++ [(d : Int)])).length ((Sp.metL n (row ++ [(d : Int)])).map Value.bool)
    rw [Sp.metL_len, ← Sp.metL_set, List.map_set]
    exact h3
  · refine (hls.alloc ob).kept hgr ?_
    cases hq : lq.ownBlock with
    | none => exact .inl rfl
    | some q => exact .inr (by have := (h.ls.lt q hq).1; simp; omega)
  · exact ((h.bel.grown hg2 (by omega) (by simp; omega)).alloc (by rw [hsz]; omega) ob).grown hgr (by simp; omega) (by simp)
  · have := hgr.size
    simp at this
    omega
/-- A round laid behind the others. -/
theorem RKeep.round {B M n : Nat} {W wr : World} {row : List Int} {ps : List (Nat × Nat)} {lq lv : Value} (h : RKeep B M n W wr row ps lq) (b : Nat) (ob : Obj) (w6 : World) (hgr : (wr.alloc ob).grownBy w6 lq.ownBlock)
    (hls : w6.ownsRow (M + 1) 22 1 lv (ps.length + 1) (ps.map (pieceV B) ++ [pieceV B (b, row.length)])) : RKeep B M n W w6 row (ps ++ [(b, row.length)]) lv := by
  have hlt := h.lt
  have hbig := h.big
  have hfar : ∀ x, x ≤ M → some x ≠ lq.ownBlock := fun x hx e => by
    have := (h.ls.lt x e.symm).1
    omega
  refine ⟨?_, ?_, ?_, ?_, ?_, hlt⟩
  · exact (World.ownsRow.alloc h.rw1 ob).kept hgr (.inr (hfar B (by omega)))
  · exact (World.ownsRow.alloc h.met ob).kept hgr (.inr (hfar M (by omega)))
  · simpa using hls
  · exact (h.bel.alloc (by omega) ob).grown hgr (by simp; omega) fun k hk => by have := (h.ls.lt k hk).1; omega
  · have := hgr.size
    simp at this
    omega
end Go.Proofs.Ytenffkplneimlab


/- What rounds tells is sound; the walk of package rot: turning. -/
namespace Go.Proofs.Ytenffkplneimlab
open Go Go.RowKit

theorem walkR_ok {st : List Int} {n : Nat} (hn : st.length = n) (hx : ∀ x ∈ st, 0 ≤ x ∧ x < (n : Int)) (least : Int) : ∀ f d row row', Sp.walkR st least f d row = some row' → 0 ≤ d → d < (n : Int) → RFit n row → RFit n row' ∧ least ∈ row' ∧ ∃ m, row' = row ++ m
  | 0, d, row, row', h, _, _, _ => by simp [Sp.walkR] at h
  | f + 1, d, row, row', h, h0, h1, hf => by
    rw [Sp.walkR] at h
    by_cases hd : d ∈ row
    · rw [if_pos hd] at h
      by_cases hl : d = least
      · rw [if_pos hl] at h
        cases h
        exact ⟨hf, hl ▸ hd, [], by simp⟩
      · rw [if_neg hl] at h
        cases h
    · rw [if_neg hd] at h
      have hdn : d.toNat < n := by omega
      have hdd : ((d.toNat : Nat) : Int) = d := by omega
      have hs := hf.snoc d.toNat hdn (by rw [hdd]; exact hd)
      rw [hdd] at hs
      have hb := hx _ (Sp.getD_mem (l := st) (k := d.toNat) (by omega))
      obtain ⟨r1, r2, m, r3⟩ := walkR_ok hn hx least f _ _ _ h hb.1 hb.2 hs
      exact ⟨r1, r2, d :: m, by rw [r3]; simp⟩
structure POk (n : Nat) (row : List Int) (ps : List (Nat × Nat)) : Prop where
  fit : RFit n row
  ok : ∀ p ∈ ps, p.1 < p.2 ∧ p.2 ≤ row.length
theorem rgo_ok {st : List Int} {n : Nat} (hn : st.length = n) (hx : ∀ x ∈ st, 0 ≤ x ∧ x < (n : Int)) : ∀ f k row ps row' ps', k + f = n → Sp.rgo st f k row ps = some (row', ps') → POk n row ps → POk n row' ps' ∧ ps'.length ≤ ps.length + f
  | 0, k, row, ps, row', ps', _, h, hp => by
    simp only [Sp.rgo, Option.some.injEq, Prod.mk.injEq] at h
    obtain ⟨rfl, rfl⟩ := h
    exact ⟨hp, by omega⟩
  | f + 1, k, row, ps, row', ps', hk, h, hp => by
    rw [Sp.rgo] at h
    by_cases hm : (k : Int) ∈ row
    · rw [if_pos hm] at h
      obtain ⟨r1, r2⟩ := rgo_ok hn hx f (k + 1) row ps row' ps' (by omega) h hp
      exact ⟨r1, by omega⟩
    · rw [if_neg hm] at h
      cases hw : Sp.walkR st k (st.length + 1 - row.length) k row with
      | none => rw [hw] at h; cases h
      | some row1 =>
        rw [hw] at h
        obtain ⟨q1, q2, m, q3⟩ := walkR_ok hn hx k _ _ _ _ hw (by omega) (by omega) hp.fit
        have hlen : row.length < row1.length := by
          cases m with
          | nil => rw [List.append_nil] at q3; subst q3; exact absurd q2 hm
          | cons a r => rw [q3]; simp
        obtain ⟨r1, r2⟩ := rgo_ok hn hx f (k + 1) row1 _ row' ps' (by omega) h ⟨q1, fun p hpm => by
          rcases List.mem_append.1 hpm with hpm | hpm
          · have := hp.ok p hpm; omega
          · rw [List.mem_singleton] at hpm; subst hpm; exact ⟨hlen, Nat.le_refl _⟩⟩
        exact ⟨r1, by simp at r2; omega⟩
theorem rnds_ok {st : List Int} (hx : ∀ x ∈ st, 0 ≤ x ∧ x < (st.length : Int)) {row : List Int} {ps : List (Nat × Nat)} (h : Sp.rnds st = some (row, ps)) : POk st.length row ps ∧ ps.length ≤ st.length := by
  have := rgo_ok rfl hx st.length 0 [] [] row ps (by omega) h ⟨⟨by simp, by simp⟩, by simp⟩
  simpa using this
def Sp.piece (row : List Int) (p : Nat × Nat) : List Int := (row.drop p.1).take (p.2 - p.1)
def Sp.rndsD (st : List Int) : List Int × List (Nat × Nat) := (Sp.rnds st).getD ([], [])
/-- What rounds leaves, in one form. -/
theorem RoundsPost.one {st : List Int} {w w' : World} {e : Ending} (h : RoundsPost st w e w') (hx : ∀ x ∈ st, 0 ≤ x ∧ x < (st.length : Int)) :
    ∃ lv, e = .returned (.tuple #[lv, .bool (Sp.rnds st).isSome]) ∧ Below w.heap.size w w' ∧ (Sp.rndsD st).2.length ≤ st.length ∧ POk st.length (Sp.rndsD st).1 (Sp.rndsD st).2 ∧ w'.ownsRow w.heap.size 22 1 lv (Sp.rndsD st).2.length ((Sp.rndsD st).2.map (pieceV w.heap.size))
      ∧ (∀ k, (hk : k < (Sp.rndsD st).1.length) → ∀ w'', Below w'.heap.size w' w'' → w''.cell? ⟨w.heap.size, k, none⟩ = some (.int .i64 (Sp.rndsD st).1[k]) ∧ w''.frozen? ⟨w.heap.size, k, none⟩ = false) := by
  obtain ⟨hb, hs, hn⟩ := h
  unfold Sp.rndsD
  cases hr : Sp.rnds st with
  | none =>
    refine ⟨_, hn hr, hb, by simp, ⟨⟨by simp, by simp⟩, by simp⟩, World.ownsRow_nil _ _ _ _, ?_⟩
    intro k hk
    simp at hk
  | some rp =>
    obtain ⟨row, ps⟩ := rp
    obtain ⟨lv, he, ho, hl⟩ := hs row ps hr
    obtain ⟨h1, h2⟩ := rnds_ok hx hr
    refine ⟨lv, he, hb, h2, h1, hl, ?_⟩
    intro k hk w'' hb'
    have h3 : OwnI w'' w.heap.size (.slice (some ⟨w.heap.size, 0, none⟩) row.length st.length) row := own_below ho hb'
    exact ⟨own_cell h3 k hk, own_frozen h3 k⟩
end Go.Proofs.Ytenffkplneimlab


/- The walk of package rot: turning. -/
namespace Go.Proofs.Ytenffkplneimlab
open Go Go.RowKit

theorem owns_bool {w : World} {base g n : Nat} {l : List Bool} (h : OwnB w base (.slice (some ⟨g, 0, none⟩) n n) l) (hl : l.length = n) (d : Nat) (hd : d < n) : w.cell? ⟨g, d, none⟩ = some (.bool (l[d]'(by omega))) := by
  unfold OwnB at h
  rw [hl] at h
  rw [World.ownsRow.cellAt h d (by omega), List.getElem?_eq_getElem (by simp; omega)]
  simp
end Go.Proofs.Ytenffkplneimlab


/- The walk of package rot: Faces. -/
namespace Go.Proofs.Ytenffkplneimlab
open Go Go.RowKit

structure WalkQ (q : Sp.Net) : Prop where
  n1 : q.n ≤ 60
  n0 : 0 ≤ q.n
  big : q.tail.length ≤ 240
  ev : q.tail.length % 2 = 0
  nx : q.next.length = q.tail.length
  cp : q.cap.length = q.tail.length
  nb : ∀ x ∈ q.next, 0 ≤ x ∧ x < (q.next.length : Int)
  tb : ∀ x ∈ q.tail, 0 ≤ x ∧ x < q.n
theorem walkB_of {q : Sp.Net} (h : WalkQ q) : Sp.walkB q = true := by
  simp only [Sp.walkB, Sp.fewB, Sp.matchedB, Sp.placedB, Bool.and_eq_true, decide_eq_true_eq, List.all_eq_true, Sp.inB]
  exact ⟨⟨h.n1, h.big⟩, ⟨⟨h.ev, h.nx, h.cp⟩, fun x hx => by rw [← h.nx]; exact h.nb x hx⟩, h.tb, h.n0⟩
def Sp.paint (k : Int) (of : List Int) (ds : List Int) : List Int := ds.foldl (fun o d => o.set d.toNat k) of
theorem Sp.paint_len (k : Int) : ∀ (ds of : List Int), (Sp.paint k of ds).length = of.length
  | [], _ => rfl
  | d :: r, of => by
    show (Sp.paint k (of.set d.toNat k) r).length = _
    rw [Sp.paint_len k r]; simp
theorem ret_tup (a : Value) {x y : Int} (h : x = y) : Ending.returned (.tuple #[a, .int .i64 x]) = Ending.returned (.tuple #[a, .int .i64 y]) := by rw [h]
end Go.Proofs.Ytenffkplneimlab


/- The walks of the library's bits.Mul and slices.Repeat, as far as they are called. -/
namespace Go.Proofs.Ytenffkplneimlab
open Go Go.RowKit

theorem and_mask : ∀ d : Fin 61, bits .and .u64 ((d.val : Nat) : Int) 4294967295 = ((d.val : Nat) : Int) := by decide +kernel
set_option maxRecDepth 100000 in
set_option maxHeartbeats 1000000 in
theorem mul64_any (N : Nat) (w : World) (hN : N ≤ 60) :
    Calls Try.prog 40 #[.int .u64 1, .int .u64 (N : Int)] w fun e w' => e = .returned (.tuple #[.int .u64 0, .int .u64 (N : Int)]) ∧ w' = w := by
  have h1 := and_mask ⟨N, by omega⟩
  simp only at h1
  have h2 : bits .and .u64 1 4294967295 = 1 := by decide +kernel
  have h3 : bits .and .u64 0 4294967295 = 0 := by decide +kernel
  have h4 : (N : Int) / 4294967296 = 0 := by omega
  have h5 : IntKind.u64.wrap (N : Int) = (N : Int) := by simp [IntKind.wrap, IntKind.bits]; omega
  have h6 : IntKind.u64.wrap 0 = 0 := by decide +kernel
  obtain ⟨P, hP⟩ : ∃ P : Ending → World → Prop, P = fun e w' => e = .returned (.tuple #[.int .u64 0, .int .u64 (N : Int)]) ∧ w' = w := ⟨_, rfl⟩
  rw [← hP]
  have HP := hide hP
  clear hP
  go_enter Try.func40, Try.ntmps40
  go_wp2
  rw [unhide HP]
  exact ⟨rfl, rfl⟩
set_option maxRecDepth 100000 in
set_option maxHeartbeats 1000000 in
theorem mul_any (N : Nat) (w : World) (hN : N ≤ 60) :
    Calls Try.prog 35 #[.int .u64 1, .int .u64 (N : Int)] w fun e w' => e = .returned (.tuple #[.int .u64 0, .int .u64 (N : Int)]) ∧ w' = w := by
  have HC := hide (mul64_any N w hN)
  obtain ⟨P, hP⟩ : ∃ P : Ending → World → Prop, P = fun e w' => e = .returned (.tuple #[.int .u64 0, .int .u64 (N : Int)]) ∧ w' = w := ⟨_, rfl⟩
  rw [← hP]
  have HP := hide hP
  clear hP
  go_enter Try.func35, Try.ntmps35
  go_wp2_with fail
  go_at_call 40
  refine (unhide HC).mono ?_
  rintro e w' ⟨rfl, rfl⟩
  go_wp2
  rw [unhide HP]
  exact ⟨rfl, rfl⟩
theorem own_heap {w : World} {B g n : Nat} {l : List Int} (h : OwnI w B (.slice (some ⟨g, 0, none⟩) n n) l) (hl : l.length = n) : w.heap[g]? = some (.cells (l.map (Value.int .i64)).toArray 3 (0, 0)) ∧ B ≤ g := by
  obtain ⟨h1, ⟨h2, -⟩ | ⟨g', cap, cur, e, hg, hh, hnc, hcm, hsz, htk⟩⟩ := h
  · cases h2
  · injection e with e1 e2 e3
    injection e1 with e1
    injection e1 with e1 _
    subst e1 e3
    rw [hl] at e2 hnc htk
    have : cur.toList = l.map (Value.int .i64) := by
      rw [← htk, List.take_of_length_le]
      simp; omega
    rw [← this]
    exact ⟨by simpa using hh, hg⟩
theorem own_of_heap {w : World} {B g n : Nat} {l : List Int} (h : w.heap[g]? = some (.cells (l.map (Value.int .i64)).toArray 3 (0, 0))) (hl : l.length = n) (hB : B ≤ g) (hn : n ≤ 1000000) : OwnI w B (.slice (some ⟨g, 0, none⟩) n n) l := by
  subst hl
  exact ⟨by simp, .inr ⟨g, l.length, _, rfl, hB, h, Nat.le_refl _, by unfold maxLen; omega, by simp, by rw [List.take_of_length_le (by simp)]⟩⟩
theorem splice_rep (N m c : Nat) (x : Int) (h : m + c ≤ N) : splice ((List.replicate m x ++ List.replicate (N - m) (0 : Int)).map (Value.int .i64)) m ((List.replicate c x).map (Value.int .i64)) = (List.replicate (m + c) x ++ List.replicate (N - (m + c)) (0 : Int)).map (Value.int .i64) := by
  unfold splice
  rw [List.map_append, List.take_left' (by simp), List.drop_append]
  simp only [List.length_replicate, List.map_replicate, List.map_append, List.drop_replicate]
  rw [show m - (m + c) = 0 by omega, show N - m - (m + c - m) = N - (m + c) by omega, List.replicate_zero, List.nil_append, ← List.append_assoc, List.replicate_append_replicate]
theorem run_copy_rep (w : World) (B g m N : Nat) (x : Int) (hm : m < N) (hN : N ≤ 60) (hB : B ≤ g) (hO : OwnI w B (.slice (some ⟨g, 0, none⟩) N N) (List.replicate m x ++ List.replicate (N - m) (0 : Int))) :
    ∃ w4, (Builtin.copy_ #[22, 22] 3 #[.slice (some ⟨g, m, none⟩) (N - m) (N - m), .slice (some ⟨g, 0, none⟩) m N]).run Try.prog w = .ok (.int .i64 ((min m (N - m) : Nat) : Int)) w4 ∧ OwnI w4 B (.slice (some ⟨g, 0, none⟩) N N) (List.replicate (m + min m (N - m)) x ++ List.replicate (N - (m + min m (N - m))) (0 : Int)) ∧ Below B w w4 := by
  have hszI : (Try.prog.info? 3).map (·.size) = some 1 := by kernel_rfl
  have hh := (own_heap hO (by simp; omega)).1
  have hsp := splice_rep N m (min m (N - m)) x (by omega)
  have h := run_copy_row (P := Try.prog) w 22 22 3 3 g m (N - m) (N - m) ⟨g, 0, none⟩ m N _ 3 ((List.replicate (min m (N - m)) x).map (Value.int .i64)) Try.underlying22 hszI hh (by simp)
    (fun j v hj => by
      obtain ⟨hj1, hj2⟩ := List.getElem?_eq_some_iff.1 hj
      simp only [List.length_map, List.length_replicate] at hj1
      rw [← hj2]
      simp only [List.getElem_map, List.getElem_replicate, Addr.add_lit, Nat.zero_add]
      have h := own_cell hO j (by simp; omega)
      rw [List.getElem_append_left (by simp; omega), List.getElem_replicate] at h
      exact h) (by simp; omega) (ints_oneCell _ _)
  have hl : ((List.replicate (min m (N - m)) x).map (Value.int .i64)).length = min m (N - m) := by simp
  rw [hl] at h
  refine ⟨_, h, own_of_heap ?_ (by simp; omega) hB (by omega), below_setRow (Below.refl _ _) hB _⟩
  rw [setRow_heap w g _ _ _ _ hh, ← hsp, splice, hl, List.append_assoc]
set_option maxRecDepth 100000 in
set_option maxHeartbeats 1000000 in
theorem repeat_any (x : Int) (xb N : Nat) (w : World) (hN : N ≤ 60) (hc : w.cell? ⟨xb, 0, none⟩ = some (.int .i64 x)) (hxb : xb < w.heap.size) :
    Calls Try.prog 24 #[.slice (some ⟨xb, 0, none⟩) 1 1, .int .i64 (N : Int)] w fun e w' => e = .returned (.slice (some ⟨w.heap.size, 0, none⟩) N N) ∧ OwnI w' w.heap.size (.slice (some ⟨w.heap.size, 0, none⟩) N N) (List.replicate N x) ∧ Below w.heap.size w w' := by
  have HC := hide (mul_any N w hN)
  have Hc := hide hc
  clear hc
  have h5 : IntKind.u64.wrap (N : Int) = (N : Int) := by simp [IntKind.wrap, IntKind.bits]; omega
  have hszI : (Try.prog.info? 3).map (·.size) = some 1 := by kernel_rfl
  have HsI := hide hszI
  clear hszI
  go_enter Try.func24, Try.ntmps24
  go_wp2_with fail
  go_at_call 35
  refine (unhide HC).mono ?_
  clear HC
  rintro e w' ⟨rfl, rfl⟩
  go_wp2_with (at_make; refine wpList_mk rfl _ _ rfl w'.heap.size N rfl rfl (by omega) (Nat.le_refl _) ?_)
  intro w3 hown3 hb3 hlt3
  have HO3 := hide hown3
  have HB3 := hide hb3
  clear hown3 hb3 hlt3
  obtain ⟨cs, hcs⟩ : ∃ cs, cs = List.replicate (min 1 N) x := ⟨_, rfl⟩
  have hcl : cs.length = min 1 N := by rw [hcs]; simp
  have HCL1 : Hid ((cs.map (Value.int .i64)).length = Nat.min 1 N) := hide (by rw [List.length_map]; exact hcl)
  have HCL2 : Hid (0 + (cs.map (Value.int .i64)).length ≤ ((List.replicate N (0 : Int)).map (Value.int .i64)).length) := hide (by rw [List.length_map, List.length_map, List.length_replicate, hcl]; omega)
  have HPOS : Hid (0 < (cs.map (Value.int .i64)).length → some (⟨w'.heap.size, 0, none⟩ : Addr) = some ⟨w'.heap.size, 0, none⟩ ∧ ∃ ad, some (⟨xb, 0, none⟩ : Addr) = some ad ∧ ∀ j v, (cs.map (Value.int .i64))[j]? = some v → w3.cell? (ad.add j) = some v) := by
    refine hide fun _ => ⟨rfl, _, rfl, ?_⟩
    intro j v hj
    obtain ⟨hj1, hj2⟩ := List.getElem?_eq_some_iff.1 hj
    rw [List.length_map, hcl] at hj1
    have hj0 : j = 0 := by omega
    subst hj0 hcs
    rw [← hj2]
    simp only [List.getElem_map, List.getElem_replicate, Addr.add_lit]
    exact ((unhide HB3).cell (by exact hxb)).trans (unhide Hc)
  have HSP : Hid (splice ((List.replicate N (0 : Int)).map (Value.int .i64)) 0 (cs.map (Value.int .i64)) = (List.replicate (min 1 N) x ++ List.replicate (N - min 1 N) (0 : Int)).map (Value.int .i64)) := by
    have h := splice_rep N 0 (min 1 N) x (by omega)
    simp only [List.replicate_zero, List.nil_append, Nat.sub_zero, Nat.zero_add] at h
    rw [hcs]
    exact hide h
  have HCL3 : Hid (((cs.map (Value.int .i64)).length : Int) = ((min 1 N : Nat) : Int)) := hide (by rw [List.length_map, hcl])
  have HONE : Hid (∀ v ∈ cs.map (Value.int .i64), v.oneCell' = true) := hide (ints_oneCell _ _)
  have HOH := hide (own_heap (unhide HO3) (by simp)).1
  clear hcs hcl HO3
  generalize cs.map (Value.int .i64) = cv at *
  generalize (List.replicate N (0 : Int)).map (Value.int .i64) = zv at *
  go_wp2_with ((refine wpList_copy_splice rfl _ _ 22 22 rfl 3 Try.underlying22 (unhide HsI) (some ⟨w'.heap.size, 0, none⟩) (some ⟨xb, 0, none⟩) N N 1 1 rfl rfl w'.heap.size 0 zv 3 (unhide HOH) cv (unhide HCL1) (unhide HPOS) (unhide HCL2) (unhide HONE) w'.heap.size w' (unhide HB3) (Nat.le_refl _) ?_))
  intro w4 hh4 hb4
  rw [unhide HSP] at hh4
  have HO4 : Hid (OwnI w4 w'.heap.size (.slice (some ⟨w'.heap.size, 0, none⟩) N N) (List.replicate (min 1 N) x ++ List.replicate (N - min 1 N) (0 : Int))) := hide (own_of_heap (unhide hh4) (by simp; omega) (Nat.le_refl _) (by omega))
  have HB4 := hide hb4
  have hcvl : (cv.length : Int) = ((min 1 N : Nat) : Int) := unhide HCL3
  rw [hcvl]
  clear hh4 hb4 HOH HONE HSP HPOS HCL1 HCL2 HCL3 HB3 hcvl
  have hm1 : (1 ≤ min 1 N ∨ N = 0) ∧ min 1 N ≤ N := by omega
  generalize min 1 N = m0 at *
  go_wp2
  go_loopg [8] N (fun g i wr => ∃ m : Nat, (1 ≤ m ∨ N = 0) ∧ m ≤ N ∧ N - m ≤ g ∧ i = .int .i64 (m : Int) ∧ Hid (OwnI wr w'.heap.size (.slice (some ⟨w'.heap.size, 0, none⟩) N N) (List.replicate m x ++ List.replicate (N - m) (0 : Int)) ∧ Below w'.heap.size w' wr))
  case atStart => exact ⟨m0, hm1.1, hm1.2, by omega, rfl, hide ⟨unhide HO4, unhide HB4⟩⟩
  case round =>
    clear HO4 HB4 hm1
    obtain ⟨m, hm1, hmN, hmg, rfl, HI⟩ := hrel
    by_cases hlt : m < N
    · have hltI : (m : Int) < (N : Int) := by omega
      obtain ⟨c, hc⟩ : ∃ c, c = min m (N - m) := ⟨_, rfl⟩
      obtain ⟨w4, hrun, hown4, hb4⟩ := run_copy_rep wr.drew w'.heap.size w'.heap.size m N x hlt hN (Nat.le_refl _) (own_drew (unhide HI).1)
      rw [← hc] at hrun hown4
      have HO4 := hide hown4
      have HB4 : Hid (Below w'.heap.size w' w4) := hide ((unhide HI).2.drew.trans hb4)
      have Hc := hide hc
      have hne1 : ¬ N = m := by omega
      have hcb : c ≤ N - m := by omega
      have hc1 : 1 ≤ c := by omega
      clear hown4 hb4 hc
      go_wp2
      go_region
      go_wp2
      go_roundg (N - (m + c))
      case rel => exact ⟨m + c, by omega, by omega, by omega, by go_num, hide ⟨unhide HO4, unhide HB4⟩⟩
      case measure => omega
    · obtain rfl : m = N := by omega
      have HF : Hid (OwnI wr w'.heap.size (.slice (some ⟨w'.heap.size, 0, none⟩) m m) (List.replicate m x)) := by
        have h := (unhide HI).1
        simp only [Nat.sub_self, List.replicate_zero, List.append_nil] at h
        exact hide h
      go_wp2
      go_ret
      exact ⟨rfl, unhide HF, (unhide HI).2⟩
end Go.Proofs.Ytenffkplneimlab


/- The walk of package rot: Parts. -/
namespace Go.Proofs.Ytenffkplneimlab
open Go Go.RowKit

structure PKeep (B O N : Nat) (W wr : World) (of : List Int) : Prop where
  len : of.length = N
  own : OwnI wr B (.slice (some ⟨O, 0, none⟩) N N) of
  bel : Below B W wr
  lt : O < wr.heap.size
  ge : B ≤ O
structure FKeep (O N : Nat) (wr : World) (of fd : List Int) (fv : Value) : Prop where
  own : OwnI wr (O + 1) fv fd
  fit : RFit N fd
  set : ∀ x ∈ fd, of.getD x.toNat 0 ≠ -1
theorem PKeep.below {B O N : Nat} {W wr w5 : World} {of : List Int} (h : PKeep B O N W wr of) (hb : Below wr.heap.size wr w5) : PKeep B O N W w5 of :=
  ⟨h.len, own_below h.own hb, h.bel.trans (hb.mono (by have := h.lt; have := h.ge; omega)), Nat.lt_of_lt_of_le h.lt hb.size, h.ge⟩
theorem own_apart {w w' : World} {B O n c : Nat} {l : List Int} (h : OwnI w B (.slice (some ⟨O, 0, none⟩) n c) l) (hb : Below (O + 1) w w') : OwnI w' B (.slice (some ⟨O, 0, none⟩) n c) l := by
  obtain ⟨hx, ⟨hv, -⟩ | ⟨g, cap, cur, hv, hg, hh, r⟩⟩ := h
  · cases hv
  · refine ⟨hx, .inr ⟨g, cap, cur, hv, hg, ?_, r⟩⟩
    injection hv with h1
    injection h1 with h1
    injection h1 with h1 _
    rw [hb.block g (by omega)]
    exact hh
theorem PKeep.apart {B O N : Nat} {W wr w5 : World} {of : List Int} (h : PKeep B O N W wr of) (hb : Below (O + 1) wr w5) : PKeep B O N W w5 of :=
  ⟨h.len, own_apart h.own hb, h.bel.trans (hb.mono (by have := h.ge; omega)), Nat.lt_of_lt_of_le h.lt hb.size, h.ge⟩
theorem PKeep.set {B O N : Nat} {W wr : World} {of : List Int} (h : PKeep B O N W wr of) (x : Nat) (p : Int) : PKeep B O N W (wr.setCell ⟨O, x, none⟩ (.int .i64 p)) (of.set x p) :=
  ⟨by rw [List.length_set]; exact h.len, own_setCell h.own x p, h.bel.setCell (by exact h.ge) _, by simpa using h.lt, h.ge⟩
theorem FKeep.below {O N : Nat} {wr w5 : World} {of fd : List Int} {fv : Value} (h : FKeep O N wr of fd fv) (hb : Below wr.heap.size wr w5) : FKeep O N w5 of fd fv :=
  ⟨own_below h.own hb, h.fit, h.set⟩
end Go.Proofs.Ytenffkplneimlab


/- The walks of slices.Index and of package rot: roundOf. -/
namespace Go.Proofs.Ytenffkplneimlab
open Go Go.RowKit

set_option maxRecDepth 100000 in
set_option maxHeartbeats 1000000 in
theorem index_any (l : List Int) (g o m c : Nat) (d : Int) (w : World) (hl : l.length = m) (hm : m ≤ 240) (hc : ∀ j, (hj : j < l.length) → w.cell? ⟨g, o + j, none⟩ = some (.int .i64 l[j])) :
    Calls Try.prog 37 #[.slice (some ⟨g, o, none⟩) m c, .int .i64 d] w fun e w' => ((∃ i : Nat, ∃ hi : i < l.length, e = .returned (.int .i64 (i : Int)) ∧ l[i] = d ∧ ∀ j, (hj : j < l.length) → j < i → l[j] ≠ d) ∨ (e = .returned (.int .i64 (-1)) ∧ ¬ d ∈ l)) ∧ w' = w := by
  have HC := hide hc
  have Hl := hide hl
  clear hc hl
  obtain ⟨P, hP⟩ : ∃ P : Ending → World → Prop, P = fun e w' => ((∃ i : Nat, ∃ hi : i < l.length, e = .returned (.int .i64 (i : Int)) ∧ l[i] = d ∧ ∀ j, (hj : j < l.length) → j < i → l[j] ≠ d) ∨ (e = .returned (.int .i64 (-1)) ∧ ¬ d ∈ l)) ∧ w' = w := ⟨_, rfl⟩
  rw [← hP]
  have HP := hide hP
  clear hP
  go_enter Try.func37, Try.ntmps37
  go_wp2
  go_loop [8] (fun i => ∃ k : Nat, k ≤ m ∧ i = .int .i64 (k : Int) ∧ Hid (∀ j, (hj : j < l.length) → j < k → l[j] ≠ d)) (fun i => m - (intOf i).toNat)
  case atStart => exact ⟨0, by omega, rfl, hide (fun j _ h => by omega)⟩
  case round =>
    obtain ⟨k, hk, rfl, HA⟩ := hrel
    by_cases hlt : k < m
    · have hltI : (k : Int) < (m : Int) := by omega
      have hkl : k < l.length := by rw [unhide Hl]; exact hlt
      have c1 := unhide HC k hkl
      by_cases hd : l[k] = d
      · have HD := hide hd
        rw [hd] at c1
        have hkk : (d == d) = true := beq_self_eq_true _
        clear hd
        go_wp2
        rw [unhide HP]
        exact ⟨.inl ⟨k, hkl, rfl, unhide HD, unhide HA⟩, rfl⟩
      · have HN : Hid (∀ j, (hj : j < l.length) → j < k + 1 → l[j] ≠ d) := hide fun j hj h => by
          rcases Nat.lt_or_ge j k with h' | h'
          · exact unhide HA j hj h'
          · obtain rfl : j = k := by omega
            exact hd
        have hkk : (d == l[k]) = false := beq_eq_false_iff_ne.2 (fun h => hd h.symm)
        generalize l[k] = z at *
        clear hd
        go_wp2
        go_round
        case rel => exact ⟨k + 1, by omega, by go_num, HN⟩
        case measure => simp [intOf]; omega
    · have HN : Hid (¬ d ∈ l) := hide fun hm => by
        obtain ⟨j, hj, rfl⟩ := List.mem_iff_getElem.1 hm
        exact unhide HA j hj (by have := unhide Hl; omega) rfl
      go_wp2
      rw [unhide HP]
      exact ⟨.inr ⟨rfl, unhide HN⟩, rfl⟩
/-- A slice of the call's own, wherever it lies. -/
def Mine (w : World) (B : Nat) (v : Value) (l : List Int) : Prop :=
  (v = .slice none 0 0 ∧ l = []) ∨ ∃ g o c, v = .slice (some ⟨g, o, none⟩) l.length c ∧ B ≤ g ∧ g < w.heap.size ∧ l.length ≤ c ∧ c ≤ maxLen ∧ ∀ j, (hj : j < l.length) → w.cell? ⟨g, o + j, none⟩ = some (.int .i64 l[j]) ∧ w.frozen? ⟨g, o + j, none⟩ = false
theorem Mine.ints {w : World} {B : Nat} {v : Value} {l : List Int} (h : Mine w B v l) : Ints w v l := by
  rcases h with ⟨rfl, rfl⟩ | ⟨g, o, c, rfl, hB, hg, hc, hm, hcell⟩
  · exact ⟨none, 0, rfl, by simp, by unfold maxLen; omega, fun k hk => by simp at hk⟩
  · exact ⟨_, c, rfl, hc, hm, fun k hk => ⟨g, o, rfl, hg, (hcell k hk).1⟩⟩
theorem Mine.base {w : World} {B B' : Nat} {v : Value} {l : List Int} (h : Mine w B v l) (hb : B' ≤ B) : Mine w B' v l := by
  rcases h with h | ⟨g, o, c, hv, hB, r⟩
  · exact .inl h
  · exact .inr ⟨g, o, c, hv, by omega, r⟩
theorem Mine.below {w w' : World} {B : Nat} {v : Value} {l : List Int} (h : Mine w B v l) (hb : Below w.heap.size w w') : Mine w' B v l := by
  rcases h with h | ⟨g, o, c, hv, hB, hg, hc, hm, hcell⟩
  · exact .inl h
  · exact .inr ⟨g, o, c, hv, hB, Nat.lt_of_lt_of_le hg hb.size, hc, hm, fun j hj => ⟨(hb.cell (by exact hg)).trans (hcell j hj).1, (World.frozen?_of_block (hb.block g hg)).trans (hcell j hj).2⟩⟩
end Go.Proofs.Ytenffkplneimlab


/- The walks of slices.Clone and of package rot: Turn. -/
namespace Go.Proofs.Ytenffkplneimlab
open Go Go.RowKit

def Sp.invGo (nx : List Int) : Nat → Nat → List Int → List Int
  | 0, _, L => L
  | c + 1, d, L => Sp.invGo nx c (d + 1) (L.set (nx.getD d 0).toNat (d : Int))
/-- The next ones seen from behind. -/
def Sp.turnL (nx : List Int) : List Int := Sp.invGo nx nx.length 0 (List.replicate nx.length 0)
/-- The net that Turn builds, in a block of its own; its result's block is still empty. -/
structure TurnAt (w wx : World) (g gn : Nat) (q : Sp.Net) (tv nv cv vT vC : Value) (L : List Int) : Prop where
  box : BoxAt w wx q.n tv nv cv
  ob : wx.heap[g]? = some (.cells #[.int .i64 q.n, vT, .slice (some ⟨gn, 0, none⟩) q.next.length q.next.length, vC] 25 (0, 0))
  far : w.heap.size + 2 ≤ g
  own : OwnI wx (w.heap.size + 2) (.slice (some ⟨gn, 0, none⟩) q.next.length q.next.length) L
  ne : gn ≠ g
  ot : OwnI wx (w.heap.size + 2) vT q.tail
  oc : OwnI wx (w.heap.size + 2) vC q.cap
  nt : vT.ownBlock ≠ some gn
  nc : vC.ownBlock ≠ some gn
theorem own_but {w w' : World} {B g : Nat} {v : Value} {l : List Int} (h : OwnI w B v l) (hb : ButRow g w w') (hne : v.ownBlock ≠ some g) : OwnI w' B v l := by
  obtain ⟨hx, hv | ⟨k, cap, cur, hv, hg, hh, r⟩⟩ := h
  · exact ⟨hx, .inl hv⟩
  · refine ⟨hx, .inr ⟨k, cap, cur, hv, hg, ?_, r⟩⟩
    rw [hb.block k (fun e => hne (by rw [hv, e]; rfl))]
    exact hh
theorem TurnAt.put {w wx : World} {g gn : Nat} {q : Sp.Net} {tv nv cv vT vC : Value} {L : List Int} (h : TurnAt w wx g gn q tv nv cv vT vC L) (x : Nat) (d : Int) : TurnAt w (wx.setCell ⟨gn, x, none⟩ (.int .i64 d)) g gn q tv nv cv vT vC (L.set x d) := by
  have hbut : ButRow gn wx (wx.setCell ⟨gn, x, none⟩ (.int .i64 d)) := (ButRow.refl gn wx).setCell x _
  have hgn := (h.own.lt gn rfl).1
  exact ⟨h.box.other gn x (by omega) _, (hbut.block g (Ne.symm h.ne)).trans h.ob, h.far, own_setCell h.own x d, h.ne, own_but h.ot hbut h.nt, own_but h.oc hbut h.nc, h.nt, h.nc⟩
end Go.Proofs.Ytenffkplneimlab


/- The second law's known. -/
namespace Go.Proofs.Ytenffkplneimlab
open Go Go.RowKit

def Sp.q0 : Sp.Net := ⟨2, [0, 1], [0, 1], [5, 3]⟩
def Sp.q1 : Sp.Net := ⟨1, [], [], []⟩
/-- A net of literals in a block of its own. -/
theorem lit_net (w : World) (N : Int) (t n c : List Int) (a b d : Nat) (ht : t.length = a) (hn : n.length = b) (hc : c.length = d) (hs : t.length ≤ 1000 ∧ n.length ≤ 1000 ∧ c.length ≤ 1000) (w' : World)
    (hb : Below (w.heap.size + 4) ((((w.alloc (.cells (t.map (Value.int .i64)).toArray 3)).alloc (.cells (n.map (Value.int .i64)).toArray 3)).alloc (.cells (c.map (Value.int .i64)).toArray 3)).alloc (.cells #[.int .i64 N, .slice (some ⟨w.heap.size, 0, none⟩) a a, .slice (some ⟨w.heap.size + 1, 0, none⟩) b b, .slice (some ⟨w.heap.size + 1 + 1, 0, none⟩) d d] 25)) w') :
    NetI w' (.agg #[.int .i64 N, .slice (some ⟨w.heap.size, 0, none⟩) a a, .slice (some ⟨w.heap.size + 1, 0, none⟩) b b, .slice (some ⟨w.heap.size + 1 + 1, 0, none⟩) d d]) ⟨N, t, n, c⟩ (.slice (some ⟨w.heap.size, 0, none⟩) a a) (.slice (some ⟨w.heap.size + 1, 0, none⟩) b b) (.slice (some ⟨w.heap.size + 1 + 1, 0, none⟩) d d) ∧
    Below w.heap.size w w' ∧ w.heap.size + 4 ≤ w'.heap.size ∧ w'.cell? ⟨w.heap.size + 1 + 1 + 1, 0, none⟩ = some (.int .i64 N) ∧ w'.cell? ⟨w.heap.size + 1 + 1 + 1, 1, none⟩ = some (.slice (some ⟨w.heap.size, 0, none⟩) a a) ∧ w'.cell? ⟨w.heap.size + 1 + 1 + 1, 2, none⟩ = some (.slice (some ⟨w.heap.size + 1, 0, none⟩) b b) ∧ w'.cell? ⟨w.heap.size + 1 + 1 + 1, 3, none⟩ = some (.slice (some ⟨w.heap.size + 1 + 1, 0, none⟩) d d) := by
  have o1 := own_lit w w.heap.size w.heap.size a t rfl ht (Nat.le_refl _) (by omega)
  generalize hA : w.alloc (.cells (t.map (Value.int .i64)).toArray 3) = A at *
  have sA : A.heap.size = w.heap.size + 1 := by rw [← hA]; simp
  have bA : Below w.heap.size w A := by rw [← hA]; exact (Below.refl _ w).alloc (Nat.le_refl _) _
  have o2 := own_lit A w.heap.size (w.heap.size + 1) b n sA hn (by omega) (by omega)
  have o1' := World.ownsRow.alloc o1 (.cells (n.map (Value.int .i64)).toArray 3)
  generalize hB : A.alloc (.cells (n.map (Value.int .i64)).toArray 3) = B at *
  have sB : B.heap.size = w.heap.size + 1 + 1 := by rw [← hB, World.size_alloc, sA]
  have bB : Below w.heap.size w B := by rw [← hB]; exact bA.alloc (by omega) _
  have o3 := own_lit B w.heap.size (w.heap.size + 1 + 1) d c sB hc (by omega) (by omega)
  have o1'' := World.ownsRow.alloc o1' (.cells (c.map (Value.int .i64)).toArray 3)
  have o2' := World.ownsRow.alloc o2 (.cells (c.map (Value.int .i64)).toArray 3)
  generalize hC : B.alloc (.cells (c.map (Value.int .i64)).toArray 3) = C at *
  have sC : C.heap.size = w.heap.size + 1 + 1 + 1 := by rw [← hC, World.size_alloc, sB]
  have bC : Below w.heap.size w C := by rw [← hC]; exact bB.alloc (by omega) _
  obtain ⟨k0, k1, k2, k3⟩ := net_new C (.int .i64 N) (.slice (some ⟨w.heap.size, 0, none⟩) a a) (.slice (some ⟨w.heap.size + 1, 0, none⟩) b b) (.slice (some ⟨w.heap.size + 1 + 1, 0, none⟩) d d) 25
  rw [sC] at k0 k1 k2 k3
  have p1 := World.ownsRow.alloc o1'' (.cells #[.int .i64 N, .slice (some ⟨w.heap.size, 0, none⟩) a a, .slice (some ⟨w.heap.size + 1, 0, none⟩) b b, .slice (some ⟨w.heap.size + 1 + 1, 0, none⟩) d d] 25)
  have p2 := World.ownsRow.alloc o2' (.cells #[.int .i64 N, .slice (some ⟨w.heap.size, 0, none⟩) a a, .slice (some ⟨w.heap.size + 1, 0, none⟩) b b, .slice (some ⟨w.heap.size + 1 + 1, 0, none⟩) d d] 25)
  have p3 := World.ownsRow.alloc o3 (.cells #[.int .i64 N, .slice (some ⟨w.heap.size, 0, none⟩) a a, .slice (some ⟨w.heap.size + 1, 0, none⟩) b b, .slice (some ⟨w.heap.size + 1 + 1, 0, none⟩) d d] 25)
  have bD : Below w.heap.size w (C.alloc (.cells #[.int .i64 N, .slice (some ⟨w.heap.size, 0, none⟩) a a, .slice (some ⟨w.heap.size + 1, 0, none⟩) b b, .slice (some ⟨w.heap.size + 1 + 1, 0, none⟩) d d] 25)) := bC.alloc (by omega) _
  have sD : (C.alloc (.cells #[.int .i64 N, .slice (some ⟨w.heap.size, 0, none⟩) a a, .slice (some ⟨w.heap.size + 1, 0, none⟩) b b, .slice (some ⟨w.heap.size + 1 + 1, 0, none⟩) d d] 25)).heap.size = w.heap.size + 4 := by rw [World.size_alloc, sC]
  generalize C.alloc (.cells #[.int .i64 N, .slice (some ⟨w.heap.size, 0, none⟩) a a, .slice (some ⟨w.heap.size + 1, 0, none⟩) b b, .slice (some ⟨w.heap.size + 1 + 1, 0, none⟩) d d] 25) = D at *
  have hb' : Below D.heap.size D w' := by rw [sD]; exact hb
  have hsz := hb.size
  exact ⟨⟨rfl, (OwnI.ints p1).below hb', (OwnI.ints p2).below hb', (OwnI.ints p3).below hb'⟩, bD.trans (hb.mono (by omega)), by omega,
    (hb.cell (by show w.heap.size + 1 + 1 + 1 < _; omega)).trans k0, (hb.cell (by show w.heap.size + 1 + 1 + 1 < _; omega)).trans k1, (hb.cell (by show w.heap.size + 1 + 1 + 1 < _; omega)).trans k2, (hb.cell (by show w.heap.size + 1 + 1 + 1 < _; omega)).trans k3⟩
theorem ints_nil (w : World) : Ints w (.slice none 0 0) [] := ⟨none, 0, rfl, by simp, by unfold maxLen; omega, fun k hk => by simp at hk⟩
end Go.Proofs.Ytenffkplneimlab


/- Next ones that are each one's once: from each dart on the way comes round. -/
namespace Go.Proofs.Ytenffkplneimlab
open Go Go.RowKit

structure Sp.Perm (st : List Int) : Prop where
  bd : ∀ x ∈ st, 0 ≤ x ∧ x < (st.length : Int)
  inj : ∀ i j, i < st.length → j < st.length → st.getD i 0 = st.getD j 0 → i = j
theorem least_of {p : Nat → Prop} (h : ∃ n, p n) : ∃ n, p n ∧ ∀ m, p m → n ≤ m := by
  obtain ⟨n, hn⟩ := h
  induction n using Nat.strongRecOn with
  | _ n ih =>
    by_cases hm : ∃ m, m < n ∧ p m
    · obtain ⟨m, hlt, hp⟩ := hm
      exact ih m hlt hp
    · exact ⟨n, hn, fun m hp => Nat.le_of_not_lt fun hlt => hm ⟨m, hlt, hp⟩⟩
theorem Sp.Perm.back {st : List Int} (h : Sp.Perm st) {d : Nat} (hd : d < st.length) : ∀ i j, Sp.nth st d (i + j) = Sp.nth st d i → Sp.nth st d j = d
  | 0, j, e => by rw [Nat.zero_add] at e; exact e
  | i + 1, j, e => by
    refine Sp.Perm.back h hd i j ?_
    have b1 := Sp.nth_bd (d := (d : Int)) rfl h.bd (by omega) (by omega) (i + j)
    have b2 := Sp.nth_bd (d := (d : Int)) rfl h.bd (by omega) (by omega) i
    have e2 : st.getD (Sp.nth st d (i + j)).toNat 0 = st.getD (Sp.nth st d i).toNat 0 := by
      have : i + 1 + j = (i + j) + 1 := by omega
      rw [this] at e
      exact e
    have := h.inj _ _ (by omega) (by omega) e2
    omega
theorem Sp.Perm.twice {st : List Int} (h : Sp.Perm st) {d : Nat} (hd : d < st.length) : ∃ i j, i < j ∧ j ≤ st.length ∧ Sp.nth st d i = Sp.nth st d j := by
  apply Classical.byContradiction
  intro hno
  have hnd : (Sp.rounds st d (st.length + 1)).Nodup := by
    unfold List.Nodup
    rw [List.pairwise_iff_getElem]
    intro i j hi hj hij
    rw [Sp.rounds_len] at hi hj
    simp only [Sp.rounds, List.getElem_map, List.getElem_range]
    intro e
    exact hno ⟨i, j, hij, by omega, e⟩
  have hle := nodup_le st.length _ hnd (fun x hx => by
    obtain ⟨k, -, rfl⟩ := List.mem_map.1 hx
    exact Sp.nth_bd rfl h.bd (by omega) (by omega) k)
  rw [Sp.rounds_len] at hle
  omega
/-- From each dart on the way comes round. -/
theorem Sp.Perm.round {st : List Int} (h : Sp.Perm st) {d : Nat} (hd : d < st.length) : ∃ m, 1 ≤ m ∧ m ≤ st.length ∧ Sp.nth st d m = d ∧ ∀ i, 0 < i → i < m → Sp.nth st d i ≠ d := by
  obtain ⟨i, j, hij, hj, e⟩ := h.twice hd
  have e2 : Sp.nth st d (j - i) = d := h.back hd i (j - i) (by rw [show i + (j - i) = j by omega]; exact e.symm)
  obtain ⟨m, ⟨h1, h2⟩, h3⟩ := least_of (p := fun m => 1 ≤ m ∧ Sp.nth st d m = d) ⟨j - i, by omega, e2⟩
  refine ⟨m, h1, ?_, h2, fun k hk0 hk e3 => ?_⟩
  · have := h3 (j - i) ⟨by omega, e2⟩
    omega
  · have := h3 k ⟨by omega, e3⟩
    omega
theorem oth_inj {a b : Nat} (h : Sp.oth a = Sp.oth b) : a = b := by rw [← oth_oth a, h, oth_oth]
theorem Sp.Perm.behind {nx : List Int} (h : Sp.Perm nx) (hev : nx.length % 2 = 0) : Sp.Perm (Sp.behindL nx) := by
  refine ⟨?_, ?_⟩
  · rw [Sp.behindL_len]
    exact Sp.behindL_bd nx hev h.bd
  · intro i j hi hj e
    rw [Sp.behindL_len] at hi hj
    rw [Sp.behindL_get nx i hi, Sp.behindL_get nx j hj] at e
    exact oth_inj (h.inj _ _ (oth_lt hi hev) (oth_lt hj hev) e)
theorem getD_set_eq (l : List Int) (i j : Nat) (x : Int) (hj : j < l.length) : (l.set j x).getD i 0 = if i = j then x else l.getD i 0 := by
  by_cases h : i = j
  · subst h
    rw [if_pos rfl, List.getD_eq_getElem?_getD, List.getElem?_set_self hj]; rfl
  · rw [if_neg h, List.getD_eq_getElem?_getD, List.getElem?_set_ne (Ne.symm h), ← List.getD_eq_getElem?_getD]
/-- A dart that was its own next one, laid behind another. -/
theorem Sp.Perm.lay {l : List Int} (h : Sp.Perm l) (bh d : Nat) (hb : bh < l.length) (hd : d < l.length) (hfix : l.getD d 0 = (d : Int)) : Sp.Perm (Sp.layIn l bh d) := by
  have hlen : (Sp.layIn l bh d).length = l.length := by simp [Sp.layIn]
  have key : ∀ i, i < l.length → (Sp.layIn l bh d).getD i 0 = l.getD (if i = bh then d else if i = d then bh else i) 0 := by
    intro i hi
    unfold Sp.layIn
    rw [getD_set_eq _ _ _ _ (by rw [List.length_set]; exact hb), getD_set_eq _ _ _ _ hd]
    by_cases h1 : i = bh
    · rw [if_pos h1, if_pos h1, hfix]
    · rw [if_neg h1, if_neg h1]
      by_cases h2 : i = d
      · rw [if_pos h2, if_pos h2]
      · rw [if_neg h2, if_neg h2]
  have kb : ∀ i, i < l.length → (if i = bh then d else if i = d then bh else i) < l.length := by
    intro i hi
    split
    · exact hd
    · split
      · exact hb
      · exact hi
  refine ⟨?_, ?_⟩
  · intro x hx
    rw [hlen]
    obtain ⟨i, hi, rfl⟩ := List.mem_iff_getElem.1 hx
    rw [hlen] at hi
    rw [← Sp.getD_eq (Sp.layIn l bh d) i (by rw [hlen]; exact hi), key i hi]
    exact h.bd _ (Sp.getD_mem (kb i hi))
  · intro i j hi hj e
    rw [hlen] at hi hj
    rw [key i hi, key j hj] at e
    have := h.inj _ _ (kb i hi) (kb j hj) e
    split at this <;> split at this <;> (try split at this) <;> (try split at this) <;> omega
theorem Sp.Perm.add {l : List Int} (h : Sp.Perm l) : Sp.Perm (l ++ [(l.length : Int), ((l.length + 1 : Nat) : Int)]) := by
  have key : ∀ i, i < l.length + 2 → (l ++ [(l.length : Int), ((l.length + 1 : Nat) : Int)]).getD i 0 = if i < l.length then l.getD i 0 else (i : Int) := by
    intro i hi
    rw [List.getD_eq_getElem?_getD]
    by_cases h1 : i < l.length
    · rw [if_pos h1, List.getElem?_append_left h1, ← List.getD_eq_getElem?_getD]
    · rw [if_neg h1, List.getElem?_append_right (by omega)]
      have : i = l.length ∨ i = l.length + 1 := by omega
      rcases this with rfl | rfl
      · simp
      · simp
  have hlen : (l ++ [(l.length : Int), ((l.length + 1 : Nat) : Int)]).length = l.length + 2 := by simp
  have hold : ∀ i, i < l.length → 0 ≤ l.getD i 0 ∧ l.getD i 0 < (l.length : Int) := fun i hi => h.bd _ (Sp.getD_mem hi)
  refine ⟨?_, ?_⟩
  · intro x hx
    rw [hlen]
    rcases List.mem_append.1 hx with hx | hx
    · have := h.bd x hx; omega
    · simp only [List.mem_cons, List.not_mem_nil, or_false] at hx
      omega
  · intro i j hi hj e
    rw [hlen] at hi hj
    rw [key i hi, key j hj] at e
    by_cases h1 : i < l.length <;> by_cases h2 : j < l.length
    · rw [if_pos h1, if_pos h2] at e; exact h.inj _ _ h1 h2 e
    · rw [if_pos h1, if_neg h2] at e; have := hold i h1; omega
    · rw [if_neg h1, if_pos h2] at e; have := hold j h2; omega
    · rw [if_neg h1, if_neg h2] at e; omega
/-- How long the round from d on is. -/
def Sp.perGo (st : List Int) (d : Nat) : Nat → Nat → Nat
  | 0, m => m
  | f + 1, m => if Sp.nth st d m = d then m else Sp.perGo st d f (m + 1)
def Sp.per (st : List Int) (d : Nat) : Nat := Sp.perGo st d st.length 1
theorem Sp.perGo_eq (st : List Int) (d m : Nat) (h2 : Sp.nth st d m = d) (h3 : ∀ i, 0 < i → i < m → Sp.nth st d i ≠ d) : ∀ f i, 0 < i → i ≤ m → m < i + f → Sp.perGo st d f i = m
  | 0, i, _, h, h' => by omega
  | f + 1, i, h0, h, h' => by
    rw [Sp.perGo]
    by_cases e : i = m
    · subst e; rw [if_pos h2]
    · rw [if_neg (h3 i h0 (by omega))]
      exact Sp.perGo_eq st d m h2 h3 f (i + 1) (by omega) (by omega) (by omega)
theorem Sp.Perm.per {st : List Int} (h : Sp.Perm st) {d : Nat} (hd : d < st.length) : 1 ≤ Sp.per st d ∧ Sp.per st d ≤ st.length ∧ Sp.nth st d (Sp.per st d) = d ∧ ∀ i, 0 < i → i < Sp.per st d → Sp.nth st d i ≠ d := by
  obtain ⟨m, h1, h2, h3, h4⟩ := h.round hd
  have e : Sp.per st d = m := Sp.perGo_eq st d m h3 h4 st.length 1 (by omega) h1 (by omega)
  rw [e]
  exact ⟨h1, h2, h3, h4⟩
end Go.Proofs.Ytenffkplneimlab


/- The walk of the second reference's Faces, over next ones that come round. -/
namespace Go.Proofs.Ytenffkplneimlab
open Go Go.RowKit

def Sp.faces2Go (st : List Int) : Nat → Nat → List Int → Nat → List Int × Nat
  | 0, _, of, k => (of, k)
  | f + 1, d, of, k => if 0 ≤ of.getD d 0 then Sp.faces2Go st f (d + 1) of k else Sp.faces2Go st f (d + 1) (Sp.paint k of (Sp.rounds st d (Sp.per st d))) (k + 1)
/-- Each dart's face as the reference numbers them; how many. -/
def Sp.faces2 (q : Sp.Net) : List Int × Nat := Sp.faces2Go (Sp.behindL q.next) q.tail.length 0 (List.replicate q.tail.length (-1)) 0
theorem set_fill (n j : Nat) (hj : j < n) : (List.replicate j (-1 : Int) ++ List.replicate (n - j) 0).set j (-1) = List.replicate (j + 1) (-1) ++ List.replicate (n - (j + 1)) 0 := by
  rw [List.set_append_right _ _ (by simp), List.replicate_succ', List.append_assoc]
  congr 1
  obtain ⟨m, hm⟩ : ∃ m, n - j = m + 1 := ⟨n - j - 1, by omega⟩
  rw [hm, show n - (j + 1) = m by omega, List.replicate_succ]
  simp
set_option maxRecDepth 100000 in
set_option maxHeartbeats 2000000 in
theorem faces2_any (q : Sp.Net) (v tv nv cv : Value) (w : World) (hv : NetI w v q tv nv cv) (hq1 : q.next.length = q.tail.length) (hn : q.tail.length ≤ 240) (hev : q.tail.length % 2 = 0) (hp : Sp.Perm q.next) :
    Calls Try.prog 20 #[v] w fun e w' => ∃ fv, e = .returned (.tuple #[fv, .int .i64 ((max (Sp.faces2 q).2 1 : Nat) : Int)]) ∧ OwnI w' w.heap.size fv (Sp.faces2 q).1 ∧ Below w.heap.size w w' := by
  have hv' := hv
  obtain ⟨rfl, h1, h2, h3⟩ := hv
  obtain ⟨ta, tc, rfl, htc, htm⟩ := h1.form
  obtain ⟨na, nc, rfl, -, -⟩ := h2.form
  obtain ⟨ca, cc, rfl, -, -⟩ := h3.form
  clear h1 h2 h3
  have HBX := hide (box_new w q.n (.slice ta q.tail.length tc) (.slice na q.next.length nc) (.slice ca q.cap.length cc))
  obtain ⟨W1, hW1⟩ : ∃ W1, W1 = w.alloc (.cells #[.int .i64 q.n, .slice ta q.tail.length tc, .slice na q.next.length nc, .slice ca q.cap.length cc] 25) := ⟨_, rfl⟩
  rw [← hW1] at HBX
  have hb1 : Below w.heap.size w W1 := by rw [hW1]; exact (Below.refl _ w).alloc (Nat.le_refl _) _
  have hs1 : W1.heap.size = w.heap.size + 1 := by rw [hW1]; simp
  have HW : Hid (∀ w', Below (w.heap.size + 1) W1 w' → Below w.heap.size w w') := hide fun w' hb => hb1.trans (hb.mono (by omega))
  have HS1 := hide hs1
  have HV : Hid (∀ w', Below (w.heap.size + 1) W1 w' → NetI w' (.agg #[.int .i64 q.n, .slice ta q.tail.length tc, .slice na q.next.length nc, .slice ca q.cap.length cc]) q (.slice ta q.tail.length tc) (.slice na q.next.length nc) (.slice ca q.cap.length cc)) := hide fun w' hb => hv'.below (unhide HW _ hb)
  have HPm := hide (hp.behind (by rw [hq1]; exact hev))
  have HQ : Hid (q.next.length ≤ 240 ∧ q.next.length % 2 = 0 ∧ (∀ x ∈ q.next, 0 ≤ x ∧ x < q.next.length) ∧ q.next.length = q.tail.length) := hide ⟨by omega, by omega, hp.bd, hq1⟩
  have HF1 : Hid (Sp.faces2 q = Sp.faces2Go (Sp.behindL q.next) q.tail.length 0 (List.replicate q.tail.length (-1)) 0) := hide rfl
  have HBL : Hid ((Sp.behindL q.next).length = q.tail.length) := hide (by rw [Sp.behindL_len, hq1])
  generalize Sp.faces2 q = R at *
  obtain ⟨P, hP⟩ : ∃ P : Ending → World → Prop, P = fun e w' => ∃ fv, e = .returned (.tuple #[fv, .int .i64 ((max R.2 1 : Nat) : Int)]) ∧ OwnI w' w.heap.size fv R.1 ∧ Below w.heap.size w w' := ⟨_, rfl⟩
  rw [← hP]
  have HP := hide hP
  obtain ⟨x0, x1, x2, x3, -⟩ := unhide HBX W1 (Below.refl _ _)
  clear hb1 hs1 hv' hp hP hq1 hev
  subst hW1
  go_enter Try.func20, Try.ntmps20
  go_wp2_with (at_make; refine wpList_mk rfl _ _ rfl (w.heap.size + 1) q.tail.length rfl rfl (by omega) (by simp) ?_)
  intro w5 hown5 hb5 hlt5
  clear x0 x1 x2 x3
  generalize w.alloc (.cells #[.int .i64 q.n, .slice ta q.tail.length tc, .slice na q.next.length nc, .slice ca q.cap.length cc] 25) = W1 at *
  obtain ⟨n, hnn⟩ : ∃ n, q.tail.length = n := ⟨_, rfl⟩
  rw [hnn] at hown5 HF1 HBX HV HQ HBL hn htc ⊢
  clear hnn
  have HK0 : Hid (PKeep (w.heap.size + 1) (w.heap.size + 1) n W1 w5 (List.replicate n 0)) := hide ⟨List.length_replicate, hown5, hb5, by have := (hown5.lt (w.heap.size + 1) rfl).2; exact this, Nat.le_refl _⟩
  clear hown5 hb5 hlt5
  go_wp2
  go_loopg [5] n (fun g i wr => ∃ j : Nat, j + g = n ∧ i = .int .i64 (j : Int) ∧ Hid (PKeep (w.heap.size + 1) (w.heap.size + 1) n W1 wr (List.replicate j (-1) ++ List.replicate (n - j) 0)))
  case atStart => exact ⟨0, by omega, rfl, by simpa using HK0⟩
  case round =>
    clear HK0
    obtain ⟨j, hjg, rfl, HI⟩ := hrel
    cases gk with
    | succ g' =>
      have hlt : j < n := by omega
      have hltI : (j : Int) < (n : Int) := by omega
      have c1 := own_cell (unhide HI).own j (by rw [(unhide HI).len]; exact hlt)
      have f1 := own_frozen (unhide HI).own j
      have HN : Hid (PKeep (w.heap.size + 1) (w.heap.size + 1) n W1 (wr.setCell ⟨w.heap.size + 1, j, none⟩ (.int .i64 (-1))) (List.replicate (j + 1) (-1) ++ List.replicate (n - (j + 1)) 0)) := by
        have h := (unhide HI).set j (-1)
        rw [set_fill n j hlt] at h
        exact hide h
      generalize (List.replicate j (-1 : Int) ++ List.replicate (n - j) 0)[j]'_ = z at *
      go_wp2
      go_roundg g'
      case rel => exact ⟨j + 1, by omega, by go_num, HN⟩
      case measure => omega
    | zero =>
      obtain rfl : j = n := by omega
      have HK1 : Hid (PKeep (w.heap.size + 1) (w.heap.size + 1) j W1 wr (List.replicate j (-1))) := by simpa using HI
      clear HI
      go_wp2
      go_loopg [6, 7] j (fun g s6 i wr => ∃ (d k : Nat) (of : List Int), d + g = j ∧ k ≤ d ∧ s6 = .int .i64 (k : Int) ∧ i = .int .i64 (d : Int) ∧ Hid (PKeep (w.heap.size + 1) (w.heap.size + 1) j W1 wr of ∧ R = Sp.faces2Go (Sp.behindL q.next) g d of k))
      case atStart => exact ⟨0, 0, _, by omega, by omega, rfl, rfl, hide ⟨unhide HK1, unhide HF1⟩⟩
      case round =>
        clear HK1
        obtain ⟨d, k, of, hdg, hkd, rfl, rfl, HI⟩ := hrel
        cases gk with
        | zero =>
          obtain rfl : d = j := by omega
          have HF : Hid (R = (of, k)) := hide (unhide HI).2
          go_wp2
          all_goals
            rw [unhide HP]
            exact ⟨_, ret_tup _ (by rw [unhide HF]; show _ = ((max k 1 : Nat) : Int); omega), by rw [unhide HF]; exact own_base (unhide HI).1.own (by omega), unhide HW _ (unhide HI).1.bel⟩
        | succ g' =>
          have hlt : d < j := by omega
          have hltI : (d : Int) < (j : Int) := by omega
          have c1 := own_cell (unhide HI).1.own d (by rw [(unhide HI).1.len]; exact hlt)
          have HG : Hid (of.getD d 0 = of[d]'(by rw [(unhide HI).1.len]; exact hlt)) := hide (Sp.getD_eq _ _ _)
          generalize of[d]'_ = z at *
          by_cases hz : 0 ≤ z
          · have HR : Hid (R = Sp.faces2Go (Sp.behindL q.next) g' (d + 1) of k) := hide (by rw [(unhide HI).2, Sp.faces2Go, if_pos (by rw [unhide HG]; exact hz)])
            go_wp2
            go_roundg g'
            case rel => exact ⟨d + 1, k, of, by omega, by omega, rfl, by go_num, hide ⟨(unhide HI).1, unhide HR⟩⟩
            case measure => omega
          · obtain ⟨FL, hFL⟩ : ∃ FL, FL = Sp.rounds (Sp.behindL q.next) d (Sp.per (Sp.behindL q.next) d) := ⟨_, rfl⟩
            have HR : Hid (R = Sp.faces2Go (Sp.behindL q.next) g' (d + 1) (Sp.paint k of FL) (k + 1)) := hide (by rw [(unhide HI).2, Sp.faces2Go, if_neg (by rw [unhide HG]; exact hz), hFL])
            obtain ⟨m1, m2, m3, m4⟩ := (unhide HPm).per (d := d) (by rw [unhide HBL]; exact hlt)
            rw [unhide HBL] at m2
            have HC := hide (face2_any q _ _ _ _ d (Sp.per (Sp.behindL q.next) d) wr (unhide HV _ (unhide HI).1.bel) (unhide HQ).1 (unhide HQ).2.1 (unhide HQ).2.2.1 (by rw [(unhide HQ).2.2.2]; exact hlt) m1 (by omega) m3 m4)
            rw [← hFL] at HC
            have HFb : Hid (∀ x ∈ FL, 0 ≤ x ∧ x < (j : Int)) := by
              rw [hFL]
              refine hide fun x hx => ?_
              obtain ⟨t, -, rfl⟩ := List.mem_map.1 hx
              exact Sp.nth_bd (unhide HBL) (by rw [← unhide HBL]; exact (unhide HPm).bd) (by omega) (by omega) t
            have hFlen : FL.length ≤ 240 := by rw [hFL, Sp.rounds_len]; omega
            obtain ⟨x0, x1, x2, x3, -⟩ := unhide HBX _ (unhide HI).1.bel
            clear hFL m1 m2 m3 m4
            go_wp2_with fail
            go_at_call 32
            refine (unhide HC).mono ?_
            clear HC x0 x1 x2 x3 c1
            rintro e w6 ⟨lv, rfl, hown6, hb6⟩
            have HK6 : Hid (PKeep (w.heap.size + 1) (w.heap.size + 1) j W1 w6 of ∧ OwnI w6 (w.heap.size + 1 + 1) lv FL) := hide ⟨(unhide HI).1.below hb6, own_base hown6 (by have := (unhide HI).1.lt; omega)⟩
            obtain ⟨la, lc, rfl, -, -⟩ := hown6.ints.form
            obtain ⟨fl, hfl⟩ : ∃ fl, FL.length = fl := ⟨_, rfl⟩
            rw [hfl] at hFlen HK6 ⊢
            have Hfl := hide hfl
            clear hown6 hb6 hfl
            go_wp2
            go_loopg [9] fl (fun g i wr => ∃ (t : Nat) (of2 : List Int), t + g = fl ∧ i = .int .i64 (t : Int) ∧ Hid (PKeep (w.heap.size + 1) (w.heap.size + 1) j W1 wr of2 ∧ OwnI wr (w.heap.size + 1 + 1) (.slice la fl lc) FL ∧ Sp.paint k of FL = Sp.paint k of2 (FL.drop t)))
            case atStart => exact ⟨0, of, by omega, rfl, hide ⟨(unhide HK6).1, (unhide HK6).2, rfl⟩⟩
            case round =>
              clear HK6
              obtain ⟨t, of2, htg, rfl, HJ⟩ := hrel
              cases gk with
              | zero =>
                obtain rfl : t = fl := by omega
                have HN : Hid (R = Sp.faces2Go (Sp.behindL q.next) g' (d + 1) of2 (k + 1)) := hide (by
                  rw [unhide HR, (unhide HJ).2.2, List.drop_eq_nil_of_le (by rw [unhide Hfl]; exact Nat.le_refl _)]
                  rfl)
                go_wp2
                go_roundg g'
                case rel => exact ⟨d + 1, k + 1, of2, by omega, by omega, by go_num, by go_num, hide ⟨(unhide HJ).1, unhide HN⟩⟩
                case measure => omega
              | succ g2 =>
                have htl : t < fl := by omega
                have htI : (t : Int) < (fl : Int) := by omega
                have htL : t < FL.length := by rw [unhide Hfl]; exact htl
                obtain ⟨lb, lo, lc2, hla, hlc2, -⟩ := (unhide HJ).2.1.ints.cellAt (Below.refl _ _) t htL
                injection hla with hla1 hla2 hla3
                subst hla1 hla3
                have hfb := unhide HFb FL[t] (List.getElem_mem htL)
                have HN : Hid (Sp.paint k of FL = Sp.paint k (of2.set FL[t].toNat k) (FL.drop (t + 1))) := by
                  have h := (unhide HJ).2.2
                  rw [List.drop_eq_getElem_cons htL] at h
                  exact hide h
                generalize FL[t] = ft at *
                obtain ⟨x, rfl⟩ : ∃ x : Nat, ft = (x : Int) := ⟨ft.toNat, by omega⟩
                rw [Int.toNat_natCast] at HN
                have hxn : x < j := by omega
                have hxI : (x : Int) < (j : Int) := by omega
                have c2 := own_cell (unhide HJ).1.own x (by rw [(unhide HJ).1.len]; exact hxn)
                have f2 := own_frozen (unhide HJ).1.own x
                generalize of2[x]'_ = oz at *
                clear hfb hla2
                go_wp2
                go_roundg g2
                case rel => exact ⟨t + 1, of2.set x k, by omega, by go_num, hide ⟨(unhide HJ).1.set x k, own_store (unhide HJ).2.1 (by omega) x _, unhide HN⟩⟩
                case measure => omega
end Go.Proofs.Ytenffkplneimlab


