/- The walk of the draft's edge. -/
import Derived.Test.YtkmcfjkfoafkoaaDoorW6
import Derived.Deep.QuietTactic
namespace Go.Proofs.YtkmcfjkfoafkoaaDoor
open Go.RowKit

theorem sep_comm {a b : Value} (h : a.ownBlock = none ∨ a.ownBlock ≠ b.ownBlock) : b.ownBlock = none ∨ b.ownBlock ≠ a.ownBlock := by
  rcases h with h | h
  · rw [h]; cases hb : b.ownBlock
    · exact .inl rfl
    · exact .inr (by simp)
  · exact .inr (Ne.symm h)
theorem own_ne {w : World} {base : Nat} {v : Value} {l : List Int} (h : OwnI w base v l) : v.ownBlock ≠ some w.heap.size := fun e => by have := (h.lt _ e).2; omega
/-- The list v of a draft pushed: what is behind it, and that it stays apart from another list u. -/
theorem push_sep {w : World} {base g H : Nat} {v u : Value} {m : List Int} {cap n : Nat} (hu : OwnI w base u m) (hw : w.heap.size ≤ H)
    (hs : v.ownBlock = none ∨ v.ownBlock ≠ u.ownBlock) (hat : v.ownBlock = some g ∨ g = H) :
    (Value.slice (some ⟨g, 0, none⟩) n cap).ownBlock = none ∨ (Value.slice (some ⟨g, 0, none⟩) n cap).ownBlock ≠ u.ownBlock := by
  right
  show some g ≠ u.ownBlock
  rcases hat with h | h
  · rw [← h]
    rcases hs with hs | hs
    · rw [hs] at h; cases h
    · exact hs
  · intro e
    have := (hu.lt g e.symm).2
    omega
theorem ownI_of {w : World} {base n : Nat} {v : Value} {xs : List Value} {l : List Int} (h : w.ownsRow base 3 1 v n xs) (hn : n = l.length) (hx : xs = l.map (Value.int .i64)) : OwnI w base v l := by
  subst hn hx; exact h
/-- Behind an append to one of a draft's lists (whose value is v), ahead of the store: the draft's own cells are as they were. -/
theorem grow_obj {w w1 w3 : World} {p base : Nat} {q : Sp.Net} {tv nv cv v : Value} {l : List Int} (h : DraftAt w p base q tv nv cv) (hb : Below w.heap.size w w1) (hv : OwnI w base v l) (hg : w1.grownBy w3 v.ownBlock) :
    w3.heap[p]? = some (.cells #[.int .i64 q.n, tv, nv, cv] 64 (0, 0)) := by
  have hp := heap_lt h.obj
  have hs := hb.size
  refine (hg.block p (by omega) ?_).trans ((hb.block p hp).trans h.obj)
  intro e
  have := (hv.lt p e.symm).1
  have := h.lt
  omega
theorem grow_keep {w w1 w3 : World} {p base : Nat} {q : Sp.Net} {tv nv cv v : Value} {l : List Int} (h : DraftAt w p base q tv nv cv) (hb : Below w.heap.size w w1) (hv : OwnI w base v l) (hg : w1.grownBy w3 v.ownBlock) (i : Nat) (u : Value) :
    Keep p base w (w3.setCell ⟨p, i, none⟩ u) :=
  (((Keep.of (hb.mono h.le)).grown hg (Nat.le_trans h.le hb.size) fun k hk => (hv.lt k hk).1).setCell (q := ⟨p, i, none⟩) (.inl rfl) u)
theorem obj_cells {w : World} {p : Nat} {a b c d : Value} {t : TypeId} (h : w.heap[p]? = some (.cells #[a, b, c, d] t (0, 0))) :
    w.cell? ⟨p, 0, none⟩ = some a ∧ w.cell? ⟨p, 1, none⟩ = some b ∧ w.cell? ⟨p, 2, none⟩ = some c ∧ w.cell? ⟨p, 3, none⟩ = some d ∧
      w.frozen? ⟨p, 0, none⟩ = false ∧ w.frozen? ⟨p, 1, none⟩ = false ∧ w.frozen? ⟨p, 2, none⟩ = false ∧ w.frozen? ⟨p, 3, none⟩ = false := by
  simp [World.cell?, World.frozen?, h]
theorem DraftAt.pushT {w w1 w3 : World} {p base g n cap H : Nat} {q : Sp.Net} {tv nv cv : Value} {xs : List Value} {new : List Int} (h : DraftAt w p base q tv nv cv) (hb : Below w.heap.size w w1)
    (ho : w3.ownsRow base 3 1 (.slice (some ⟨g, 0, none⟩) n cap) n xs) (hn : n = (q.tail ++ new).length) (hx : xs = (q.tail ++ new).map (Value.int .i64)) (hg : w1.grownBy w3 tv.ownBlock) (hat : tv.ownBlock = some g ∨ g = H) (hH : w1.heap.size = H) :
    DraftAt (w3.setCell ⟨p, 1, none⟩ (.slice (some ⟨g, 0, none⟩) n cap)) p base { q with tail := q.tail ++ new } (.slice (some ⟨g, 0, none⟩) n cap) nv cv := by
  have hs := hb.size
  have hl := h.le
  refine ⟨h.lt, by simpa using Nat.le_trans hl (Nat.le_trans hs hg.size), by rw [heap_setCell_same w3 p 1 _ _ _ (grow_obj h hb h.tail hg)]; rfl, own_store (ownI_of ho hn hx) h.lt _ _,
    own_store ((own_below h.next hb).kept hg (sep_comm h.tn)) h.lt _ _, own_store ((own_below h.cap hb).kept hg (sep_comm h.tc)) h.lt _ _, push_sep h.next (by omega) h.tn hat, push_sep h.cap (by omega) h.tc hat, h.nc⟩
theorem DraftAt.pushN {w w1 w3 : World} {p base g n cap H : Nat} {q : Sp.Net} {tv nv cv : Value} {xs : List Value} {new : List Int} (h : DraftAt w p base q tv nv cv) (hb : Below w.heap.size w w1)
    (ho : w3.ownsRow base 3 1 (.slice (some ⟨g, 0, none⟩) n cap) n xs) (hn : n = (q.next ++ new).length) (hx : xs = (q.next ++ new).map (Value.int .i64)) (hg : w1.grownBy w3 nv.ownBlock) (hat : nv.ownBlock = some g ∨ g = H) (hH : w1.heap.size = H) :
    DraftAt (w3.setCell ⟨p, 2, none⟩ (.slice (some ⟨g, 0, none⟩) n cap)) p base { q with next := q.next ++ new } tv (.slice (some ⟨g, 0, none⟩) n cap) cv := by
  have hs := hb.size
  have hl := h.le
  refine ⟨h.lt, by simpa using Nat.le_trans hl (Nat.le_trans hs hg.size), by rw [heap_setCell_same w3 p 2 _ _ _ (grow_obj h hb h.next hg)]; rfl, own_store ((own_below h.tail hb).kept hg h.tn) h.lt _ _,
    own_store (ownI_of ho hn hx) h.lt _ _, own_store ((own_below h.cap hb).kept hg (sep_comm h.nc)) h.lt _ _, sep_comm (push_sep h.tail (by omega) (sep_comm h.tn) hat), h.tc, push_sep h.cap (by omega) h.nc hat⟩
theorem DraftAt.pushC {w w1 w3 : World} {p base g n cap H : Nat} {q : Sp.Net} {tv nv cv : Value} {xs : List Value} {new : List Int} (h : DraftAt w p base q tv nv cv) (hb : Below w.heap.size w w1)
    (ho : w3.ownsRow base 3 1 (.slice (some ⟨g, 0, none⟩) n cap) n xs) (hn : n = (q.cap ++ new).length) (hx : xs = (q.cap ++ new).map (Value.int .i64)) (hg : w1.grownBy w3 cv.ownBlock) (hat : cv.ownBlock = some g ∨ g = H) (hH : w1.heap.size = H) :
    DraftAt (w3.setCell ⟨p, 3, none⟩ (.slice (some ⟨g, 0, none⟩) n cap)) p base { q with cap := q.cap ++ new } tv nv (.slice (some ⟨g, 0, none⟩) n cap) := by
  have hs := hb.size
  have hl := h.le
  refine ⟨h.lt, by simpa using Nat.le_trans hl (Nat.le_trans hs hg.size), by rw [heap_setCell_same w3 p 3 _ _ _ (grow_obj h hb h.cap hg)]; rfl, own_store ((own_below h.tail hb).kept hg h.tc) h.lt _ _,
    own_store ((own_below h.next hb).kept hg h.nc) h.lt _ _, own_store (ownI_of ho hn hx) h.lt _ _, h.tn, sep_comm (push_sep h.tail (by omega) (sep_comm h.tc) hat), sep_comm (push_sep h.next (by omega) (sep_comm h.nc) hat)⟩

theorem Ints.at {w : World} {v : Value} {l : List Int} (h : Ints w v l) (hl : 0 < l.length) :
    ∃ b o c, v = .slice (some ⟨b, o, none⟩) l.length c ∧ l.length ≤ c ∧ c ≤ maxLen ∧ b < w.heap.size ∧ ∀ k, (hk : k < l.length) → w.cell? ⟨b, o + k, none⟩ = some (.int .i64 l[k]) := by
  obtain ⟨a, c, rfl, hc, hm, hcell⟩ := h
  obtain ⟨b, o, rfl, hb, _⟩ := hcell 0 hl
  refine ⟨b, o, c, rfl, hc, hm, hb, fun k hk => ?_⟩
  obtain ⟨b', o', e, _, h'⟩ := hcell k hk
  injection e with e
  injection e with e1 e2
  subst e1 e2
  exact h'
theorem Keep.drewN {p base : Nat} {a w : World} (h : Keep p base a w) (n : Nat) : Keep p base a (w.drewN n) := h.trans (.of (below_dn (Below.refl base w) n))
theorem DraftAt.drewN {w : World} {p base : Nat} {q : Sp.Net} {tv nv cv : Value} (h : DraftAt w p base q tv nv cv) (n : Nat) : DraftAt (w.drewN n) p base q tv nv cv := ⟨h.lt, h.le, h.obj, h.tail, h.next, h.cap, h.tn, h.tc, h.nc⟩
theorem news2 {w : World} {B : Nat} {a b : Value} {t : TypeId} (h : w.heap[B]? = some (.cells #[a, b] t (0, 0))) : ∀ (j : Nat) u, [a, b][j]? = some u → w.cell? ((⟨B, 0, none⟩ : Addr).add j) = some u :=
  fun j u hu => World.news_of_block h j u hu
theorem ints_one (a b : Int) : ∀ u ∈ [Value.int .i64 a, Value.int .i64 b], u.oneCell' = true := by simp [Value.oneCell']
/-- The four numbers of an edge's line. -/
theorem four {N : List Int} (h : N.length = 4) : ∃ a b c d, N = [a, b, c, d] := by
  match N, h with
  | [a, b, c, d], _ => exact ⟨a, b, c, d, rfl⟩
set_option maxRecDepth 100000 in
set_option maxHeartbeats 1000000 in
theorem edge_bad (q : Sp.Net) (p base : Nat) (tv nv cv x : Value) (s : ByteArray) (N : List Int) (w : World) (hd : DraftAt w p base q tv nv cv) (hN : Ints w x N) (_hn : N.length ≤ 1000001) (h4 : N.length ≠ 4) :
    Calls Tryd.prog 35 #[.pointer (some ⟨p, 0, none⟩), .agg #[.string s, x]] w fun e w' => e = .returned (.int .i64 1) ∧ Keep p base w w' := by
  obtain ⟨a, c, rfl, hc, hm, hcell⟩ := hN
  have hle := hd.le
  clear hd hcell
  have h4' : ((N.length : Int) == 4) = false := beq_eq_false_iff_ne.2 (by omega)
  go_enter Tryd.func35, Tryd.ntmps35
  go_wp2
  go_ret
  exact ⟨rfl, (Keep.refl _ _ _).alloc hle _⟩
set_option maxRecDepth 100000 in
set_option maxHeartbeats 2000000 in
theorem edge_err (q : Sp.Net) (p base : Nat) (tv nv cv x : Value) (s : ByteArray) (y0 y1 y2 y3 : Int) (w : World) (hd : DraftAt w p base q tv nv cv) (hN : Ints w x [y0, y1, y2, y3]) (hne : ¬ Sp.edgeE q (s.data.toList, [y0, y1, y2, y3]) = 0) :
    Calls Tryd.prog 35 #[.pointer (some ⟨p, 0, none⟩), .agg #[.string s, x]] w fun e w' => e = .returned (.int .i64 (Sp.edgeE q (s.data.toList, [y0, y1, y2, y3]))) ∧ Keep p base w w' := by
  obtain ⟨b, o, c, rfl, hc, hm, hbl, hcell⟩ := hN.at (by simp)
  have hb1 : ∀ ob, Below w.heap.size w (w.alloc ob) := fun ob => (Below.refl _ w).alloc (Nat.le_refl _) ob
  have g0 : ∀ ob, (w.alloc ob).cell? ⟨b, o, none⟩ = some (.int .i64 y0) := fun ob => ((hb1 ob).cell (by exact hbl)).trans (hcell 0 (by simp))
  have g1 : ∀ ob, (w.alloc ob).cell? ⟨b, o + 1, none⟩ = some (.int .i64 y1) := fun ob => ((hb1 ob).cell (by exact hbl)).trans (hcell 1 (by simp))
  have g2 : ∀ ob, (w.alloc ob).cell? ⟨b, o + 2, none⟩ = some (.int .i64 y2) := fun ob => ((hb1 ob).cell (by exact hbl)).trans (hcell 2 (by simp))
  have g3 : ∀ ob, (w.alloc ob).cell? ⟨b, o + 3, none⟩ = some (.int .i64 y3) := fun ob => ((hb1 ob).cell (by exact hbl)).trans (hcell 3 (by simp))
  have hle := hd.le
  have hlt := hd.lt
  have hps : p < w.heap.size := by omega
  obtain ⟨d0, d1, d2, d3, e0, e1, e2, e3⟩ := hd.cells
  have k0 : ∀ ob, (w.alloc ob).cell? ⟨p, 0, none⟩ = some (.int .i64 q.n) := fun ob => ((hb1 ob).cell (by exact hps)).trans d0
  obtain ⟨at_, ct, hvt, hct, hmt, _⟩ := hd.tail.ints
  have k1 : ∀ ob, (w.alloc ob).cell? ⟨p, 1, none⟩ = some (.slice at_ q.tail.length ct) := fun ob => ((hb1 ob).cell (by exact hps)).trans (d1.trans (by rw [hvt]))
  clear hcell d0 d1 d2 d3 e0 e1 e2 e3
  have Hd := hide hd; clear hd
  have HE : Hid (Sp.edgeE q (s.data.toList, [y0, y1, y2, y3]) = if q.tail.length = 240 then 2 else if q.n ≤ y0 ∨ q.n ≤ y1 then 3 else if 2147483648 < y2 ∨ 2147483648 < y3 then 4 else 0) := hide rfl
  generalize Sp.edgeE q (s.data.toList, [y0, y1, y2, y3]) = E at *
  by_cases h240 : q.tail.length = 240
  · have h240' : ((q.tail.length : Int) == 240) = true := beq_iff_eq.2 (by omega)
    rw [if_pos h240] at HE
    have H240 := hide h240; clear h240
    go_enter Tryd.func35, Tryd.ntmps35
    go_wp2
    go_quiet (fail)
    go_wp2
    go_ret
    exact ⟨by rw [unhide HE]; rfl, ((Keep.refl _ _ _).alloc hle _).drewN _⟩
  · have h240' : ((q.tail.length : Int) == 240) = false := beq_eq_false_iff_ne.2 (by omega)
    rw [if_neg h240] at HE
    by_cases hbv : q.n ≤ y0 ∨ q.n ≤ y1
    · rw [if_pos hbv] at HE
      have hbv' : q.n ≤ y0 ∨ (¬ q.n ≤ y0 ∧ q.n ≤ y1) := by omega
      clear hbv
      rcases hbv' with h1 | ⟨h1, h2⟩
      all_goals
        go_enter Tryd.func35, Tryd.ntmps35
        go_wp2
        go_quiet (fail)
        go_wp2
        go_ret
        exact ⟨by rw [unhide HE]; rfl, ((Keep.refl _ _ _).alloc hle _).drewN _⟩
    · rw [if_neg hbv] at HE
      have h1 : ¬ q.n ≤ y0 := fun h => hbv (.inl h)
      have h2 : ¬ q.n ≤ y1 := fun h => hbv (.inr h)
      clear hbv
      by_cases hcv : 2147483648 < y2 ∨ 2147483648 < y3
      · rw [if_pos hcv] at HE
        have hcv' : 2147483648 < y2 ∨ (¬ 2147483648 < y2 ∧ 2147483648 < y3) := by omega
        clear hcv
        rcases hcv' with h3 | ⟨h3, h4⟩
        all_goals
          go_enter Tryd.func35, Tryd.ntmps35
          go_wp2
          go_quiet (fail)
          go_wp2
          go_ret
          exact ⟨by rw [unhide HE]; rfl, ((Keep.refl _ _ _).alloc hle _).drewN _⟩
      · rw [if_neg hcv] at HE
        have h3 : ¬ 2147483648 < y2 := fun h => hcv (.inl h)
        have h4 : ¬ 2147483648 < y3 := fun h => hcv (.inr h)
        clear hcv
        exact absurd (unhide HE) hne
end Go.Proofs.YtkmcfjkfoafkoaaDoor
