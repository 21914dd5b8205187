/- The lines of a draft, each by one contract. -/
import Derived.Test.YtkmcfjkfoafkoaaDoorW10
namespace Go.Proofs.YtkmcfjkfoafkoaaDoor
open Go Go.RowKit

theorem lineOf_bd (ls : List (List UInt8)) (k : Nat) : ∀ x ∈ (Sp.lineOf ls k).2, 0 ≤ x ∧ x ≤ 1000000000000000 := by
  unfold Sp.lineOf
  split
  · simp
  · exact Sp.lineP_bd _
theorem lineOf_len (L : List ByteArray) (k : Nat) (h : ∀ x ∈ L, x.size ≤ 1000000) : (Sp.lineOf (bytesOf L) k).2.length ≤ 1000001 := by
  unfold Sp.lineOf
  split
  · simp
  · refine Nat.le_trans (Sp.lineP_len _) ?_
    rw [List.getD_eq_getElem?_getD]
    rcases Nat.lt_or_ge (k - 1) L.length with hk | hk
    · have := h L[k - 1] (List.getElem_mem hk)
      simp [hk]
      omega
    · simp [hk]
theorem lineAt_any (L : List ByteArray) (v : Value) (k : Nat) (w : World) (hv : Strs w v L) (hn : L.length ≤ 1000001) (hk0 : 1 ≤ k) (hk2 : k ≤ 2000000) (hsz : ∀ s ∈ L, s.size ≤ 1000000) (hr : Rt w) :
    Calls Tryd.prog 34 #[v, .int .i64 k] w fun e w' => ∃ (s : ByteArray) (x : Value), e = .returned (.agg #[.string s, x]) ∧ s.data.toList = (Sp.lineOf (bytesOf L) k).1 ∧ OwnI w' w.heap.size x (Sp.lineOf (bytesOf L) k).2 ∧ Below w.heap.size w w' := by
  by_cases h : L.length < k
  · refine (lineAt_past L v k w hv hn hk2 h).mono ?_
    rintro e w' ⟨x, rfl, ⟨s, y, rfl, h1, h2⟩, hb⟩
    exact ⟨s, y, rfl, h1, h2, hb⟩
  · refine (lineAt_in L v k w hv hn hk0 (by omega) hsz hr).mono ?_
    rintro e w' ⟨x, rfl, ⟨s, y, rfl, h1, h2⟩, hb⟩
    exact ⟨s, y, rfl, h1, h2, hb⟩
theorem edge_any (q : Sp.Net) (p base : Nat) (tv nv cv x : Value) (s : ByteArray) (N : List Int) (w : World) (hd : DraftAt w p base q tv nv cv) (hN : Ints w x N) (hn : N.length ≤ 1000001) (hq : q.tail.length ≤ 240) (hqn : q.next.length ≤ 240) (hqc : q.cap.length ≤ 240) :
    Calls Tryd.prog 35 #[.pointer (some ⟨p, 0, none⟩), .agg #[.string s, x]] w fun e w' => e = .returned (.int .i64 (Sp.edgeE q (s.data.toList, N))) ∧ Keep p base w w' ∧
      (Sp.edgeE q (s.data.toList, N) = 0 → ∃ tv' nv' cv', DraftAt w' p base (Sp.edge q (s.data.toList, N)) tv' nv' cv') := by
  by_cases h4 : N.length = 4
  · obtain ⟨y0, y1, y2, y3, rfl⟩ := four h4
    by_cases hE : Sp.edgeE q (s.data.toList, [y0, y1, y2, y3]) = 0
    · refine (edge_good q p base tv nv cv x s y0 y1 y2 y3 w hd hN hq hqn hqc hE).mono ?_
      rintro e w' ⟨rfl, hk, h⟩
      exact ⟨by rw [hE], hk, fun _ => h⟩
    · refine (edge_err q p base tv nv cv x s y0 y1 y2 y3 w hd hN hE).mono ?_
      rintro e w' ⟨rfl, hk⟩
      exact ⟨rfl, hk, fun h => absurd h hE⟩
  · have hE : Sp.edgeE q (s.data.toList, N) = 1 := by unfold Sp.edgeE; rw [if_pos h4]
    refine (edge_bad q p base tv nv cv x s N w hd hN hn h4).mono ?_
    rintro e w' ⟨rfl, hk⟩
    exact ⟨by rw [hE], hk, fun h => by rw [hE] at h; cases h⟩
theorem turn_all (q : Sp.Net) (p base M : Nat) (tv nv cv x : Value) (v : Int) (s : ByteArray) (N : List Int) (w : World) (hd : DraftAt w p base q tv nv cv) (hN : OwnI w M x N) (hM : ∀ k, nv.ownBlock = some k → k < M)
    (hn : N.length ≤ 1000001) (hnn : ∀ y ∈ N, 0 ≤ y) (hql : q.next.length = q.tail.length) (hqt : q.tail.length ≤ 240) :
    Calls Tryd.prog 36 #[.pointer (some ⟨p, 0, none⟩), .int .i64 v, .agg #[.string s, x]] w fun e w' => e = .returned (.int .i64 (Sp.turnE q v (s.data.toList, N))) ∧ Keep p base w w' ∧
      (Sp.turnE q v (s.data.toList, N) = 0 → DraftAt w' p base (Sp.turn q (s.data.toList, N)) tv nv cv) := by
  by_cases h1 : s.data.toList = Sp.wTurn
  · exact turn_any q p base M tv nv cv x v s N w hd hN hM hn hnn hql hqt h1
  · have hE : Sp.turnE q v (s.data.toList, N) = 1 := by unfold Sp.turnE; rw [if_pos h1]
    refine (turn_word q p base tv nv cv x v s w hd h1).mono ?_
    rintro e w' ⟨rfl, hk⟩
    exact ⟨by rw [hE], hk, fun h => by rw [hE] at h; cases h⟩
end Go.Proofs.YtkmcfjkfoafkoaaDoor
