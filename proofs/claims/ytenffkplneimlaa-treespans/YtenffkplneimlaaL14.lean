/- What the proof needs, part 14. -/
import Derived.Test.YtenffkplneimlaaL13
/- What a tree of a plane net leaves: as many edges as faces less one, each of which joins two (P402). -/
namespace Go.Proofs.Ytenffkplneimlaa
open Go Go.RowKit

structure Sp.LeftF (F L : List Int) (k : Nat) : Prop where
  cnt : L.length + 1 = k
  bd : ∀ x ∈ L, 0 ≤ x ∧ x + 1 < (F.length : Int)
  up : ∀ i, i + 1 < L.length → L.getD i 0 < L.getD (i + 1) 0
  fb : ∀ x ∈ F, 0 ≤ x ∧ x < (k : Int)
  apart : ∀ p, p < L.length → (Sp.un F L k p).getD (F.getD (L.getD p 0).toNat 0).toNat 0 ≠ (Sp.un F L k p).getD (F.getD ((L.getD p 0).toNat + 1) 0).toNat 0
theorem Sp.left_up (q : Sp.Net) (U : List Int) : ∀ i, i + 1 < (Sp.leftL q U).length → (Sp.leftL q U).getD i 0 < (Sp.leftL q U).getD (i + 1) 0 := by
  intro i hi
  have hp : (Sp.leftL q U).Pairwise (· < ·) := by
    rw [Sp.leftL_eq, List.pairwise_map]
    exact (List.Pairwise.filter _ List.pairwise_lt_range).imp (fun h => by omega)
  have := List.pairwise_iff_getElem.1 hp i (i + 1) (by omega) hi (by omega)
  rw [Sp.getD_eq _ _ (by omega), Sp.getD_eq _ _ hi]
  exact this
theorem Sp.left_mem (q : Sp.Net) (U : List Int) {x : Int} (hx : x ∈ Sp.leftL q U) : ∃ e : Nat, x = ((2 * e : Nat) : Int) ∧ 2 * e + 1 < q.tail.length + q.tail.length % 2 ∧ Sp.usedB U (2 * e) U.length = false := by
  rw [Sp.leftL_eq] at hx
  obtain ⟨e, he, rfl⟩ := List.mem_map.1 hx
  rw [List.mem_filter, List.mem_range] at he
  refine ⟨e, rfl, by omega, by simpa using he.2⟩
theorem Sp.mem_left (q : Sp.Net) (U : List Int) {e : Nat} (he : e < q.tail.length / 2) (hu : Sp.usedB U (2 * e) U.length = false) : ((2 * e : Nat) : Int) ∈ Sp.leftL q U := by
  rw [Sp.leftL_eq]
  refine List.mem_map.2 ⟨e, ?_, rfl⟩
  rw [List.mem_filter, List.mem_range]
  exact ⟨he, by simpa using hu⟩
theorem Sp.leftF_plane (ns : List Int) {r N : Nat} (hN : (Sp.plane ns).n = (N : Int)) (hr : r < N) : Sp.LeftF (Sp.faces2 (Sp.plane ns)).1 (Sp.leftL (Sp.plane ns) (Sp.span (Sp.plane ns) (r : Int))) (max (Sp.faces2 (Sp.plane ns)).2 1) := by
  rcases Sp.dualQ_plane ns with e | h
  · rw [e] at hN ⊢
    have hL : Sp.leftL ⟨1, [], [], []⟩ (Sp.span ⟨1, [], [], []⟩ (r : Int)) = [] := by
      rw [Sp.leftL_eq]; rfl
    have hF : (Sp.faces2 ⟨1, [], [], []⟩).1 = [] := List.length_eq_zero_iff.1 (Sp.faces2_len ⟨1, [], [], []⟩)
    rw [hL, hF]
    refine ⟨?_, fun x hx => (by cases hx), fun i hi => absurd hi (by simp), fun x hx => (by cases hx), fun p hp => absurd hp (by simp)⟩
    have := Sp.faces2_le ⟨1, [], [], []⟩
    have hl : ([] : List Int).length = 0 := rfl
    simp only [hl] at this ⊢
    omega
  · have hT := Sp.treeQ_plane ns
    generalize Sp.plane ns = q at *
    have hrow := Sp.rowT_of hN hT.tb (hT.span hN hr)
    have hF := Sp.faces2_len q
    have hk := h.k1
    have hE := h.euler
    have hcnt := hrow.left hT.ev
    have hm : max (Sp.faces2 q).2 1 = (Sp.faces2 q).2 := by omega
    have hev := hT.ev
    rw [hm]
    have hb : ∀ x ∈ Sp.leftL q (Sp.span q (r : Int)), 0 ≤ x ∧ x + 1 < ((Sp.faces2 q).1.length : Int) := fun x hx => by
      obtain ⟨e, rfl, h2, -⟩ := Sp.left_mem q _ hx
      rw [hF]
      omega
    have hfb : ∀ x ∈ (Sp.faces2 q).1, 0 ≤ x ∧ x < (((Sp.faces2 q).2 : Nat) : Int) := fun x hx => by
      obtain ⟨i, hi, rfl⟩ := List.getElem_of_mem hx
      have := h.fb (i := i) (by rw [← hF]; exact hi)
      rw [Sp.getD_eq _ _ hi] at this
      exact this
    have hc1 : (Sp.leftL q (Sp.span q (r : Int))).length + 1 = (Sp.faces2 q).2 := by omega
    refine ⟨hc1, hb, Sp.left_up q _, hfb, fun p hp => Sp.un_apart hfb hb hc1 (fun c hc => ?_) (fun g hg => ?_) p hp⟩
    · obtain ⟨x, hx, e⟩ := h.cls.on c hc
      have := h.fb hx
      exact ⟨x, by rw [hF]; exact hx, by omega⟩
    · have := Sp.cotree h hN hrow g (fun e he hu => by
        obtain ⟨j, hj, e1⟩ := mem_getD (Sp.mem_left q _ (show e < q.tail.length / 2 by omega) hu)
        have := hg j hj
        rw [e1, Int.toNat_natCast] at this
        exact this)
      rw [hF]
      exact this
end Go.Proofs.Ytenffkplneimlaa


