/- What rounds tells is sound; the walk of package rot: turning. -/
import Derived.Test.YtnkkgeammohemabS8
namespace Go.Proofs.Ytnkkgeammohemab
open Go Go.RowKit

theorem walkR_ok {st : List Int} {n : Nat} (hn : st.length = n) (hx : ∀ x ∈ st, 0 ≤ x ∧ x < (n : Int)) (least : Int) : ∀ f d row row', Sp.walkR st least f d row = some row' → 0 ≤ d → d < (n : Int) → RFit n row → RFit n row' ∧ least ∈ row' ∧ ∃ m, row' = row ++ m
  | 0, d, row, row', h, _, _, _ => by simp [Sp.walkR] at h
  | f + 1, d, row, row', h, h0, h1, hf => by
    rw [Sp.walkR] at h
    by_cases hd : d ∈ row
    · rw [if_pos hd] at h
      by_cases hl : d = least
      · rw [if_pos hl] at h
        cases h
        exact ⟨hf, hl ▸ hd, [], by simp⟩
      · rw [if_neg hl] at h
        cases h
    · rw [if_neg hd] at h
      have hdn : d.toNat < n := by omega
      have hdd : ((d.toNat : Nat) : Int) = d := by omega
      have hs := hf.snoc d.toNat hdn (by rw [hdd]; exact hd)
      rw [hdd] at hs
      have hb := hx _ (Sp.getD_mem (l := st) (k := d.toNat) (by omega))
      obtain ⟨r1, r2, m, r3⟩ := walkR_ok hn hx least f _ _ _ h hb.1 hb.2 hs
      exact ⟨r1, r2, d :: m, by rw [r3]; simp⟩
structure POk (n : Nat) (row : List Int) (ps : List (Nat × Nat)) : Prop where
  fit : RFit n row
  ok : ∀ p ∈ ps, p.1 < p.2 ∧ p.2 ≤ row.length
theorem rgo_ok {st : List Int} {n : Nat} (hn : st.length = n) (hx : ∀ x ∈ st, 0 ≤ x ∧ x < (n : Int)) : ∀ f k row ps row' ps', k + f = n → Sp.rgo st f k row ps = some (row', ps') → POk n row ps → POk n row' ps' ∧ ps'.length ≤ ps.length + f
  | 0, k, row, ps, row', ps', _, h, hp => by
    simp only [Sp.rgo, Option.some.injEq, Prod.mk.injEq] at h
    obtain ⟨rfl, rfl⟩ := h
    exact ⟨hp, by omega⟩
  | f + 1, k, row, ps, row', ps', hk, h, hp => by
    rw [Sp.rgo] at h
    by_cases hm : (k : Int) ∈ row
    · rw [if_pos hm] at h
      obtain ⟨r1, r2⟩ := rgo_ok hn hx f (k + 1) row ps row' ps' (by omega) h hp
      exact ⟨r1, by omega⟩
    · rw [if_neg hm] at h
      cases hw : Sp.walkR st k (st.length + 1 - row.length) k row with
      | none => rw [hw] at h; cases h
      | some row1 =>
        rw [hw] at h
        obtain ⟨q1, q2, m, q3⟩ := walkR_ok hn hx k _ _ _ _ hw (by omega) (by omega) hp.fit
        have hlen : row.length < row1.length := by
          cases m with
          | nil => rw [List.append_nil] at q3; subst q3; exact absurd q2 hm
          | cons a r => rw [q3]; simp
        obtain ⟨r1, r2⟩ := rgo_ok hn hx f (k + 1) row1 _ row' ps' (by omega) h ⟨q1, fun p hpm => by
          rcases List.mem_append.1 hpm with hpm | hpm
          · have := hp.ok p hpm; omega
          · rw [List.mem_singleton] at hpm; subst hpm; exact ⟨hlen, Nat.le_refl _⟩⟩
        exact ⟨r1, by simp at r2; omega⟩
theorem rnds_ok {st : List Int} (hx : ∀ x ∈ st, 0 ≤ x ∧ x < (st.length : Int)) {row : List Int} {ps : List (Nat × Nat)} (h : Sp.rnds st = some (row, ps)) : POk st.length row ps ∧ ps.length ≤ st.length := by
  have := rgo_ok rfl hx st.length 0 [] [] row ps (by omega) h ⟨⟨by simp, by simp⟩, by simp⟩
  simpa using this
def Sp.piece (row : List Int) (p : Nat × Nat) : List Int := (row.drop p.1).take (p.2 - p.1)
theorem Sp.piece_len {row : List Int} {p : Nat × Nat} (h : p.2 ≤ row.length) : (Sp.piece row p).length = p.2 - p.1 := by
  simp [Sp.piece]; omega
theorem Sp.piece_get {row : List Int} {p : Nat × Nat} (h : p.2 ≤ row.length) (j : Nat) (hj : j < (Sp.piece row p).length) : (Sp.piece row p)[j] = row[p.1 + j]'(by rw [Sp.piece_len h] at hj; omega) := by
  simp [Sp.piece]
def Sp.turnGo (tl row : List Int) : List (Nat × Nat) → List Int → Bool
  | [], _ => true
  | p :: r, bg => if tl.getD (row.getD p.1 0).toNat 0 ∈ bg then false
      else if (Sp.piece row p).all (fun d => tl.getD d.toNat 0 == tl.getD (row.getD p.1 0).toNat 0) then Sp.turnGo tl row r (bg ++ [tl.getD (row.getD p.1 0).toNat 0]) else false
def Sp.rndsD (st : List Int) : List Int × List (Nat × Nat) := (Sp.rnds st).getD ([], [])
/-- Are each vertex's darts one round? -/
def Sp.turningB (q : Sp.Net) : Bool := Sp.turnGo q.tail (Sp.rndsD q.next).1 (Sp.rndsD q.next).2 [] && (Sp.rnds q.next).isSome
theorem owns_all {w : World} {base n : Nat} {e : TypeId} {v : Value} {xs : List Value} (h : w.ownsRow base e 1 v n xs) :
    ∃ a c, v = .slice a n c ∧ n ≤ c ∧ c ≤ maxLen ∧ Hid (∀ k, (hk : k < xs.length) → ∃ b, a = some ⟨b, 0, none⟩ ∧ b < w.heap.size ∧ base ≤ b ∧ ∀ w', Below w.heap.size w w' → w'.cell? ⟨b, k, none⟩ = some xs[k]) := by
  have h0 := h
  obtain ⟨h1, h2 | ⟨g, cap, cur, rfl, hg, hh, hnc, hcm, hsz, htk⟩⟩ := h
  · obtain ⟨rfl, rfl⟩ := h2
    refine ⟨none, 0, rfl, by omega, by unfold maxLen; omega, hide fun k hk => ?_⟩
    omega
  · refine ⟨_, cap, rfl, hnc, hcm, hide fun k hk => ⟨g, rfl, (h0.lt g rfl).2, hg, fun w' hb => ?_⟩⟩
    have h3 := own_below h0 hb
    rw [World.ownsRow.cellAt h3 k (by omega), List.getElem?_eq_getElem hk]
/-- What rounds leaves, in one form. -/
theorem RoundsPost.one {st : List Int} {w w' : World} {e : Ending} (h : RoundsPost st w e w') (hx : ∀ x ∈ st, 0 ≤ x ∧ x < (st.length : Int)) :
    ∃ lv, e = .returned (.tuple #[lv, .bool (Sp.rnds st).isSome]) ∧ Below w.heap.size w w' ∧ (Sp.rndsD st).2.length ≤ st.length ∧ POk st.length (Sp.rndsD st).1 (Sp.rndsD st).2 ∧ w'.ownsRow w.heap.size 23 1 lv (Sp.rndsD st).2.length ((Sp.rndsD st).2.map (pieceV w.heap.size))
      ∧ (∀ k, (hk : k < (Sp.rndsD st).1.length) → ∀ w'', Below w'.heap.size w' w'' → w''.cell? ⟨w.heap.size, k, none⟩ = some (.int .i64 (Sp.rndsD st).1[k]) ∧ w''.frozen? ⟨w.heap.size, k, none⟩ = false) := by
  obtain ⟨hb, hs, hn⟩ := h
  unfold Sp.rndsD
  cases hr : Sp.rnds st with
  | none =>
    refine ⟨_, hn hr, hb, by simp, ⟨⟨by simp, by simp⟩, by simp⟩, World.ownsRow_nil _ _ _ _, ?_⟩
    intro k hk
    simp at hk
  | some rp =>
    obtain ⟨row, ps⟩ := rp
    obtain ⟨lv, he, ho, hl⟩ := hs row ps hr
    obtain ⟨h1, h2⟩ := rnds_ok hx hr
    refine ⟨lv, he, hb, h2, h1, hl, ?_⟩
    intro k hk w'' hb'
    have h3 : OwnI w'' w.heap.size (.slice (some ⟨w.heap.size, 0, none⟩) row.length st.length) row := own_below ho hb'
    exact ⟨own_cell h3 k hk, own_frozen h3 k⟩
end Go.Proofs.Ytnkkgeammohemab


