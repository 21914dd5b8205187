/- What the proof needs, part 10. -/
import Derived.Test.YtenffkplneimlaaL9
/- Breadth first: a vertex hangs on the first one found that has a dart to it, by its least dart; ways are as short as may be. -/
namespace Go.Proofs.Ytenffkplneimlaa
open Go Go.RowKit

/-- What stays along Span: ps, of each vertex found, the place of the one that found it. -/
structure Sp.Bf (T fl U : List Int) (ps : List Nat) (i d : Nat) : Prop where
  len : ps.length = fl.length
  par : ∀ j, 0 < j → j < fl.length → ps.getD j 0 < j ∧ ps.getD j 0 ≤ i ∧ ∃ c : Nat, c < T.length ∧ U.getD (fl.getD j 0).toNat 0 = ((Sp.oth c : Nat) : Int) ∧ T.getD (Sp.oth c) 0 = fl.getD j 0 ∧ T.getD c 0 = fl.getD (ps.getD j 0) 0 ∧ ∀ e, e < c → T.getD e 0 = T.getD c 0 → T.getD (Sp.oth e) 0 ≠ fl.getD j 0
  mono : ∀ j k, 0 < j → j ≤ k → k < fl.length → ps.getD j 0 ≤ ps.getD k 0
  done : ∀ u e, u < i ∨ u = i ∧ e < d → u < fl.length → e < T.length → T.getD e 0 = fl.getD u 0 → ∃ j, j < fl.length ∧ fl.getD j 0 = T.getD (Sp.oth e) 0 ∧ (j = 0 ∨ ps.getD j 0 ≤ u)
theorem getDN_app (l : List Nat) (x : Nat) (j : Nat) : (l ++ [x]).getD j 0 = if j < l.length then l.getD j 0 else if j = l.length then x else 0 := by
  rw [List.getD_eq_getElem?_getD, List.getD_eq_getElem?_getD]
  by_cases h : j < l.length
  · rw [if_pos h, List.getElem?_append_left h]
  · rw [if_neg h, List.getElem?_append_right (by omega)]
    by_cases h2 : j = l.length
    · rw [if_pos h2, h2, Nat.sub_self]; rfl
    · rw [if_neg h2, List.getElem?_eq_none (by simp; omega)]; rfl
theorem getDI_app (l : List Int) (x : Int) (j : Nat) : (l ++ [x]).getD j 0 = if j < l.length then l.getD j 0 else if j = l.length then x else 0 := by
  rw [List.getD_eq_getElem?_getD, List.getD_eq_getElem?_getD]
  by_cases h : j < l.length
  · rw [if_pos h, List.getElem?_append_left h]
  · rw [if_neg h, List.getElem?_append_right (by omega)]
    by_cases h2 : j = l.length
    · rw [if_pos h2, h2, Nat.sub_self]; rfl
    · rw [if_neg h2, List.getElem?_eq_none (by simp; omega)]; rfl
theorem mem_getD {l : List Int} {x : Int} (h : x ∈ l) : ∃ j, j < l.length ∧ l.getD j 0 = x := by
  obtain ⟨j, hj, e⟩ := List.getElem_of_mem h
  exact ⟨j, hj, by rw [Sp.getD_eq _ _ hj, e]⟩
theorem Sp.Bf.skip {T fl U : List Int} {ps : List Nat} {i d : Nat} (h : Sp.Bf T fl U ps i d) (hne : T.getD d 0 ≠ fl.getD i 0) : Sp.Bf T fl U ps i (d + 1) := by
  refine ⟨h.len, h.par, h.mono, fun u e hu h1 h2 h3 => h.done u e ?_ h1 h2 h3⟩
  rcases hu with hu | ⟨rfl, hu⟩
  · exact .inl hu
  · by_cases he : e = d
    · subst he; exact absurd h3 hne
    · exact .inr ⟨rfl, by omega⟩
theorem Sp.Bf.old {T fl U : List Int} {ps : List Nat} {i d : Nat} (h : Sp.Bf T fl U ps i d) (hm : T.getD (Sp.oth d) 0 ∈ fl) : Sp.Bf T fl U ps i (d + 1) := by
  refine ⟨h.len, h.par, h.mono, fun u e hu h1 h2 h3 => ?_⟩
  rcases hu with hu | ⟨rfl, hu⟩
  · exact h.done u e (.inl hu) h1 h2 h3
  · by_cases he : e = d
    · subst he
      obtain ⟨j, hj, e1⟩ := mem_getD hm
      refine ⟨j, hj, e1, ?_⟩
      by_cases hj0 : j = 0
      · exact .inl hj0
      · exact .inr (h.par j (by omega) hj).2.1
    · exact h.done u e (.inr ⟨rfl, by omega⟩) h1 h2 h3
theorem Sp.Bf.new {T fl U : List Int} {ps : List Nat} {i d : Nat} (h : Sp.Bf T fl U ps i d) (hi : i < fl.length) (hd : d < T.length) (hu : T.getD d 0 = fl.getD i 0) (hm : ¬ T.getD (Sp.oth d) 0 ∈ fl) (h0 : 0 ≤ T.getD (Sp.oth d) 0) (hU : (T.getD (Sp.oth d) 0).toNat < U.length) (hb : ∀ x ∈ fl, 0 ≤ x) :
    Sp.Bf T (fl ++ [T.getD (Sp.oth d) 0]) (U.set (T.getD (Sp.oth d) 0).toNat ((Sp.oth d : Nat) : Int)) (ps ++ [i]) i (d + 1) := by
  have hl := h.len
  have old : ∀ j, j < fl.length → (fl ++ [T.getD (Sp.oth d) 0]).getD j 0 = fl.getD j 0 := fun j hj => by rw [getDI_app, if_pos hj]
  have oldp : ∀ j, j < fl.length → (ps ++ [i]).getD j 0 = ps.getD j 0 := fun j hj => by rw [getDN_app, if_pos (by omega)]
  have newf : (fl ++ [T.getD (Sp.oth d) 0]).getD fl.length 0 = T.getD (Sp.oth d) 0 := by rw [getDI_app, if_neg (by omega), if_pos rfl]
  have newp : (ps ++ [i]).getD fl.length 0 = i := by rw [getDN_app, if_neg (by omega), if_pos (by omega)]
  have hlen : (fl ++ [T.getD (Sp.oth d) 0]).length = fl.length + 1 := by simp
  refine ⟨by simp [hl], fun j h1 h2 => ?_, fun j k h1 h2 h3 => ?_, fun u e hu' h1 h2 h3 => ?_⟩
  · rw [hlen] at h2
    by_cases hj : j < fl.length
    · obtain ⟨a1, a2, c, c1, c2, c3, c4, c5⟩ := h.par j h1 hj
      rw [old j hj, oldp j hj, old _ (by omega)]
      refine ⟨a1, a2, c, c1, ?_, c3, c4, c5⟩
      rw [getD_set1 _ _ _ _ hU, if_neg fun e => hm ?_]
      · exact c2
      · have hjm := Sp.getD_mem (l := fl) hj
        have := hb _ hjm
        rw [show T.getD (Sp.oth d) 0 = fl.getD j 0 by omega]
        exact hjm
    · obtain rfl : j = fl.length := by omega
      rw [newf, newp, old i hi]
      refine ⟨hi, Nat.le_refl _, d, hd, by rw [getD_set1 _ _ _ _ hU, if_pos rfl], rfl, hu, fun e he h3 h4 => hm ?_⟩
      obtain ⟨j, hj, e1, -⟩ := h.done i e (.inr ⟨rfl, he⟩) hi (by omega) (by rw [h3, hu])
      rw [← h4, ← e1]
      exact Sp.getD_mem hj
  · rw [hlen] at h3
    by_cases hk : k < fl.length
    · rw [oldp j (by omega), oldp k hk]; exact h.mono j k h1 h2 hk
    · obtain rfl : k = fl.length := by omega
      rw [newp]
      by_cases hj : j < fl.length
      · rw [oldp j hj]; exact (h.par j h1 hj).2.1
      · obtain rfl : j = fl.length := by omega
        rw [newp]; exact Nat.le_refl _
  · rw [hlen] at h1
    have hul : u < fl.length := by omega
    rw [old u hul] at h3
    by_cases he : u = i ∧ e = d
    · obtain ⟨rfl, rfl⟩ := he
      exact ⟨fl.length, by omega, newf, .inr (by rw [newp]; exact Nat.le_refl _)⟩
    · obtain ⟨j, hj, e1, e2⟩ := h.done u e (by omega) hul h2 h3
      exact ⟨j, by omega, by rw [old j hj]; exact e1, by rw [oldp j hj]; exact e2⟩
theorem Sp.Bf.row {T : List Int} {root : Int} {N : Nat} (hT : ∀ x ∈ T, 0 ≤ x ∧ x < (N : Int)) (hev : T.length % 2 = 0) {u : Int} {i : Nat} : ∀ c d fl up ps, d + c = T.length → i < fl.length → u = fl.getD i 0 → Sp.SpSt T root N fl up → Sp.Bf T fl up ps i d → ∃ ps', Sp.Bf T (Sp.rowGo T root u c d fl up).1 (Sp.rowGo T root u c d fl up).2 ps' i T.length
  | 0, d, fl, up, ps, hd, _, _, _, hb => by
    obtain rfl : d = T.length := by omega
    exact ⟨ps, hb⟩
  | c + 1, d, fl, up, ps, hd, hi, hu, h, hb => by
    have hum : u ∈ fl := by rw [hu]; exact Sp.getD_mem hi
    rw [Sp.rowGo]
    split
    · rename_i e
      have ho := oth_lt (show d < T.length by omega) hev
      have hbd := hT _ (Sp.getD_mem (l := T) ho)
      have hmem := h.mem (T.getD (Sp.oth d) 0).toNat (by omega)
      rw [show (((T.getD (Sp.oth d) 0).toNat : Nat) : Int) = T.getD (Sp.oth d) 0 by omega] at hmem
      split
      · rename_i hf
        exact Sp.Bf.row hT hev c (d + 1) fl up ps (by omega) hi hu h (hb.old (hmem.2 hf))
      · rename_i hn
        refine Sp.Bf.row hT hev c (d + 1) _ _ (ps ++ [i]) (by omega) (by rw [List.length_append]; omega) ?_ (h.find hT hev (by omega) (by rw [e]; exact hum) hn) ?_
        · rw [getDI_app, if_pos hi]; exact hu
        · exact hb.new hi (by omega) (by rw [e]; exact hu) (fun hm => hn (hmem.1 hm)) hbd.1 (by rw [h.len]; omega) (fun x hx => (h.bd x hx).1)
    · rename_i e
      exact Sp.Bf.row hT hev c (d + 1) fl up ps (by omega) hi hu h (hb.skip (by rw [← hu]; exact e))
theorem Sp.Bf.span {T : List Int} {root : Int} {N : Nat} (hT : ∀ x ∈ T, 0 ≤ x ∧ x < (N : Int)) (hev : T.length % 2 = 0) : ∀ g i fl up ps, i + g = N → Sp.SpSt T root N fl up → Sp.Bf T fl up ps i 0 → ∃ ps' i', Sp.Bf T (Sp.spanGo T root g i fl up).1 (Sp.spanGo T root g i fl up).2 ps' i' 0 ∧ (Sp.spanGo T root g i fl up).1.length ≤ i'
  | 0, i, fl, up, ps, hi, h, hb => ⟨ps, i, hb, by have := h.le; show fl.length ≤ i; omega⟩
  | g + 1, i, fl, up, ps, hi, h, hb => by
    rw [Sp.spanGo]
    split
    · rename_i hl
      obtain ⟨ps', hb'⟩ := Sp.Bf.row hT hev T.length 0 fl up ps (by omega) hl rfl h hb
      have h' := (Sp.SpSt.row hT hev T.length 0 fl up (by omega) (Sp.getD_mem hl) h).1
      refine Sp.Bf.span hT hev g (i + 1) _ _ ps' (by omega) h' ⟨hb'.len, fun j h1 h2 => ?_, hb'.mono, fun u e hu h1 h2 h3 => hb'.done u e ?_ h1 h2 h3⟩
      · obtain ⟨a1, a2, a3⟩ := hb'.par j h1 h2
        exact ⟨a1, by omega, a3⟩
      · omega
    · exact ⟨ps, i, hb, by show fl.length ≤ i; omega⟩
theorem Sp.Mn.zero {T U : List Int} {root : Int} {x : Nat} (h : Sp.Mn T U root 0 x) : (x : Int) = root := of_decide_eq_true h.1
theorem Sp.Mn.root {T U : List Int} {root : Int} {g x : Nat} (h : Sp.Mn T U root g x) (hx : (x : Int) = root) : g = 0 := by
  cases g with
  | zero => rfl
  | succ g => exact absurd hx h.next.1
theorem Sp.way_len {T U : List Int} {r : Nat} : ∀ (G g x : Nat) (out R : List Int), (∀ v, Sp.reachGo T U (r : Int) G v = true → (v ≠ r → 0 ≤ U.getD v 0)) → U.getD r 0 = -1 → Sp.Mn T U (r : Int) g x → g ≤ G → Sp.wayGo T U G x out = some R → R.length = out.length + g
  | G, 0, x, out, R, _, hr, h, _, hw => by
    have := h.zero
    obtain rfl : x = r := by omega
    rw [Sp.wayGo_neg _ _ _ _ _ (by omega)] at hw
    injection hw with hw
    subst hw
    rfl
  | 0, g + 1, x, out, R, _, _, _, hg, _ => by omega
  | G + 1, g + 1, x, out, R, hU, hr, h, hg, hw => by
    obtain ⟨hx, hn⟩ := h.next
    have h0 := hU x (Sp.reach_le _ _ _ h.1 (by omega)) (fun e => hx (by omega))
    rw [Sp.wayGo, if_pos h0] at hw
    have := Sp.way_len G g _ _ R (fun v hv => hU v (Sp.reach_mono _ _ _ _ _ hv)) hr hn (by omega) hw
    rw [List.length_append, List.length_singleton] at this
    omega
/-- What is known of Span's row. -/
structure Sp.SpanF (T U : List Int) (r N : Nat) : Prop where
  row : Sp.RowT T U r N
  low : ∀ e g h, e < T.length → Sp.Mn T U (r : Int) g (T.getD e 0).toNat → Sp.Mn T U (r : Int) h (T.getD (Sp.oth e) 0).toNat → h ≤ g + 1
  least : ∀ v, v < N → v ≠ r → ∀ c : Nat, U.getD v 0 = (c : Int) → ∀ e, e < Sp.oth c → T.getD e 0 = T.getD (Sp.oth c) 0 → T.getD (Sp.oth e) 0 ≠ (v : Int)
theorem Sp.TreeQ.spanF {q : Sp.Net} (h : Sp.TreeQ q) {r N : Nat} (hN : q.n = (N : Int)) (hr : r < N) : Sp.SpanF q.tail (Sp.span q (r : Int)) r N := by
  have hT' : ∀ x ∈ q.tail, 0 ≤ x ∧ x < (N : Int) := fun x hx => by have := h.tb x hx; omega
  have hev := h.ev
  have hrow := Sp.rowT_of hN h.tb (h.span hN hr)
  have h0 : Sp.SpSt q.tail (r : Int) N [(r : Int)] (List.replicate N (-1)) := Sp.SpSt.first q.tail (by omega) (by omega)
  have hb0 : Sp.Bf q.tail [(r : Int)] (List.replicate N (-1)) [0] 0 0 := ⟨rfl, fun j h1 h2 => by simp at h2; omega, fun j k h1 h2 h3 => by simp at h3; omega, fun u e hu => by omega⟩
  obtain ⟨ps, i, hb, hi⟩ := Sp.Bf.span hT' hev N 0 _ _ _ (by omega) h0 hb0
  obtain ⟨hst, -⟩ := Sp.spanGo_done hT' hev N 0 [(r : Int)] (List.replicate N (-1)) (by omega) (by simp) h0 (fun k hk => by omega)
  have hsp : Sp.span q (r : Int) = (Sp.spanGo q.tail (r : Int) N 0 [(r : Int)] (List.replicate N (-1))).2 := by unfold Sp.span; rw [hN, Int.toNat_natCast]
  rw [← hsp] at hst hb
  generalize (Sp.spanGo q.tail (r : Int) N 0 [(r : Int)] (List.replicate N (-1))).1 = fl at *
  generalize Sp.span q (r : Int) = U at *
  have hin : ∀ v : Nat, v < N → ∃ j, j < fl.length ∧ fl.getD j 0 = (v : Int) := fun v hv => mem_getD ((hst.mem v hv).2 (by
    by_cases e : v = r
    · exact .inl (by omega)
    · obtain ⟨d, -, e1, -⟩ := hrow.dart v hv e
      exact .inr (by omega)))
  have h0f : fl.getD 0 0 = (r : Int) := by obtain ⟨s, hs⟩ := hst.hd; rw [hs]; rfl
  have hnr : ∀ j, 0 < j → j < fl.length → fl.getD j 0 ≠ (r : Int) := fun j h1 h2 e => by
    have hp := List.pairwise_iff_getElem.1 hst.nd 0 j (by omega) h2 h1
    rw [Sp.getD_eq _ _ h2] at e
    rw [Sp.getD_eq _ _ (by omega)] at h0f
    exact hp (by rw [h0f, e])
  have hbd : ∀ j, j < fl.length → 0 ≤ fl.getD j 0 ∧ fl.getD j 0 < (N : Int) := fun j hj => hst.bd _ (Sp.getD_mem hj)
  have hnx : ∀ j, 0 < j → j < fl.length → Sp.nx q.tail U (fl.getD j 0).toNat = (fl.getD (ps.getD j 0) 0).toNat := fun j h1 h2 => by
    obtain ⟨-, -, c, -, c2, -, c4, -⟩ := hb.par j h1 h2
    rw [hrow.nx c2, oth_oth, c4]
  have hmono : ∀ k j g l, j ≤ k → k < fl.length → Sp.Mn q.tail U (r : Int) g (fl.getD j 0).toNat → Sp.Mn q.tail U (r : Int) l (fl.getD k 0).toNat → g ≤ l := by
    intro k
    induction k using Nat.strongRecOn with
    | ind k ih =>
      intro j g l hjk hk hg hl
      by_cases hj : j = 0
      · subst hj
        rw [h0f] at hg
        have := hg.root (by omega)
        omega
      · have b1 := hbd j (by omega)
        have b2 := hbd k hk
        have n1 := hnr j (by omega) (by omega)
        have n2 := hnr k (by omega) hk
        cases g with
        | zero => omega
        | succ g =>
          cases l with
          | zero => have := hl.zero; omega
          | succ l =>
            have e1 := hg.next.2
            have e2 := hl.next.2
            rw [hnx j (by omega) (by omega)] at e1
            rw [hnx k (by omega) hk] at e2
            have p1 := (hb.par k (by omega) hk).1
            have := ih (ps.getD k 0) p1 (ps.getD j 0) g l (hb.mono j k (by omega) hjk hk) (by omega) e1 e2
            omega
  refine ⟨hrow, fun e g l he hg hl => ?_, fun v hv hvr c hc e he h1 h2 => ?_⟩
  · have bt := hT' _ (Sp.getD_mem (l := q.tail) he)
    obtain ⟨u, hu, e1⟩ := hin (q.tail.getD e 0).toNat (by omega)
    obtain ⟨j, hj, e2, e3⟩ := hb.done u e (.inl (by omega)) hu he (by omega)
    rw [← e2] at hl
    have hg' : Sp.Mn q.tail U (r : Int) g (fl.getD u 0).toNat := by rw [e1, Int.toNat_natCast]; exact hg
    rcases e3 with rfl | e3
    · rw [h0f] at hl
      have := hl.root (by omega)
      omega
    · by_cases hj0 : j = 0
      · subst hj0
        rw [h0f] at hl
        have := hl.root (by omega)
        omega
      · cases l with
        | zero => omega
        | succ l =>
          have e4 := hl.next.2
          rw [hnx j (by omega) hj] at e4
          have := hmono u (ps.getD j 0) l g e3 hu e4 hg'
          omega
  · obtain ⟨j, hj, e1⟩ := hin v hv
    have hj0 : j ≠ 0 := fun e => by subst e; omega
    obtain ⟨-, -, c', -, c2, -, -, c5⟩ := hb.par j (by omega) hj
    rw [e1, Int.toNat_natCast, hc] at c2
    have hcc : c = Sp.oth c' := by omega
    have ho : Sp.oth c = c' := by rw [hcc, oth_oth]
    rw [ho] at he h1
    exact c5 e he h1 (by rw [e1]; exact h2)
end Go.Proofs.Ytenffkplneimlaa


/- What a tree leaves hangs all faces together; joined one by one, each edge of it joins two (P402). -/
namespace Go.Proofs.Ytenffkplneimlaa
open Go Go.RowKit

/-- One label becomes another. -/
def Sp.mg (of : List Int) (a b : Int) : List Int := of.map fun x => if x = b then a else x
theorem Sp.mg_len (of : List Int) (a b : Int) : (Sp.mg of a b).length = of.length := by simp [Sp.mg]
theorem Sp.mg_get {of : List Int} {a b : Int} {j : Nat} (hj : j < of.length) : (Sp.mg of a b).getD j 0 = if of.getD j 0 = b then a else of.getD j 0 := by
  rw [Sp.getD_eq _ _ (by rw [Sp.mg_len]; exact hj), Sp.getD_eq _ _ hj]
  simp [Sp.mg]
/-- Labels that stand for themselves. -/
structure Sp.UnS (of : List Int) (k : Nat) : Prop where
  bd : ∀ j, j < k → 0 ≤ of.getD j 0 ∧ of.getD j 0 < (k : Int)
  rep : ∀ j, j < k → of.getD (of.getD j 0).toNat 0 = of.getD j 0
theorem Sp.UnS.first (k : Nat) : Sp.UnS ((List.range k).map fun j => ((j : Nat) : Int)) k := by
  have e : ∀ j, j < k → ((List.range k).map fun j => ((j : Nat) : Int)).getD j 0 = (j : Int) := fun j hj => by
    rw [Sp.getD_eq _ _ (by simpa using hj)]; simp
  exact ⟨fun j hj => by rw [e j hj]; omega, fun j hj => by rw [e j hj, Int.toNat_natCast, e j hj]⟩
theorem Sp.UnS.step {of : List Int} {k x y : Nat} (h : Sp.UnS of k) (hl : of.length = k) (hx : x < k) (hy : y < k) : Sp.UnS (Sp.mg of (of.getD x 0) (of.getD y 0)) k ∧ Sp.cnt (fun j => decide (of.getD j 0 = (j : Int))) k ≤ Sp.cnt (fun j => decide ((Sp.mg of (of.getD x 0) (of.getD y 0)).getD j 0 = (j : Int))) k + (if of.getD x 0 = of.getD y 0 then 0 else 1) := by
  have hbx := h.bd x hx
  have hby := h.bd y hy
  have hg : ∀ j, j < k → (Sp.mg of (of.getD x 0) (of.getD y 0)).getD j 0 = if of.getD j 0 = of.getD y 0 then of.getD x 0 else of.getD j 0 := fun j hj => Sp.mg_get (by rw [hl]; exact hj)
  constructor
  · refine ⟨fun j hj => ?_, fun j hj => ?_⟩
    · rw [hg j hj]; split
      · exact hbx
      · exact h.bd j hj
    · have hbj := h.bd j hj
      rw [hg j hj]
      split
      · rw [hg _ (by omega), h.rep x hx]
        split <;> rfl
      · rename_i hne
        rw [hg _ (by omega), h.rep j hj, if_neg hne]
  · split
    · rename_i e
      refine Nat.le_of_eq (Sp.cnt_congr k fun j hj => ?_)
      rw [hg j hj, e]
      split
      · rename_i e2; rw [e2]
      · rfl
    · rename_i e
      have hone : Sp.cnt (fun j => decide (j = (of.getD y 0).toNat)) k ≤ 1 := by
        have : ∀ m, Sp.cnt (fun j => decide (j = (of.getD y 0).toNat)) m ≤ if (of.getD y 0).toNat < m then 1 else 0 := by
          intro m
          induction m with
          | zero => simp [Sp.cnt]
          | succ m ih =>
            rw [Sp.cnt_succ]
            simp only [decide_eq_true_eq]
            split at ih <;> split <;> split <;> omega
        have := this k
        split at this <;> omega
      have hadd : ∀ m, m ≤ k → Sp.cnt (fun j => decide (of.getD j 0 = (j : Int))) m ≤ Sp.cnt (fun j => decide ((Sp.mg of (of.getD x 0) (of.getD y 0)).getD j 0 = (j : Int))) m + Sp.cnt (fun j => decide (j = (of.getD y 0).toNat)) m := by
        intro m
        induction m with
        | zero => intro _; simp [Sp.cnt]
        | succ m ih =>
          intro hm
          have := ih (by omega)
          rw [Sp.cnt_succ, Sp.cnt_succ, Sp.cnt_succ, hg m (by omega)]
          simp only [decide_eq_true_eq]
          by_cases e1 : of.getD m 0 = (m : Int)
          · by_cases e2 : m = (of.getD y 0).toNat
            · rw [if_pos e2, if_pos e1]; omega
            · have e3 : ¬ of.getD m 0 = of.getD y 0 := by omega
              rw [if_neg e3, if_pos e1]; omega
          · rw [if_neg e1]; omega
      have := hadd k (Nat.le_refl _)
      omega
end Go.Proofs.Ytenffkplneimlaa


/- The law TreeLeft, walked. -/
namespace Go.Proofs.Ytenffkplneimlaa
open Go Go.RowKit

theorem own_getD {w : World} {B g n c : Nat} {l : List Int} (h : OwnI w B (.slice (some ⟨g, 0, none⟩) n c) l) (k : Nat) (hk : k < l.length) : w.cell? ⟨g, k, none⟩ = some (.int .i64 (l.getD k 0)) := by
  rw [own_cell h k hk, Sp.getD_eq _ _ hk]
end Go.Proofs.Ytenffkplneimlaa


/- A way's darts, and distances by rounds over the darts. -/
namespace Go.Proofs.Ytenffkplneimlaa
open Go Go.RowKit

theorem Sp.way_get {T U R : List Int} : ∀ (G x : Nat) (out : List Int), Sp.wayGo T U G x out = some R → out.length ≤ R.length ∧ (∀ j, j < out.length → R.getD j 0 = out.getD j 0) ∧
    (∀ i, out.length + i < R.length → R.getD (out.length + i) 0 = U.getD (itf (Sp.nx T U) x i) 0 ∧ 0 ≤ U.getD (itf (Sp.nx T U) x i) 0) ∧ ¬ 0 ≤ U.getD (itf (Sp.nx T U) x (R.length - out.length)) 0
  | 0, x, out, h => by
    rw [Sp.wayGo] at h
    split at h
    · cases h
    · rename_i hn
      injection h with h
      subst h
      exact ⟨Nat.le_refl _, fun j _ => rfl, fun i hi => by omega, by rw [Nat.sub_self]; exact hn⟩
  | G + 1, x, out, h => by
    rw [Sp.wayGo] at h
    split at h
    · rename_i h0
      obtain ⟨h1, h2, h3, h4⟩ := Sp.way_get G _ _ h
      rw [List.length_append, List.length_singleton] at h1 h2 h3 h4
      have hit : ∀ i, itf (Sp.nx T U) (Sp.nx T U x) i = itf (Sp.nx T U) x (i + 1) := by
        intro i
        induction i with
        | zero => rfl
        | succ i ih => show Sp.nx T U _ = Sp.nx T U _; rw [ih]
      have e0 : (T.getD (Sp.oth (U.getD x 0).toNat) 0).toNat = Sp.nx T U x := rfl
      rw [e0] at h3 h4
      refine ⟨by omega, fun j hj => ?_, fun i hi => ?_, ?_⟩
      · rw [h2 j (by omega), List.getD_eq_getElem?_getD, List.getElem?_append_left hj, ← List.getD_eq_getElem?_getD]
      · cases i with
        | zero =>
          refine ⟨?_, h0⟩
          rw [Nat.add_zero, h2 out.length (by omega), List.getD_eq_getElem?_getD, List.getElem?_append_right (Nat.le_refl _), Nat.sub_self]
          rfl
        | succ i =>
          have := h3 i (by omega)
          rw [hit, show out.length + 1 + i = out.length + (i + 1) by omega] at this
          exact this
      · rw [hit, show R.length - (out.length + 1) + 1 = R.length - out.length by omega] at h4
        exact h4
    · rename_i hn
      injection h with h
      subst h
      exact ⟨Nat.le_refl _, fun j _ => rfl, fun i hi => by omega, by rw [Nat.sub_self]; exact hn⟩
theorem Sp.Mn.lt {T U : List Int} {r N g x : Nat} (hT : ∀ y, y < N → Sp.nx T U y < N) (hx : x < N) (h : Sp.Mn T U (r : Int) g x) : g < N := by
  have := nodup_le N _ (Sp.pl_nodup h) (Sp.pl_bd hT g x hx)
  rw [Sp.pl_len] at this
  omega
/-- Distances on the way: k rounds are done, and d darts of the next. -/
structure Sp.Ds (T U : List Int) (r N k d : Nat) (z : List Int) : Prop where
  len : z.length = N
  top : ∀ v, v < N → z.getD v 0 ≤ 1000
  lo : ∀ v g, v < N → Sp.Mn T U (r : Int) g v → (g : Int) ≤ z.getD v 0
  hi : ∀ v g, v < N → Sp.Mn T U (r : Int) g v → g ≤ k → z.getD v 0 ≤ (g : Int)
  nxt : ∀ v g (c : Nat), v < N → Sp.Mn T U (r : Int) g v → g = k + 1 → U.getD v 0 = (c : Int) → c < d → z.getD v 0 ≤ (g : Int)
theorem Sp.Ds.first {T U : List Int} {r N : Nat} (hT : ∀ y, y < N → Sp.nx T U y < N) (hN : N ≤ 60) (z : List Int) (hl : z.length = N) (_hr : r < N) (h : ∀ v, v < N → z.getD v 0 = if v = r then 0 else 1000) : Sp.Ds T U r N 0 0 z := by
  refine ⟨hl, fun v hv => ?_, fun v g hv hg => ?_, fun v g hv hg h0 => ?_, fun v g c hv hg h0 _ hc => by omega⟩
  · rw [h v hv]; split <;> omega
  · have := hg.lt hT hv
    rw [h v hv]
    split
    · rename_i e; have := hg.root (by omega); omega
    · omega
  · obtain rfl : g = 0 := by omega
    have := hg.zero
    rw [h v hv, if_pos (by omega)]
    omega
theorem Sp.Ds.step {T U : List Int} {r N k d : Nat} {z : List Int} (h : Sp.Ds T U r N k d z) (hF : Sp.SpanF T U r N) (hT : ∀ x ∈ T, 0 ≤ x ∧ x < (N : Int)) (hev : T.length % 2 = 0) (hd : d < T.length) :
    Sp.Ds T U r N k (d + 1) (z.set (T.getD d 0).toNat (min (z.getD (T.getD d 0).toNat 0) (z.getD (T.getD (Sp.oth d) 0).toNat 0 + 1))) := by
  have ho := oth_lt hd hev
  have bt := hT _ (Sp.getD_mem (l := T) hd)
  have bh := hT _ (Sp.getD_mem (l := T) ho)
  have hl := h.len
  have htN : (T.getD d 0).toNat < N := by omega
  have hhN : (T.getD (Sp.oth d) 0).toNat < N := by omega
  obtain ⟨gh, hgh⟩ := (hF.row.rc _ hhN).least
  refine ⟨by rw [List.length_set]; exact hl, fun v hv => ?_, fun v g hv hg => ?_, fun v g hv hg hk => ?_, fun v g c hv hg hk hc hcd => ?_⟩
  · rw [getD_set1 _ _ _ _ (by omega)]
    have := h.top v hv
    split
    · rename_i e; rw [← e] at this; omega
    · exact this
  · rw [getD_set1 _ _ _ _ (by omega)]
    have h1 := h.lo v g hv hg
    split
    · rename_i e
      rw [← e] at h1 hg
      have h2 := h.lo _ gh hhN hgh
      have h3 := hF.low (Sp.oth d) gh g ho hgh (by rw [oth_oth]; exact hg)
      omega
    · exact h1
  · rw [getD_set1 _ _ _ _ (by omega)]
    have h1 := h.hi v g hv hg hk
    split
    · rename_i e; rw [← e] at h1; omega
    · exact h1
  · rw [getD_set1 _ _ _ _ (by omega)]
    by_cases hcd2 : c < d
    · have h1 := h.nxt v g c hv hg hk hc hcd2
      split
      · rename_i e; rw [← e] at h1; omega
      · exact h1
    · obtain rfl : c = d := by omega
      have hvr : v ≠ r := fun e => by subst e; have := hF.row.rt; omega
      obtain ⟨c', -, e1, e2⟩ := hF.row.dart v hv hvr
      obtain rfl : c' = c := by omega
      rw [if_pos (by omega)]
      subst hk
      have e3 := hg.next.2
      rw [hF.row.nx hc] at e3
      have := h.hi _ k hhN e3 (Nat.le_refl _)
      omega
theorem Sp.Ds.round {T U : List Int} {r N k : Nat} {z : List Int} (h : Sp.Ds T U r N k T.length z) (hF : Sp.SpanF T U r N) : Sp.Ds T U r N (k + 1) 0 z := by
  refine ⟨h.len, h.top, h.lo, fun v g hv hg hk => ?_, fun v g c _ _ _ _ hc => by omega⟩
  by_cases hk2 : g ≤ k
  · exact h.hi v g hv hg hk2
  · have hvr : v ≠ r := fun e => by have := hg.root (by omega); omega
    obtain ⟨c, hc, e1, -⟩ := hF.row.dart v hv hvr
    exact h.nxt v g c hv hg (by omega) e1 hc
theorem Sp.Ds.last {T U : List Int} {r N d : Nat} {z : List Int} (h : Sp.Ds T U r N N d z) (hT : ∀ y, y < N → Sp.nx T U y < N) {v g : Nat} (hv : v < N) (hg : Sp.Mn T U (r : Int) g v) : z.getD v 0 = (g : Int) := by
  have h1 := h.lo v g hv hg
  have h2 := h.hi v g hv hg (by have := hg.lt hT hv; omega)
  omega
/-- What TreeWays asks of a way. -/
structure Sp.WayF (T U R : List Int) (r N x : Nat) (X : Nat → Nat) : Prop where
  x0 : X 0 = x
  bd : ∀ i, X i < N
  at_ : ∀ i, i < R.length → ∃ c : Nat, c < T.length ∧ R.getD i 0 = (c : Int) ∧ T.getD c 0 = (X i : Int) ∧ X i ≠ r ∧ T.getD (Sp.oth c) 0 = (X (i + 1) : Int)
  stop : X R.length = r
  mn : Sp.Mn T U (r : Int) R.length x
theorem Sp.wayF_of {T U R : List Int} {r N x : Nat} (h : Sp.RowT T U r N) (hT : ∀ y ∈ T, 0 ≤ y ∧ y < (N : Int)) (hev : T.length % 2 = 0) (hx : x < N) (hR : Sp.wayGo T U (N + 1) x [] = some R) : Sp.WayF T U R r N x (itf (Sp.nx T U) x) := by
  have hn : ∀ y, Sp.nx T U y < N := fun y => Sp.nx_bd hT (by omega) y
  obtain ⟨-, -, h3, h4⟩ := Sp.way_get (N + 1) x [] hR
  have hb : ∀ i, itf (Sp.nx T U) x i < N := fun i => by
    cases i with
    | zero => exact hx
    | succ i => exact hn _
  have hl0 : ([] : List Int).length = 0 := rfl
  rw [hl0] at h3 h4
  rw [Nat.sub_zero] at h4
  obtain ⟨g, hg⟩ := (h.rc x hx).least
  have hlen := Sp.way_len (r := r) (N + 1) g x [] R (fun v hv hvr => by
    by_cases hvN : v < N
    · obtain ⟨d, -, e1, -⟩ := h.dart v hvN hvr
      omega
    · rw [List.getD_eq_getElem?_getD, List.getElem?_eq_none (by rw [h.len]; omega)]
      exact Int.le_refl _) h.rt hg (by have := hg.lt (fun y _ => hn y) hx; omega) hR
  rw [hl0] at hlen
  refine ⟨rfl, hb, fun i hi => ?_, ?_, by rw [show R.length = g by omega]; exact hg⟩
  · have h5 := h3 i (by omega)
    rw [Nat.zero_add] at h5
    have hr : itf (Sp.nx T U) x i ≠ r := fun e => by rw [e, h.rt] at h5; omega
    obtain ⟨c, hc, e1, e2⟩ := h.dart _ (hb i) hr
    refine ⟨c, hc, by rw [h5.1, e1], e2, hr, ?_⟩
    have e3 : itf (Sp.nx T U) x (i + 1) = Sp.nx T U (itf (Sp.nx T U) x i) := rfl
    have b := hT _ (Sp.getD_mem (l := T) (oth_lt hc hev))
    rw [e3, h.nx e1]
    omega
  · by_cases hr : itf (Sp.nx T U) x R.length = r
    · exact hr
    · obtain ⟨c, hc, e1, -⟩ := h.dart _ (hb _) hr
      rw [e1] at h4
      exact absurd (by omega) h4
end Go.Proofs.Ytenffkplneimlaa


