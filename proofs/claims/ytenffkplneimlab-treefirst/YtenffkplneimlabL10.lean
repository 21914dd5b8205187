/- What the proof needs, part 10. -/
import Derived.Test.YtenffkplneimlabL9
/- Breadth first: a vertex hangs on the first one found that has a dart to it, by its least dart; ways are as short as may be. -/
namespace Go.Proofs.Ytenffkplneimlab
open Go Go.RowKit

/-- What stays along Span: ps, of each vertex found, the place of the one that found it. -/
structure Sp.Bf (T fl U : List Int) (ps : List Nat) (i d : Nat) : Prop where
  len : ps.length = fl.length
  par : ∀ j, 0 < j → j < fl.length → ps.getD j 0 < j ∧ ps.getD j 0 ≤ i ∧ ∃ c : Nat, c < T.length ∧ U.getD (fl.getD j 0).toNat 0 = ((Sp.oth c : Nat) : Int) ∧ T.getD (Sp.oth c) 0 = fl.getD j 0 ∧ T.getD c 0 = fl.getD (ps.getD j 0) 0 ∧ ∀ e, e < c → T.getD e 0 = T.getD c 0 → T.getD (Sp.oth e) 0 ≠ fl.getD j 0
  mono : ∀ j k, 0 < j → j ≤ k → k < fl.length → ps.getD j 0 ≤ ps.getD k 0
  done : ∀ u e, u < i ∨ u = i ∧ e < d → u < fl.length → e < T.length → T.getD e 0 = fl.getD u 0 → ∃ j, j < fl.length ∧ fl.getD j 0 = T.getD (Sp.oth e) 0 ∧ (j = 0 ∨ ps.getD j 0 ≤ u)
theorem getDN_app (l : List Nat) (x : Nat) (j : Nat) : (l ++ [x]).getD j 0 = if j < l.length then l.getD j 0 else if j = l.length then x else 0 := by
  rw [List.getD_eq_getElem?_getD, List.getD_eq_getElem?_getD]
  by_cases h : j < l.length
  · rw [if_pos h, List.getElem?_append_left h]
  · rw [if_neg h, List.getElem?_append_right (by omega)]
    by_cases h2 : j = l.length
    · rw [if_pos h2, h2, Nat.sub_self]; rfl
    · rw [if_neg h2, List.getElem?_eq_none (by simp; omega)]; rfl
theorem getDI_app (l : List Int) (x : Int) (j : Nat) : (l ++ [x]).getD j 0 = if j < l.length then l.getD j 0 else if j = l.length then x else 0 := by
  rw [List.getD_eq_getElem?_getD, List.getD_eq_getElem?_getD]
  by_cases h : j < l.length
  · rw [if_pos h, List.getElem?_append_left h]
  · rw [if_neg h, List.getElem?_append_right (by omega)]
    by_cases h2 : j = l.length
    · rw [if_pos h2, h2, Nat.sub_self]; rfl
    · rw [if_neg h2, List.getElem?_eq_none (by simp; omega)]; rfl
theorem mem_getD {l : List Int} {x : Int} (h : x ∈ l) : ∃ j, j < l.length ∧ l.getD j 0 = x := by
  obtain ⟨j, hj, e⟩ := List.getElem_of_mem h
  exact ⟨j, hj, by rw [Sp.getD_eq _ _ hj, e]⟩
theorem Sp.Bf.skip {T fl U : List Int} {ps : List Nat} {i d : Nat} (h : Sp.Bf T fl U ps i d) (hne : T.getD d 0 ≠ fl.getD i 0) : Sp.Bf T fl U ps i (d + 1) := by
  refine ⟨h.len, h.par, h.mono, fun u e hu h1 h2 h3 => h.done u e ?_ h1 h2 h3⟩
  rcases hu with hu | ⟨rfl, hu⟩
  · exact .inl hu
  · by_cases he : e = d
    · subst he; exact absurd h3 hne
    · exact .inr ⟨rfl, by omega⟩
theorem Sp.Bf.old {T fl U : List Int} {ps : List Nat} {i d : Nat} (h : Sp.Bf T fl U ps i d) (hm : T.getD (Sp.oth d) 0 ∈ fl) : Sp.Bf T fl U ps i (d + 1) := by
  refine ⟨h.len, h.par, h.mono, fun u e hu h1 h2 h3 => ?_⟩
  rcases hu with hu | ⟨rfl, hu⟩
  · exact h.done u e (.inl hu) h1 h2 h3
  · by_cases he : e = d
    · subst he
      obtain ⟨j, hj, e1⟩ := mem_getD hm
      refine ⟨j, hj, e1, ?_⟩
      by_cases hj0 : j = 0
      · exact .inl hj0
      · exact .inr (h.par j (by omega) hj).2.1
    · exact h.done u e (.inr ⟨rfl, by omega⟩) h1 h2 h3
theorem Sp.Bf.new {T fl U : List Int} {ps : List Nat} {i d : Nat} (h : Sp.Bf T fl U ps i d) (hi : i < fl.length) (hd : d < T.length) (hu : T.getD d 0 = fl.getD i 0) (hm : ¬ T.getD (Sp.oth d) 0 ∈ fl) (h0 : 0 ≤ T.getD (Sp.oth d) 0) (hU : (T.getD (Sp.oth d) 0).toNat < U.length) (hb : ∀ x ∈ fl, 0 ≤ x) :
    Sp.Bf T (fl ++ [T.getD (Sp.oth d) 0]) (U.set (T.getD (Sp.oth d) 0).toNat ((Sp.oth d : Nat) : Int)) (ps ++ [i]) i (d + 1) := by
  have hl := h.len
  have old : ∀ j, j < fl.length → (fl ++ [T.getD (Sp.oth d) 0]).getD j 0 = fl.getD j 0 := fun j hj => by rw [getDI_app, if_pos hj]
  have oldp : ∀ j, j < fl.length → (ps ++ [i]).getD j 0 = ps.getD j 0 := fun j hj => by rw [getDN_app, if_pos (by omega)]
  have newf : (fl ++ [T.getD (Sp.oth d) 0]).getD fl.length 0 = T.getD (Sp.oth d) 0 := by rw [getDI_app, if_neg (by omega), if_pos rfl]
  have newp : (ps ++ [i]).getD fl.length 0 = i := by rw [getDN_app, if_neg (by omega), if_pos (by omega)]
  have hlen : (fl ++ [T.getD (Sp.oth d) 0]).length = fl.length + 1 := by simp
  refine ⟨by simp [hl], fun j h1 h2 => ?_, fun j k h1 h2 h3 => ?_, fun u e hu' h1 h2 h3 => ?_⟩
  · rw [hlen] at h2
    by_cases hj : j < fl.length
    · obtain ⟨a1, a2, c, c1, c2, c3, c4, c5⟩ := h.par j h1 hj
      rw [old j hj, oldp j hj, old _ (by omega)]
      refine ⟨a1, a2, c, c1, ?_, c3, c4, c5⟩
      rw [getD_set1 _ _ _ _ hU, if_neg fun e => hm ?_]
      · exact c2
      · have hjm := Sp.getD_mem (l := fl) hj
        have := hb _ hjm
        rw [show T.getD (Sp.oth d) 0 = fl.getD j 0 by omega]
        exact hjm
    · obtain rfl : j = fl.length := by omega
      rw [newf, newp, old i hi]
      refine ⟨hi, Nat.le_refl _, d, hd, by rw [getD_set1 _ _ _ _ hU, if_pos rfl], rfl, hu, fun e he h3 h4 => hm ?_⟩
      obtain ⟨j, hj, e1, -⟩ := h.done i e (.inr ⟨rfl, he⟩) hi (by omega) (by rw [h3, hu])
      rw [← h4, ← e1]
      exact Sp.getD_mem hj
  · rw [hlen] at h3
    by_cases hk : k < fl.length
    · rw [oldp j (by omega), oldp k hk]; exact h.mono j k h1 h2 hk
    · obtain rfl : k = fl.length := by omega
      rw [newp]
      by_cases hj : j < fl.length
      · rw [oldp j hj]; exact (h.par j h1 hj).2.1
      · obtain rfl : j = fl.length := by omega
        rw [newp]; exact Nat.le_refl _
  · rw [hlen] at h1
    have hul : u < fl.length := by omega
    rw [old u hul] at h3
    by_cases he : u = i ∧ e = d
    · obtain ⟨rfl, rfl⟩ := he
      exact ⟨fl.length, by omega, newf, .inr (by rw [newp]; exact Nat.le_refl _)⟩
    · obtain ⟨j, hj, e1, e2⟩ := h.done u e (by omega) hul h2 h3
      exact ⟨j, by omega, by rw [old j hj]; exact e1, by rw [oldp j hj]; exact e2⟩
theorem Sp.Bf.row {T : List Int} {root : Int} {N : Nat} (hT : ∀ x ∈ T, 0 ≤ x ∧ x < (N : Int)) (hev : T.length % 2 = 0) {u : Int} {i : Nat} : ∀ c d fl up ps, d + c = T.length → i < fl.length → u = fl.getD i 0 → Sp.SpSt T root N fl up → Sp.Bf T fl up ps i d → ∃ ps', Sp.Bf T (Sp.rowGo T root u c d fl up).1 (Sp.rowGo T root u c d fl up).2 ps' i T.length
  | 0, d, fl, up, ps, hd, _, _, _, hb => by
    obtain rfl : d = T.length := by omega
    exact ⟨ps, hb⟩
  | c + 1, d, fl, up, ps, hd, hi, hu, h, hb => by
    have hum : u ∈ fl := by rw [hu]; exact Sp.getD_mem hi
    rw [Sp.rowGo]
    split
    · rename_i e
      have ho := oth_lt (show d < T.length by omega) hev
      have hbd := hT _ (Sp.getD_mem (l := T) ho)
      have hmem := h.mem (T.getD (Sp.oth d) 0).toNat (by omega)
      rw [show (((T.getD (Sp.oth d) 0).toNat : Nat) : Int) = T.getD (Sp.oth d) 0 by omega] at hmem
      split
      · rename_i hf
        exact Sp.Bf.row hT hev c (d + 1) fl up ps (by omega) hi hu h (hb.old (hmem.2 hf))
      · rename_i hn
        refine Sp.Bf.row hT hev c (d + 1) _ _ (ps ++ [i]) (by omega) (by rw [List.length_append]; omega) ?_ (h.find hT hev (by omega) (by rw [e]; exact hum) hn) ?_
        · rw [getDI_app, if_pos hi]; exact hu
        · exact hb.new hi (by omega) (by rw [e]; exact hu) (fun hm => hn (hmem.1 hm)) hbd.1 (by rw [h.len]; omega) (fun x hx => (h.bd x hx).1)
    · rename_i e
      exact Sp.Bf.row hT hev c (d + 1) fl up ps (by omega) hi hu h (hb.skip (by rw [← hu]; exact e))
theorem Sp.Bf.span {T : List Int} {root : Int} {N : Nat} (hT : ∀ x ∈ T, 0 ≤ x ∧ x < (N : Int)) (hev : T.length % 2 = 0) : ∀ g i fl up ps, i + g = N → Sp.SpSt T root N fl up → Sp.Bf T fl up ps i 0 → ∃ ps' i', Sp.Bf T (Sp.spanGo T root g i fl up).1 (Sp.spanGo T root g i fl up).2 ps' i' 0 ∧ (Sp.spanGo T root g i fl up).1.length ≤ i'
  | 0, i, fl, up, ps, hi, h, hb => ⟨ps, i, hb, by have := h.le; show fl.length ≤ i; omega⟩
  | g + 1, i, fl, up, ps, hi, h, hb => by
    rw [Sp.spanGo]
    split
    · rename_i hl
      obtain ⟨ps', hb'⟩ := Sp.Bf.row hT hev T.length 0 fl up ps (by omega) hl rfl h hb
      have h' := (Sp.SpSt.row hT hev T.length 0 fl up (by omega) (Sp.getD_mem hl) h).1
      refine Sp.Bf.span hT hev g (i + 1) _ _ ps' (by omega) h' ⟨hb'.len, fun j h1 h2 => ?_, hb'.mono, fun u e hu h1 h2 h3 => hb'.done u e ?_ h1 h2 h3⟩
      · obtain ⟨a1, a2, a3⟩ := hb'.par j h1 h2
        exact ⟨a1, by omega, a3⟩
      · omega
    · exact ⟨ps, i, hb, by show fl.length ≤ i; omega⟩
theorem Sp.Mn.zero {T U : List Int} {root : Int} {x : Nat} (h : Sp.Mn T U root 0 x) : (x : Int) = root := of_decide_eq_true h.1
theorem Sp.Mn.root {T U : List Int} {root : Int} {g x : Nat} (h : Sp.Mn T U root g x) (hx : (x : Int) = root) : g = 0 := by
  cases g with
  | zero => rfl
  | succ g => exact absurd hx h.next.1
/-- What is known of Span's row. -/
structure Sp.SpanF (T U : List Int) (r N : Nat) : Prop where
  row : Sp.RowT T U r N
  low : ∀ e g h, e < T.length → Sp.Mn T U (r : Int) g (T.getD e 0).toNat → Sp.Mn T U (r : Int) h (T.getD (Sp.oth e) 0).toNat → h ≤ g + 1
  least : ∀ v, v < N → v ≠ r → ∀ c : Nat, U.getD v 0 = (c : Int) → ∀ e, e < Sp.oth c → T.getD e 0 = T.getD (Sp.oth c) 0 → T.getD (Sp.oth e) 0 ≠ (v : Int)
theorem Sp.TreeQ.spanF {q : Sp.Net} (h : Sp.TreeQ q) {r N : Nat} (hN : q.n = (N : Int)) (hr : r < N) : Sp.SpanF q.tail (Sp.span q (r : Int)) r N := by
  have hT' : ∀ x ∈ q.tail, 0 ≤ x ∧ x < (N : Int) := fun x hx => by have := h.tb x hx; omega
  have hev := h.ev
  have hrow := Sp.rowT_of hN h.tb (h.span hN hr)
  have h0 : Sp.SpSt q.tail (r : Int) N [(r : Int)] (List.replicate N (-1)) := Sp.SpSt.first q.tail (by omega) (by omega)
  have hb0 : Sp.Bf q.tail [(r : Int)] (List.replicate N (-1)) [0] 0 0 := ⟨rfl, fun j h1 h2 => by simp at h2; omega, fun j k h1 h2 h3 => by simp at h3; omega, fun u e hu => by omega⟩
  obtain ⟨ps, i, hb, hi⟩ := Sp.Bf.span hT' hev N 0 _ _ _ (by omega) h0 hb0
  obtain ⟨hst, -⟩ := Sp.spanGo_done hT' hev N 0 [(r : Int)] (List.replicate N (-1)) (by omega) (by simp) h0 (fun k hk => by omega)
  have hsp : Sp.span q (r : Int) = (Sp.spanGo q.tail (r : Int) N 0 [(r : Int)] (List.replicate N (-1))).2 := by unfold Sp.span; rw [hN, Int.toNat_natCast]
  rw [← hsp] at hst hb
  generalize (Sp.spanGo q.tail (r : Int) N 0 [(r : Int)] (List.replicate N (-1))).1 = fl at *
  generalize Sp.span q (r : Int) = U at *
  have hin : ∀ v : Nat, v < N → ∃ j, j < fl.length ∧ fl.getD j 0 = (v : Int) := fun v hv => mem_getD ((hst.mem v hv).2 (by
    by_cases e : v = r
    · exact .inl (by omega)
    · obtain ⟨d, -, e1, -⟩ := hrow.dart v hv e
      exact .inr (by omega)))
  have h0f : fl.getD 0 0 = (r : Int) := by obtain ⟨s, hs⟩ := hst.hd; rw [hs]; rfl
  have hnr : ∀ j, 0 < j → j < fl.length → fl.getD j 0 ≠ (r : Int) := fun j h1 h2 e => by
    have hp := List.pairwise_iff_getElem.1 hst.nd 0 j (by omega) h2 h1
    rw [Sp.getD_eq _ _ h2] at e
    rw [Sp.getD_eq _ _ (by omega)] at h0f
    exact hp (by rw [h0f, e])
  have hbd : ∀ j, j < fl.length → 0 ≤ fl.getD j 0 ∧ fl.getD j 0 < (N : Int) := fun j hj => hst.bd _ (Sp.getD_mem hj)
  have hnx : ∀ j, 0 < j → j < fl.length → Sp.nx q.tail U (fl.getD j 0).toNat = (fl.getD (ps.getD j 0) 0).toNat := fun j h1 h2 => by
    obtain ⟨-, -, c, -, c2, -, c4, -⟩ := hb.par j h1 h2
    rw [hrow.nx c2, oth_oth, c4]
  have hmono : ∀ k j g l, j ≤ k → k < fl.length → Sp.Mn q.tail U (r : Int) g (fl.getD j 0).toNat → Sp.Mn q.tail U (r : Int) l (fl.getD k 0).toNat → g ≤ l := by
    intro k
    induction k using Nat.strongRecOn with
    | ind k ih =>
      intro j g l hjk hk hg hl
      by_cases hj : j = 0
      · subst hj
        rw [h0f] at hg
        have := hg.root (by omega)
        omega
      · have b1 := hbd j (by omega)
        have b2 := hbd k hk
        have n1 := hnr j (by omega) (by omega)
        have n2 := hnr k (by omega) hk
        cases g with
        | zero => omega
        | succ g =>
          cases l with
          | zero => have := hl.zero; omega
          | succ l =>
            have e1 := hg.next.2
            have e2 := hl.next.2
            rw [hnx j (by omega) (by omega)] at e1
            rw [hnx k (by omega) hk] at e2
            have p1 := (hb.par k (by omega) hk).1
            have := ih (ps.getD k 0) p1 (ps.getD j 0) g l (hb.mono j k (by omega) hjk hk) (by omega) e1 e2
            omega
  refine ⟨hrow, fun e g l he hg hl => ?_, fun v hv hvr c hc e he h1 h2 => ?_⟩
  · have bt := hT' _ (Sp.getD_mem (l := q.tail) he)
    obtain ⟨u, hu, e1⟩ := hin (q.tail.getD e 0).toNat (by omega)
    obtain ⟨j, hj, e2, e3⟩ := hb.done u e (.inl (by omega)) hu he (by omega)
    rw [← e2] at hl
    have hg' : Sp.Mn q.tail U (r : Int) g (fl.getD u 0).toNat := by rw [e1, Int.toNat_natCast]; exact hg
    rcases e3 with rfl | e3
    · rw [h0f] at hl
      have := hl.root (by omega)
      omega
    · by_cases hj0 : j = 0
      · subst hj0
        rw [h0f] at hl
        have := hl.root (by omega)
        omega
      · cases l with
        | zero => omega
        | succ l =>
          have e4 := hl.next.2
          rw [hnx j (by omega) hj] at e4
          have := hmono u (ps.getD j 0) l g e3 hu e4 hg'
          omega
  · obtain ⟨j, hj, e1⟩ := hin v hv
    have hj0 : j ≠ 0 := fun e => by subst e; omega
    obtain ⟨-, -, c', -, c2, -, -, c5⟩ := hb.par j (by omega) hj
    rw [e1, Int.toNat_natCast, hc] at c2
    have hcc : c = Sp.oth c' := by omega
    have ho : Sp.oth c = c' := by rw [hcc, oth_oth]
    rw [ho] at he h1
    exact c5 e he h1 (by rw [e1]; exact h2)
end Go.Proofs.Ytenffkplneimlab


/- The law TreeFirst, walked. -/
namespace Go.Proofs.Ytenffkplneimlab
open Go Go.RowKit

set_option maxRecDepth 100000 in
set_option maxHeartbeats 4000000 in
theorem treeFirst_any (ns : List Int) (x : Value) (root v : Int) (w : World) (hx : Ints w x ns) :
    Calls Try.prog 3 #[x, .int .i64 root, .int .i64 v] w fun e w' => e = .returned (.bool true) ∧ Below w.heap.size w w' := by
  obtain ⟨a, c, rfl, hc, hm⟩ := hx.form
  have HPL := hide (fun w' (hb : Below w.heap.size w w') => plane_any ns (.slice a ns.length c) w' (hx.below hb))
  have HOK := hide (Sp.plane_ok ns)
  have HTQ := hide (Sp.treeQ_plane ns)
  generalize Sp.plane ns = q at *
  generalize ns.length = n at *
  clear hx
  obtain ⟨P, hP⟩ : ∃ P : Ending → World → Prop, P = fun e w' => e = .returned (.bool true) ∧ Below w.heap.size w w' := ⟨_, rfl⟩
  rw [← hP]
  have HP := hide hP
  clear hP
  go_enter Try.func3, Try.ntmps3
  go_wp2_with fail
  go_at_call 6
  refine (known4_any w).mono ?_
  rintro e w2 ⟨rfl, hb2⟩
  have Hb2 := hide hb2
  clear hb2
  go_wp2_with fail
  go_at_call 7
  refine (unhide HPL _ (unhide Hb2)).mono ?_
  clear HPL
  rintro e w3 ⟨v, tv, nv, cv, rfl, hnv, hb3⟩
  have hval := hnv.val
  subst hval
  obtain ⟨ta, tc, rfl, htc, htm, HT⟩ := hnv.netI.tail.allD
  obtain ⟨na, nc, rfl, -, -⟩ := hnv.netI.next.form
  obtain ⟨ca, cc, rfl, -, -⟩ := hnv.netI.cap.form
  obtain ⟨W4, hW4⟩ : ∃ W4, W4 = w3.alloc (.cells #[.int .i64 q.n, .slice ta q.tail.length tc, .slice na q.next.length nc, .slice ca q.cap.length cc] 25) := ⟨_, rfl⟩
  obtain ⟨hBX, hs4, hTR⟩ := boxed ((unhide Hb2).trans (hb3.mono (unhide Hb2).size)) hnv.netI W4 hW4
  have HBX := hide hBX
  have HTR := hide hTR
  have Hs4 := hide hs4
  have HW4 := hide hW4
  clear hnv hb3 Hb2 hBX hTR hs4 hW4
  have hb4 : Below (w3.heap.size + 1) W4 W4 := Below.refl _ _
  have HWK := hide ((unhide HOK).walk (by omega))
  have hn0 : 1 ≤ q.n := (unhide HOK).n0
  have hn1 : q.n ≤ 100 := by have := (unhide HOK).n1; omega
  obtain ⟨N, hN⟩ : ∃ N : Nat, q.n = (N : Int) := ⟨q.n.toNat, by omega⟩
  have hN60 : N ≤ 60 := by have := (unhide HTQ).n1; omega
  have hN1 : 1 ≤ N := by omega
  have hl48 : q.tail.length ≤ 48 := (unhide HTQ).le
  have HNN := hide hN
  have HTn : Hid (∀ x ∈ q.tail, 0 ≤ x ∧ x < (N : Int)) := hide fun x hx => by have := (unhide HTQ).tb x hx; omega
  have HIs : Hid (∀ (l : List Int) w' v u, l.length ≤ 1000001 → Ints w' v l → Ints w' u l → Calls Try.prog 16 #[v, u] w' fun e w'' => e = .returned (.bool true) ∧ Below w'.heap.size w' w'') := hide fun l w' v u hl h1 h2 => by
    refine (rInts_any l l v u w' h1 h2 hl hl).mono fun e w'' ⟨a1, a2⟩ => ⟨?_, a2⟩
    rw [a1, decide_eq_true rfl]
  have hnI : (0 : Int) < q.n := by omega
  have HWr := hide (fun w' => within4_any root q.n w' (by omega) (by omega))
  obtain ⟨r, hr⟩ : ∃ r : Nat, root % q.n = (r : Int) := ⟨(root % q.n).toNat, by have := Int.emod_nonneg root (show q.n ≠ 0 by omega); omega⟩
  have hrN : r < N := by have := Int.emod_lt_of_pos root hnI; omega
  rw [hr] at HWr
  clear hr hnI
  have HU0 := hide ((unhide HTQ).span (unhide HNN) hrN)
  have HUF := hide ((unhide HTQ).spanF (unhide HNN) hrN)
  have HSp : Hid (∀ w', Below (w3.heap.size + 1) W4 w' → Calls Try.prog 9 #[.agg #[.int .i64 q.n, .slice ta q.tail.length tc, .slice na q.next.length nc, .slice ca q.cap.length cc], .int .i64 (r : Int)] w' fun e w'' => ∃ lv, e = .returned lv ∧ OwnI w'' w'.heap.size lv (Sp.span q (r : Int)) ∧ Below w'.heap.size w' w'') := hide fun w' hb =>
    span_any q r N _ _ _ _ w' (unhide HBX w' hb).2.1 (unhide HTQ).ev (by omega) (unhide HNN) hN60 (unhide HTQ).nE hrN (unhide HTn)
  have HSr : Hid (∀ w', Below (w3.heap.size + 1) W4 w' → Calls Try.prog 10 #[.agg #[.int .i64 q.n, .slice ta q.tail.length tc, .slice na q.next.length nc, .slice ca q.cap.length cc], .int .i64 (r : Int)] w' fun e w'' => ∃ lv, e = .returned lv ∧ Ints w'' lv (Sp.span q (r : Int)) ∧ Below w'.heap.size w' w'') := hide fun w' hb =>
    (span2_any q r N _ _ _ _ w' (unhide HBX w' hb).2.1 (unhide HTQ).ev (by omega) (unhide HNN) (by omega) hrN (unhide HTn)).mono fun e w'' ⟨lv, a1, a2, a3⟩ => ⟨lv, a1, OwnI.ints a2, a3⟩
  have HRt : Hid (∀ w' uv, Below (w3.heap.size + 1) W4 w' → Ints w' uv (Sp.span q (r : Int)) → Calls Try.prog 15 #[.agg #[.int .i64 q.n, .slice ta q.tail.length tc, .slice na q.next.length nc, .slice ca q.cap.length cc], uv, .int .i64 (r : Int)] w' fun e w'' => e = .returned (.bool true) ∧ Below w'.heap.size w' w'') := hide fun w' uv hb hu => by
    have h := right_any q _ (r : Int) N _ _ _ _ uv w' (unhide HBX w' hb).2.1 hu (unhide HTQ).ev (by omega) (unhide HNN) hN60 (unhide HTQ).nE (unhide HTQ).tb
    rw [unhide HU0] at h
    exact h
  have HLp : Hid (∀ w' uv, Below (w3.heap.size + 1) W4 w' → Ints w' uv (Sp.span q (r : Int)) → Calls Try.prog 12 #[.agg #[.int .i64 q.n, .slice ta q.tail.length tc, .slice na q.next.length nc, .slice ca q.cap.length cc], uv] w' fun e w'' => ∃ lv, e = .returned lv ∧ OwnI w'' w'.heap.size lv (Sp.leftL q (Sp.span q (r : Int))) ∧ Below w'.heap.size w' w'') := hide fun w' uv hb hu =>
    left_any q _ r N _ _ _ _ uv w' (unhide HBX w' hb).2.1 hu (unhide HTQ).ev (by omega) (unhide HNN) hN60 (unhide HTQ).nE (unhide HTQ).tb (unhide HU0)
  have HLr : Hid (∀ w' uv, Below (w3.heap.size + 1) W4 w' → Ints w' uv (Sp.span q (r : Int)) → Calls Try.prog 17 #[.agg #[.int .i64 q.n, .slice ta q.tail.length tc, .slice na q.next.length nc, .slice ca q.cap.length cc], uv] w' fun e w'' => ∃ lv, e = .returned lv ∧ Ints w'' lv (Sp.leftL q (Sp.span q (r : Int))) ∧ Below w'.heap.size w' w'') := hide fun w' uv hb hu =>
    (left2_any q _ _ _ _ _ uv w' (unhide HBX w' hb).2.1 hu (unhide HTQ).ev (by omega) (by rw [(unhide HUF).row.len]; omega)).mono fun e w'' ⟨lv, a1, a2, a3⟩ => ⟨lv, a1, OwnI.ints a2, a3⟩
  have HUl : Hid ((Sp.span q (r : Int)).length = N) := hide (unhide HUF).row.len
  have HLl : Hid ((Sp.leftL q (Sp.span q (r : Int))).length + (N - 1) = q.tail.length / 2) := hide ((unhide HUF).row.left (unhide HTQ).ev)
  have HWx := hide (fun w' => within4_any v q.n w' (by omega) (by omega))
  obtain ⟨x, hx⟩ : ∃ x : Nat, v % q.n = (x : Int) := ⟨(v % q.n).toNat, by have := Int.emod_nonneg v (show q.n ≠ 0 by omega); omega⟩
  have hxN : x < N := by have := Int.emod_lt_of_pos v (show 0 < q.n by omega); omega
  rw [hx] at HWx
  have hev := (unhide HTQ).ev
  have HHd : Hid (∀ (y : Nat) w', Below (w3.heap.size + 1) W4 w' → y < q.tail.length → Calls Try.prog 11 #[.agg #[.int .i64 q.n, .slice ta q.tail.length tc, .slice na q.next.length nc, .slice ca q.cap.length cc], .int .i64 (y : Int)] w' fun e w'' => e = .returned (.int .i64 (q.tail.getD (Sp.oth y) 0)) ∧ Below w'.heap.size w' w'') := hide fun y w' hb hy =>
    head2_any q _ _ _ _ y w' (unhide HBX w' hb).2.1 hy hev (by omega)
  have HEv := hide hev
  clear hx hN hev
  obtain ⟨x0, x1, x2, x3⟩ := (unhide HBX W4 hb4).1
  go_wp2_with fail
  rw [← unhide HW4]
  go_at_call 8
  refine (unhide HWr _).mono ?_
  rintro e w5 ⟨rfl, h5⟩
  have h5' := h5.symm
  subst h5'
  clear h5
  go_wp2_with fail
  go_at_call 9
  refine (unhide HSp W4 hb4).mono ?_
  rintro e w6 ⟨uv, rfl, hO6, hl6⟩
  have hU := OwnI.ints hO6
  have hb6 := unhide HTR _ _ hb4 hl6
  clear x0 x1 x2 x3 hO6 hl6 hb4
  obtain ⟨x0, x1, x2, x3⟩ := (unhide HBX w6 hb6).1
  go_wp2_with fail
  go_at_call 10
  refine (unhide HSr w6 hb6).mono ?_
  rintro e w7 ⟨wv, rfl, hV, hl7⟩
  have hb7 := unhide HTR _ _ hb6 hl7
  obtain ⟨ua, uc, huv, -, -, HU⟩ := (hU.below hl7).allD
  rw [unhide HUl] at huv HU
  subst huv
  obtain ⟨va, vc, hvv, -, -, HV⟩ := hV.allD
  rw [unhide HUl] at hvv HV
  subst hvv
  clear x0 x1 x2 x3 hU hV hl7 hb6
  obtain ⟨x0, x1, x2, x3⟩ := (unhide HBX w7 hb7).1
  go_wp2_with fail
  go_at_call 8
  refine (unhide HWx _).mono ?_
  rintro e w8 ⟨rfl, h8⟩
  have h8' := h8.symm
  subst h8'
  clear h8
  obtain ⟨bu, ou, rfl, -, hcu⟩ := unhide HU x hxN
  obtain ⟨bw, ow, rfl, -, hcw⟩ := unhide HV x hxN
  have c1 := hcu _ (Below.refl _ _).drew
  have c2 := hcw _ (Below.refl _ _).drew
  have hne : ((N : Int) != q.n) = false := by rw [unhide HNN]; simp
  have hxI : (x : Int) < (N : Int) := by omega
  have HZ : Hid (x ≠ r → ∃ c : Nat, c < q.tail.length ∧ (Sp.span q (r : Int)).getD x 0 = (c : Int) ∧ ∀ e, e < Sp.oth c → q.tail.getD e 0 = q.tail.getD (Sp.oth c) 0 → q.tail.getD (Sp.oth e) 0 ≠ (x : Int)) := hide fun h => by
    obtain ⟨c, hc, e1, -⟩ := (unhide HUF).row.dart x hxN h
    exact ⟨c, hc, e1, (unhide HUF).least x hxN h c e1⟩
  generalize hz : (Sp.span q (r : Int)).getD x 0 = z at *
  have Hz := hide hz
  have hzz : (z != z) = false := by simp
  clear hz hcw HV HSp HSr HRt HLp HLr HLl HU0 HUF
  have HU2 : Hid (∀ w', Below w7.heap.size w7 w' → w'.cell? ⟨bu, ou + x, none⟩ = some (.int .i64 z)) := hide fun w' hb => hcu w' hb
  clear hcu HU
  go_upto_region 8 with fail
  clear x0 x1 x2 x3
  obtain ⟨x0, x1, x2, x3⟩ := (unhide HBX _ hb7.drew).1
  refine wp_region_G (fun w' => w'.cell? ⟨w3.heap.size, 0, none⟩ = some (.int .i64 q.n) ∧ w'.cell? ⟨w3.heap.size, 1, none⟩ = some (.slice ta q.tail.length tc) ∧ w'.cell? ⟨w3.heap.size, 2, none⟩ = some (.slice na q.next.length nc) ∧ w'.cell? ⟨w3.heap.size, 3, none⟩ = some (.slice ca q.cap.length cc) ∧ w'.cell? ⟨bu, ou + x, none⟩ = some (.int .i64 z) ∧ w'.cell? ⟨bw, ow + x, none⟩ = some (.int .i64 z)) (fun _ => false) (by kernel_rfl) ⟨x0, x1, x2, x3, c1, c2⟩ (fun hHeld => ?_)
  refine wpAnyG_take (v := ?_) 0 (by rfl) (by kernel_rfl) (by kernel_rfl) (by kernel_rfl) (by kernel_rfl) (fun _ _ _ h => h) (Or.inl ⟨by rfl, ?_⟩) (by assumption) ?_
  rotate_left
  · (intro w' hSw; (try dsimp only at hSw); (try simp only [List.getElem_toArray, List.getElem_cons_zero]); go_simp; try (with_reducible rfl))
  simp only [Act.put, List.getElem_toArray, List.getElem_cons_zero, List.setIfInBounds_toArray, List.set_cons_zero, List.set_cons_succ]
  refine wpAnyG_take (v := ?_) 1 (by rfl) (by kernel_rfl) (by kernel_rfl) (by kernel_rfl) (by kernel_rfl) (fun _ _ _ h => h) (Or.inl ⟨by rfl, ?_⟩) (by assumption) ?_
  rotate_left
  · (intro w' hSw; (try dsimp only at hSw); (try simp only [List.getElem_toArray, List.getElem_cons_succ, List.getElem_cons_zero]); go_simp; try (with_reducible rfl))
  simp only [Act.put, List.getElem_toArray, List.getElem_cons_succ, List.getElem_cons_zero, List.setIfInBounds_toArray, List.set_cons_zero, List.set_cons_succ]
  refine wpAnyG_take (v := ?_) 2 (by rfl) (by kernel_rfl) (by kernel_rfl) (by kernel_rfl) (by kernel_rfl) (fun _ _ _ h => h) (Or.inl ⟨by rfl, ?_⟩) (by assumption) ?_
  rotate_left
  · (intro w' hSw; (try dsimp only at hSw); (try simp only [List.getElem_toArray, List.getElem_cons_succ, List.getElem_cons_zero]); go_simp; try (with_reducible rfl))
  simp only [Act.put, List.getElem_toArray, List.getElem_cons_succ, List.getElem_cons_zero, List.setIfInBounds_toArray, List.set_cons_zero, List.set_cons_succ]
  refine wpAnyG_take (v := ?_) 3 (by rfl) (by kernel_rfl) (by kernel_rfl) (by kernel_rfl) (by kernel_rfl) (fun _ _ _ h => h) (Or.inl ⟨by rfl, ?_⟩) (by assumption) ?_
  rotate_left
  · (intro w' hSw; (try dsimp only at hSw); (try simp only [List.getElem_toArray, List.getElem_cons_succ, List.getElem_cons_zero]); go_simp; try (with_reducible rfl))
  simp only [Act.put, List.getElem_toArray, List.getElem_cons_succ, List.getElem_cons_zero, List.setIfInBounds_toArray, List.set_cons_zero, List.set_cons_succ]
  refine wpAnyG_take (v := ?_) 4 (by rfl) (by kernel_rfl) (by kernel_rfl) (by kernel_rfl) (by kernel_rfl) (fun _ _ _ h => h) (Or.inl ⟨by rfl, ?_⟩) (by assumption) ?_
  rotate_left
  · (intro w' hSw; (try dsimp only at hSw); (try simp only [List.getElem_toArray, List.getElem_cons_succ, List.getElem_cons_zero]); go_simp; try (with_reducible rfl))
  simp only [Act.put, List.getElem_toArray, List.getElem_cons_succ, List.getElem_cons_zero, List.setIfInBounds_toArray, List.set_cons_zero, List.set_cons_succ]
  refine wpAnyG_take (v := ?_) 5 (by rfl) (by kernel_rfl) (by kernel_rfl) (by kernel_rfl) (by kernel_rfl) (fun _ _ _ h => h) (Or.inl ⟨by rfl, ?_⟩) (by assumption) ?_
  rotate_left
  · (intro w' hSw; (try dsimp only at hSw); (try simp only [List.getElem_toArray, List.getElem_cons_succ, List.getElem_cons_zero]); go_simp; try (with_reducible rfl))
  simp only [Act.put, List.getElem_toArray, List.getElem_cons_succ, List.getElem_cons_zero, List.setIfInBounds_toArray, List.set_cons_zero, List.set_cons_succ]
  refine wpAnyG_take (v := ?_) 6 (by rfl) (by kernel_rfl) (by kernel_rfl) (by kernel_rfl) (by kernel_rfl) (fun _ _ _ h => h) (Or.inl ⟨by rfl, ?_⟩) (by assumption) ?_
  rotate_left
  · (intro w' hSw; (try dsimp only at hSw); (try simp only [List.getElem_toArray, List.getElem_cons_succ, List.getElem_cons_zero]); go_simp; try (with_reducible rfl))
  simp only [Act.put, List.getElem_toArray, List.getElem_cons_succ, List.getElem_cons_zero, List.setIfInBounds_toArray, List.set_cons_zero, List.set_cons_succ]
  refine wpAnyG_take (v := ?_) 7 (by rfl) (by kernel_rfl) (by kernel_rfl) (by kernel_rfl) (by kernel_rfl) (fun _ _ _ h => h) (Or.inl ⟨by rfl, ?_⟩) (by assumption) ?_
  rotate_left
  · (intro w' hSw; (try dsimp only at hSw); (try simp only [List.getElem_toArray, List.getElem_cons_succ, List.getElem_cons_zero]); go_simp; try (with_reducible rfl))
  simp only [Act.put, List.getElem_toArray, List.getElem_cons_succ, List.getElem_cons_zero, List.setIfInBounds_toArray, List.set_cons_zero, List.set_cons_succ]
  refine wpAnyG_take (v := ?_) 8 (by rfl) (by kernel_rfl) (by kernel_rfl) (by kernel_rfl) (by kernel_rfl) (fun _ _ _ h => h) (Or.inl ⟨by rfl, ?_⟩) (by assumption) ?_
  rotate_left
  · (intro w' hSw; (try dsimp only at hSw); (try simp only [List.getElem_toArray, List.getElem_cons_succ, List.getElem_cons_zero]); go_simp; try (with_reducible rfl))
  simp only [Act.put, List.getElem_toArray, List.getElem_cons_succ, List.getElem_cons_zero, List.setIfInBounds_toArray, List.set_cons_zero, List.set_cons_succ]
  refine wpAnyG_take (v := ?_) 9 (by rfl) (by kernel_rfl) (by kernel_rfl) (by kernel_rfl) (by kernel_rfl) (fun _ _ _ h => h) (Or.inl ⟨by rfl, ?_⟩) (by assumption) ?_
  rotate_left
  · (intro w' hSw; (try dsimp only at hSw); (try simp only [List.getElem_toArray, List.getElem_cons_succ, List.getElem_cons_zero]); go_simp; try (with_reducible rfl))
  simp only [Act.put, List.getElem_toArray, List.getElem_cons_succ, List.getElem_cons_zero, List.setIfInBounds_toArray, List.set_cons_zero, List.set_cons_succ]
  refine wpAnyG_take (v := ?_) 10 (by rfl) (by kernel_rfl) (by kernel_rfl) (by kernel_rfl) (by kernel_rfl) (fun _ _ _ h => h) (Or.inl ⟨by rfl, ?_⟩) (by assumption) ?_
  rotate_left
  · (intro w' hSw; (try dsimp only at hSw); (try simp only [List.getElem_toArray, List.getElem_cons_succ, List.getElem_cons_zero]); go_simp; try (with_reducible rfl))
  simp only [Act.put, List.getElem_toArray, List.getElem_cons_succ, List.getElem_cons_zero, List.setIfInBounds_toArray, List.set_cons_zero, List.set_cons_succ]
  refine wpAnyG_take (v := ?_) 11 (by rfl) (by kernel_rfl) (by kernel_rfl) (by kernel_rfl) (by kernel_rfl) (fun _ _ _ h => h) (Or.inl ⟨by rfl, ?_⟩) (by assumption) ?_
  rotate_left
  · (intro w' hSw; (try dsimp only at hSw); (try simp only [List.getElem_toArray, List.getElem_cons_succ, List.getElem_cons_zero]); go_simp; try (with_reducible rfl))
  simp only [Act.put, List.getElem_toArray, List.getElem_cons_succ, List.getElem_cons_zero, List.setIfInBounds_toArray, List.set_cons_zero, List.set_cons_succ]
  refine wpAnyG_take (v := ?_) 12 (by rfl) (by kernel_rfl) (by kernel_rfl) (by kernel_rfl) (by kernel_rfl) (fun _ _ _ h => h) (Or.inl ⟨by rfl, ?_⟩) (by assumption) ?_
  rotate_left
  · (intro w' hSw; (try dsimp only at hSw); (try simp only [List.getElem_toArray, List.getElem_cons_succ, List.getElem_cons_zero]); go_simp; try (with_reducible rfl))
  simp only [Act.put, List.getElem_toArray, List.getElem_cons_succ, List.getElem_cons_zero, List.setIfInBounds_toArray, List.set_cons_zero, List.set_cons_succ]
  refine wpAnyG_take (v := ?_) 13 (by rfl) (by kernel_rfl) (by kernel_rfl) (by kernel_rfl) (by kernel_rfl) (fun _ _ _ h => h) (Or.inl ⟨by rfl, ?_⟩) (by assumption) ?_
  rotate_left
  · (intro w' hSw; (try dsimp only at hSw); (try simp only [List.getElem_toArray, List.getElem_cons_succ, List.getElem_cons_zero]); go_simp; try (with_reducible rfl))
  simp only [Act.put, List.getElem_toArray, List.getElem_cons_succ, List.getElem_cons_zero, List.setIfInBounds_toArray, List.set_cons_zero, List.set_cons_succ]
  refine wpAnyG_take (v := ?_) 14 (by rfl) (by kernel_rfl) (by kernel_rfl) (by kernel_rfl) (by kernel_rfl) (fun _ _ _ h => h) (Or.inl ⟨by rfl, ?_⟩) (by assumption) ?_
  rotate_left
  · (intro w' hSw; (try dsimp only at hSw); (try simp only [List.getElem_toArray, List.getElem_cons_succ, List.getElem_cons_zero]); go_simp; try (with_reducible rfl))
  simp only [Act.put, List.getElem_toArray, List.getElem_cons_succ, List.getElem_cons_zero, List.setIfInBounds_toArray, List.set_cons_zero, List.set_cons_succ]
  refine wpAnyG_take (v := ?_) 15 (by rfl) (by kernel_rfl) (by kernel_rfl) (by kernel_rfl) (by kernel_rfl) (fun _ _ _ h => h) (Or.inl ⟨by rfl, ?_⟩) (by assumption) ?_
  rotate_left
  · (intro w' hSw; (try dsimp only at hSw); (try simp only [List.getElem_toArray, List.getElem_cons_succ, List.getElem_cons_zero]); go_simp; try (with_reducible rfl))
  simp only [Act.put, List.getElem_toArray, List.getElem_cons_succ, List.getElem_cons_zero, List.setIfInBounds_toArray, List.set_cons_zero, List.set_cons_succ]
  refine wpAnyG_done (by kernel_rfl) ?_ _
  refine NoPanic.normal ?_
  clear hHeld
  have hbd := hb7.drew
  have HU3 : Hid (∀ w', Below w7.drew.heap.size w7.drew w' → w'.cell? ⟨bu, ou + x, none⟩ = some (.int .i64 z)) := hide fun w' hb => unhide HU2 w' ((Below.refl _ w7).drew.trans hb)
  generalize w7.drew = wQ at *
  by_cases hxr : x = r
  · have hxrB : ((x : Int) == (r : Int)) = true := by rw [hxr]; exact beq_self_eq_true _
    have HF := hide (unhide HBX _ hbd).2.2.1
    clear hxr
    go_wp2
    rw [unhide HP]
    exact ⟨rfl, unhide HF⟩
  · have hxrB : ((x : Int) == (r : Int)) = false := beq_eq_false_iff_ne.2 (by omega)
    obtain ⟨cc', hcl, hcz, hle⟩ := unhide HZ hxr
    have hzc : z = (cc' : Int) := hcz
    subst hzc
    have hol := oth_lt hcl (unhide HEv)
    have hX := xor_oth ⟨cc', by omega⟩
    simp only at hX
    have HLe := hide hle
    have HH1 := hide (fun w' hb => unhide HHd cc' w' hb hcl)
    have c1 := unhide HU3 _ (Below.refl _ _)
    obtain ⟨p, hp⟩ : ∃ p, q.tail.getD (Sp.oth cc') 0 = p := ⟨_, rfl⟩
    rw [hp] at HH1 HLe
    generalize Sp.oth cc' = oc at *
    clear hp hle hcz HZ Hz hxr c2 hcl
    have c1d : Hid (wQ.drew.cell? ⟨bu, ou + x, none⟩ = some (.int .i64 (cc' : Int))) := hide (unhide HU3 _ (Below.refl _ _).drew)
    go_upto_region 12 with fail
    clear x0 x1 x2 x3 c1
    refine wp_region_G (fun w' => (w'.cell? ⟨w3.heap.size, 0, none⟩ = some (.int .i64 q.n) ∧ w'.cell? ⟨w3.heap.size, 1, none⟩ = some (.slice ta q.tail.length tc) ∧ w'.cell? ⟨w3.heap.size, 2, none⟩ = some (.slice na q.next.length nc) ∧ w'.cell? ⟨w3.heap.size, 3, none⟩ = some (.slice ca q.cap.length cc)) ∧ w'.cell? ⟨bu, ou + x, none⟩ = some (.int .i64 (cc' : Int))) (fun _ => false) (by kernel_rfl) ⟨(unhide HBX _ hbd.drew).1, unhide c1d⟩ (fun hHeld => ?_)
    have hbq := hbd.drew
    have hq : Below wQ.heap.size wQ wQ.drew := (Below.refl _ _).drew
    generalize wQ.drew = wR at *
    refine wpAnyG_take (v := ?_) 0 (by rfl) (by kernel_rfl) (by kernel_rfl) (by kernel_rfl) (by kernel_rfl) (fun _ _ _ h => h) (Or.inl ⟨by rfl, ?_⟩) (by assumption) ?_
    rotate_left
    · (intro w' hSw; (try dsimp only at hSw); (try simp only [List.getElem_toArray, List.getElem_cons_zero]); go_simp; try (with_reducible rfl))
    simp only [Act.put, List.getElem_toArray, List.getElem_cons_zero, List.setIfInBounds_toArray, List.set_cons_zero, List.set_cons_succ]
    refine wpAnyG_take (v := ?_) 1 (by rfl) (by kernel_rfl) (by kernel_rfl) (by kernel_rfl) (by kernel_rfl) (fun _ _ _ h => h) (Or.inl ⟨by rfl, ?_⟩) (by assumption) ?_
    rotate_left
    · (intro w' hSw; (try dsimp only at hSw); (try simp only [List.getElem_toArray, List.getElem_cons_succ, List.getElem_cons_zero]); go_simp; try (with_reducible rfl))
    simp only [Act.put, List.getElem_toArray, List.getElem_cons_succ, List.getElem_cons_zero, List.setIfInBounds_toArray, List.set_cons_zero, List.set_cons_succ]
    refine wpAnyG_take (v := ?_) 2 (by rfl) (by kernel_rfl) (by kernel_rfl) (by kernel_rfl) (by kernel_rfl) (fun _ _ _ h => h) (Or.inl ⟨by rfl, ?_⟩) (by assumption) ?_
    rotate_left
    · (intro w' hSw; (try dsimp only at hSw); (try simp only [List.getElem_toArray, List.getElem_cons_succ, List.getElem_cons_zero]); go_simp; try (with_reducible rfl))
    simp only [Act.put, List.getElem_toArray, List.getElem_cons_succ, List.getElem_cons_zero, List.setIfInBounds_toArray, List.set_cons_zero, List.set_cons_succ]
    refine wpAnyG_take (v := ?_) 3 (by rfl) (by kernel_rfl) (by kernel_rfl) (by kernel_rfl) (by kernel_rfl) (fun _ _ _ h => h) (Or.inl ⟨by rfl, ?_⟩) (by assumption) ?_
    rotate_left
    · (intro w' hSw; (try dsimp only at hSw); (try simp only [List.getElem_toArray, List.getElem_cons_succ, List.getElem_cons_zero]); go_simp; try (with_reducible rfl))
    simp only [Act.put, List.getElem_toArray, List.getElem_cons_succ, List.getElem_cons_zero, List.setIfInBounds_toArray, List.set_cons_zero, List.set_cons_succ]
    refine wpAnyG_take (v := ?_) 4 (by rfl) (by kernel_rfl) (by kernel_rfl) (by kernel_rfl) (by kernel_rfl) (fun _ _ _ h => h) (Or.inl ⟨by rfl, ?_⟩) (by assumption) ?_
    rotate_left
    · (intro w' hSw; (try dsimp only at hSw); (try simp only [List.getElem_toArray, List.getElem_cons_succ, List.getElem_cons_zero]); go_simp; try (with_reducible rfl))
    simp only [Act.put, List.getElem_toArray, List.getElem_cons_succ, List.getElem_cons_zero, List.setIfInBounds_toArray, List.set_cons_zero, List.set_cons_succ]
    refine wpAnyG_ready [5] (by kernel_rfl) (by simp) ?_
    refine AllReadyG.cons 5 (by rfl) (fun K hK => ?_) ?_
    · simp only [List.getElem_toArray, List.getElem_cons_succ, List.getElem_cons_zero]
      go_simp
      go_at_call 11
      refine (unhide HH1 _ hbq).mono ?_
      rintro e wc1 ⟨rfl, hlc1⟩
      have hbc1 := unhide HTR _ _ hbq hlc1
      have hq1 := hq.trans (hlc1.mono hq.size)
      refine hK.out _ _ ⟨(unhide HBX _ hbc1).1, unhide HU3 _ hq1⟩ (fun _ => ?_)
      clear hK K
      try simp only [Act.put, List.setIfInBounds_toArray, List.set_cons_zero, List.set_cons_succ]
      clear hlc1 hq hbq
      refine wpAnyG_take (v := ?_) 6 (by rfl) (by kernel_rfl) (by kernel_rfl) (by kernel_rfl) (by kernel_rfl) (fun _ _ _ h => h) (Or.inl ⟨by rfl, ?_⟩) (by assumption) ?_
      rotate_left
      · (intro w' hSw; (try dsimp only at hSw); (try simp only [List.getElem_toArray, List.getElem_cons_succ, List.getElem_cons_zero]); go_simp; try (with_reducible rfl))
      simp only [Act.put, List.getElem_toArray, List.getElem_cons_succ, List.getElem_cons_zero, List.setIfInBounds_toArray, List.set_cons_zero, List.set_cons_succ]
      refine wpAnyG_done (by kernel_rfl) ?_ _
      refine NoPanic.normal ?_
      have hbe := hbc1
      have HU4 : Hid (∀ w', Below wc1.heap.size wc1 w' → w'.cell? ⟨bu, ou + x, none⟩ = some (.int .i64 (cc' : Int))) := hide fun w' hb => unhide HU3 w' (hq1.trans (hb.mono hq1.size))
      have HT4 : Hid (∀ w' k, Below wc1.heap.size wc1 w' → k < q.tail.length → ∃ b o, ta = some ⟨b, o, none⟩ ∧ w'.cell? ⟨b, o + k, none⟩ = some (.int .i64 (q.tail.getD k 0))) := hide fun w' k hb hk => by
        obtain ⟨b, o, e1, -, e2⟩ := unhide HT k hk
        exact ⟨b, o, e1, e2 w' (unhide HBX w' (unhide HTR _ _ hbe hb)).2.2.2.2⟩
      have HB4 : Hid (∀ w', Below wc1.heap.size wc1 w' → Below (w3.heap.size + 1) W4 w') := hide fun w' hb => unhide HTR _ _ hbe hb
      have HI4 : Hid (Below wc1.heap.size wc1 wc1) := hide (Below.refl _ _)
      obtain ⟨x0, x1, x2, x3⟩ := (unhide HBX _ hbe).1
      clear hbe hbc1 hq1 hbd hb7 HU3 HU2
      go_wp2
      go_loopg [13] oc (fun g s13 wr => ∃ d : Nat, d + g = oc ∧ s13 = .int .i64 (d : Int) ∧ Hid (Below wc1.heap.size wc1 wr))
      case atStart => exact ⟨0, by omega, rfl, HI4⟩
      case round =>
        clear HI4 x0 x1 x2 x3
        obtain ⟨d, hdg, rfl, HI⟩ := hrel
        have c1 := unhide HU4 wr (unhide HI)
        obtain ⟨x0, x1, x2, x3⟩ := (unhide HBX _ (unhide HB4 wr (unhide HI))).1
        cases gk with
        | zero =>
          obtain rfl : d = oc := by omega
          have HF := hide (unhide HBX _ (unhide HB4 wr (unhide HI))).2.2.1
          clear HI
          go_wp2
          rw [unhide HP]
          exact ⟨rfl, unhide HF⟩
        | succ g' =>
          have hdl : d < oc := by omega
          have hdI : (d : Int) < (oc : Int) := by omega
          have hdt : d < q.tail.length := by omega
          have hdtI : (d : Int) < (q.tail.length : Int) := by omega
          obtain ⟨tb, t0, rfl, c2⟩ := unhide HT4 wr d (unhide HI) hdt
          have hl := unhide HLe d hdl
          have HH2 := hide (unhide HHd d wr (unhide HB4 wr (unhide HI)) hdt)
          by_cases htp : q.tail.getD d 0 = p
          · have hne := hl htp
            have e1 : (q.tail.getD (Sp.oth d) 0 == (x : Int)) = false := beq_eq_false_iff_ne.2 hne
            have e2 : (q.tail.getD d 0 == p) = true := by rw [htp]; exact beq_self_eq_true _
            generalize q.tail.getD d 0 = td at *
            generalize q.tail.getD (Sp.oth d) 0 = th at *
            clear hl hne htp
            go_wp2_with fail
            go_at_call 11
            refine (unhide HH2).mono ?_
            rintro e wh ⟨rfl, hlh⟩
            have HIh := hide ((unhide HI).trans (hlh.mono (unhide HI).size))
            clear hlh HI HH2 c1 c2 x0 x1 x2 x3
            go_wp2
            go_roundg g'
            case rel => exact ⟨d + 1, by omega, by go_num, HIh⟩
            case measure => omega
          · have e2 : (q.tail.getD d 0 == p) = false := beq_eq_false_iff_ne.2 htp
            generalize q.tail.getD d 0 = td at *
            clear hl HH2 htp
            go_wp2
            go_roundg g'
            case rel => exact ⟨d + 1, by omega, by go_num, HI⟩
            case measure => omega
    exact AllReadyG.nil
end Go.Proofs.Ytenffkplneimlab


