/- What the proof needs, part 9. -/
import Derived.Test.YtenffkplneimlabL8
/- Breadth first: a vertex hangs on the first one found that has a dart to it, by its least dart; ways are as short as may be. -/
namespace Go.Proofs.Ytenffkplneimlab
open Go Go.RowKit

/-- What stays along Span: ps, of each vertex found, the place of the one that found it. -/
structure Sp.Bf (T fl U : List Int) (ps : List Nat) (i d : Nat) : Prop where
  len : ps.length = fl.length
  par : ∀ j, 0 < j → j < fl.length → ps.getD j 0 < j ∧ ps.getD j 0 ≤ i ∧ ∃ c : Nat, c < T.length ∧ U.getD (fl.getD j 0).toNat 0 = ((Sp.oth c : Nat) : Int) ∧ T.getD (Sp.oth c) 0 = fl.getD j 0 ∧ T.getD c 0 = fl.getD (ps.getD j 0) 0 ∧ ∀ e, e < c → T.getD e 0 = T.getD c 0 → T.getD (Sp.oth e) 0 ≠ fl.getD j 0
  mono : ∀ j k, 0 < j → j ≤ k → k < fl.length → ps.getD j 0 ≤ ps.getD k 0
  done : ∀ u e, u < i ∨ u = i ∧ e < d → u < fl.length → e < T.length → T.getD e 0 = fl.getD u 0 → ∃ j, j < fl.length ∧ fl.getD j 0 = T.getD (Sp.oth e) 0 ∧ (j = 0 ∨ ps.getD j 0 ≤ u)
theorem getDN_app (l : List Nat) (x : Nat) (j : Nat) : (l ++ [x]).getD j 0 = if j < l.length then l.getD j 0 else if j = l.length then x else 0 := by
  rw [List.getD_eq_getElem?_getD, List.getD_eq_getElem?_getD]
  by_cases h : j < l.length
  · rw [if_pos h, List.getElem?_append_left h]
  · rw [if_neg h, List.getElem?_append_right (by omega)]
    by_cases h2 : j = l.length
    · rw [if_pos h2, h2, Nat.sub_self]; rfl
    · rw [if_neg h2, List.getElem?_eq_none (by simp; omega)]; rfl
theorem getDI_app (l : List Int) (x : Int) (j : Nat) : (l ++ [x]).getD j 0 = if j < l.length then l.getD j 0 else if j = l.length then x else 0 := by
  rw [List.getD_eq_getElem?_getD, List.getD_eq_getElem?_getD]
  by_cases h : j < l.length
  · rw [if_pos h, List.getElem?_append_left h]
  · rw [if_neg h, List.getElem?_append_right (by omega)]
    by_cases h2 : j = l.length
    · rw [if_pos h2, h2, Nat.sub_self]; rfl
    · rw [if_neg h2, List.getElem?_eq_none (by simp; omega)]; rfl
theorem mem_getD {l : List Int} {x : Int} (h : x ∈ l) : ∃ j, j < l.length ∧ l.getD j 0 = x := by
  obtain ⟨j, hj, e⟩ := List.getElem_of_mem h
  exact ⟨j, hj, by rw [Sp.getD_eq _ _ hj, e]⟩
theorem Sp.Bf.skip {T fl U : List Int} {ps : List Nat} {i d : Nat} (h : Sp.Bf T fl U ps i d) (hne : T.getD d 0 ≠ fl.getD i 0) : Sp.Bf T fl U ps i (d + 1) := by
  refine ⟨h.len, h.par, h.mono, fun u e hu h1 h2 h3 => h.done u e ?_ h1 h2 h3⟩
  rcases hu with hu | ⟨rfl, hu⟩
  · exact .inl hu
  · by_cases he : e = d
    · subst he; exact absurd h3 hne
    · exact .inr ⟨rfl, by omega⟩
theorem Sp.Bf.old {T fl U : List Int} {ps : List Nat} {i d : Nat} (h : Sp.Bf T fl U ps i d) (hm : T.getD (Sp.oth d) 0 ∈ fl) : Sp.Bf T fl U ps i (d + 1) := by
  refine ⟨h.len, h.par, h.mono, fun u e hu h1 h2 h3 => ?_⟩
  rcases hu with hu | ⟨rfl, hu⟩
  · exact h.done u e (.inl hu) h1 h2 h3
  · by_cases he : e = d
    · subst he
      obtain ⟨j, hj, e1⟩ := mem_getD hm
      refine ⟨j, hj, e1, ?_⟩
      by_cases hj0 : j = 0
      · exact .inl hj0
      · exact .inr (h.par j (by omega) hj).2.1
    · exact h.done u e (.inr ⟨rfl, by omega⟩) h1 h2 h3
theorem Sp.Bf.new {T fl U : List Int} {ps : List Nat} {i d : Nat} (h : Sp.Bf T fl U ps i d) (hi : i < fl.length) (hd : d < T.length) (hu : T.getD d 0 = fl.getD i 0) (hm : ¬ T.getD (Sp.oth d) 0 ∈ fl) (h0 : 0 ≤ T.getD (Sp.oth d) 0) (hU : (T.getD (Sp.oth d) 0).toNat < U.length) (hb : ∀ x ∈ fl, 0 ≤ x) :
    Sp.Bf T (fl ++ [T.getD (Sp.oth d) 0]) (U.set (T.getD (Sp.oth d) 0).toNat ((Sp.oth d : Nat) : Int)) (ps ++ [i]) i (d + 1) := by
  have hl := h.len
  have old : ∀ j, j < fl.length → (fl ++ [T.getD (Sp.oth d) 0]).getD j 0 = fl.getD j 0 := fun j hj => by rw [getDI_app, if_pos hj]
  have oldp : ∀ j, j < fl.length → (ps ++ [i]).getD j 0 = ps.getD j 0 := fun j hj => by rw [getDN_app, if_pos (by omega)]
  have newf : (fl ++ [T.getD (Sp.oth d) 0]).getD fl.length 0 = T.getD (Sp.oth d) 0 := by rw [getDI_app, if_neg (by omega), if_pos rfl]
  have newp : (ps ++ [i]).getD fl.length 0 = i := by rw [getDN_app, if_neg (by omega), if_pos (by omega)]
  have hlen : (fl ++ [T.getD (Sp.oth d) 0]).length = fl.length + 1 := by simp
  refine ⟨by simp [hl], fun j h1 h2 => ?_, fun j k h1 h2 h3 => ?_, fun u e hu' h1 h2 h3 => ?_⟩
  · rw [hlen] at h2
    by_cases hj : j < fl.length
    · obtain ⟨a1, a2, c, c1, c2, c3, c4, c5⟩ := h.par j h1 hj
      rw [old j hj, oldp j hj, old _ (by omega)]
      refine ⟨a1, a2, c, c1, ?_, c3, c4, c5⟩
      rw [getD_set1 _ _ _ _ hU, if_neg fun e => hm ?_]
      · exact c2
      · have hjm := Sp.getD_mem (l := fl) hj
        have := hb _ hjm
        rw [show T.getD (Sp.oth d) 0 = fl.getD j 0 by omega]
        exact hjm
    · obtain rfl : j = fl.length := by omega
      rw [newf, newp, old i hi]
      refine ⟨hi, Nat.le_refl _, d, hd, by rw [getD_set1 _ _ _ _ hU, if_pos rfl], rfl, hu, fun e he h3 h4 => hm ?_⟩
      obtain ⟨j, hj, e1, -⟩ := h.done i e (.inr ⟨rfl, he⟩) hi (by omega) (by rw [h3, hu])
      rw [← h4, ← e1]
      exact Sp.getD_mem hj
  · rw [hlen] at h3
    by_cases hk : k < fl.length
    · rw [oldp j (by omega), oldp k hk]; exact h.mono j k h1 h2 hk
    · obtain rfl : k = fl.length := by omega
      rw [newp]
      by_cases hj : j < fl.length
      · rw [oldp j hj]; exact (h.par j h1 hj).2.1
      · obtain rfl : j = fl.length := by omega
        rw [newp]; exact Nat.le_refl _
  · rw [hlen] at h1
    have hul : u < fl.length := by omega
    rw [old u hul] at h3
    by_cases he : u = i ∧ e = d
    · obtain ⟨rfl, rfl⟩ := he
      exact ⟨fl.length, by omega, newf, .inr (by rw [newp]; exact Nat.le_refl _)⟩
    · obtain ⟨j, hj, e1, e2⟩ := h.done u e (by omega) hul h2 h3
      exact ⟨j, by omega, by rw [old j hj]; exact e1, by rw [oldp j hj]; exact e2⟩
theorem Sp.Bf.row {T : List Int} {root : Int} {N : Nat} (hT : ∀ x ∈ T, 0 ≤ x ∧ x < (N : Int)) (hev : T.length % 2 = 0) {u : Int} {i : Nat} : ∀ c d fl up ps, d + c = T.length → i < fl.length → u = fl.getD i 0 → Sp.SpSt T root N fl up → Sp.Bf T fl up ps i d → ∃ ps', Sp.Bf T (Sp.rowGo T root u c d fl up).1 (Sp.rowGo T root u c d fl up).2 ps' i T.length
  | 0, d, fl, up, ps, hd, _, _, _, hb => by
    obtain rfl : d = T.length := by omega
    exact ⟨ps, hb⟩
  | c + 1, d, fl, up, ps, hd, hi, hu, h, hb => by
    have hum : u ∈ fl := by rw [hu]; exact Sp.getD_mem hi
    rw [Sp.rowGo]
    split
    · rename_i e
      have ho := oth_lt (show d < T.length by omega) hev
      have hbd := hT _ (Sp.getD_mem (l := T) ho)
      have hmem := h.mem (T.getD (Sp.oth d) 0).toNat (by omega)
      rw [show (((T.getD (Sp.oth d) 0).toNat : Nat) : Int) = T.getD (Sp.oth d) 0 by omega] at hmem
      split
      · rename_i hf
        exact Sp.Bf.row hT hev c (d + 1) fl up ps (by omega) hi hu h (hb.old (hmem.2 hf))
      · rename_i hn
        refine Sp.Bf.row hT hev c (d + 1) _ _ (ps ++ [i]) (by omega) (by rw [List.length_append]; omega) ?_ (h.find hT hev (by omega) (by rw [e]; exact hum) hn) ?_
        · rw [getDI_app, if_pos hi]; exact hu
        · exact hb.new hi (by omega) (by rw [e]; exact hu) (fun hm => hn (hmem.1 hm)) hbd.1 (by rw [h.len]; omega) (fun x hx => (h.bd x hx).1)
    · rename_i e
      exact Sp.Bf.row hT hev c (d + 1) fl up ps (by omega) hi hu h (hb.skip (by rw [← hu]; exact e))
theorem Sp.Bf.span {T : List Int} {root : Int} {N : Nat} (hT : ∀ x ∈ T, 0 ≤ x ∧ x < (N : Int)) (hev : T.length % 2 = 0) : ∀ g i fl up ps, i + g = N → Sp.SpSt T root N fl up → Sp.Bf T fl up ps i 0 → ∃ ps' i', Sp.Bf T (Sp.spanGo T root g i fl up).1 (Sp.spanGo T root g i fl up).2 ps' i' 0 ∧ (Sp.spanGo T root g i fl up).1.length ≤ i'
  | 0, i, fl, up, ps, hi, h, hb => ⟨ps, i, hb, by have := h.le; show fl.length ≤ i; omega⟩
  | g + 1, i, fl, up, ps, hi, h, hb => by
    rw [Sp.spanGo]
    split
    · rename_i hl
      obtain ⟨ps', hb'⟩ := Sp.Bf.row hT hev T.length 0 fl up ps (by omega) hl rfl h hb
      have h' := (Sp.SpSt.row hT hev T.length 0 fl up (by omega) (Sp.getD_mem hl) h).1
      refine Sp.Bf.span hT hev g (i + 1) _ _ ps' (by omega) h' ⟨hb'.len, fun j h1 h2 => ?_, hb'.mono, fun u e hu h1 h2 h3 => hb'.done u e ?_ h1 h2 h3⟩
      · obtain ⟨a1, a2, a3⟩ := hb'.par j h1 h2
        exact ⟨a1, by omega, a3⟩
      · omega
    · exact ⟨ps, i, hb, by show fl.length ≤ i; omega⟩
theorem Sp.Mn.zero {T U : List Int} {root : Int} {x : Nat} (h : Sp.Mn T U root 0 x) : (x : Int) = root := of_decide_eq_true h.1
theorem Sp.Mn.root {T U : List Int} {root : Int} {g x : Nat} (h : Sp.Mn T U root g x) (hx : (x : Int) = root) : g = 0 := by
  cases g with
  | zero => rfl
  | succ g => exact absurd hx h.next.1
end Go.Proofs.Ytenffkplneimlab


/- What a tree leaves hangs all faces together; joined one by one, each edge of it joins two (P402). -/
namespace Go.Proofs.Ytenffkplneimlab
open Go Go.RowKit

/-- One label becomes another. -/
def Sp.mg (of : List Int) (a b : Int) : List Int := of.map fun x => if x = b then a else x
theorem Sp.mg_len (of : List Int) (a b : Int) : (Sp.mg of a b).length = of.length := by simp [Sp.mg]
theorem Sp.mg_get {of : List Int} {a b : Int} {j : Nat} (hj : j < of.length) : (Sp.mg of a b).getD j 0 = if of.getD j 0 = b then a else of.getD j 0 := by
  rw [Sp.getD_eq _ _ (by rw [Sp.mg_len]; exact hj), Sp.getD_eq _ _ hj]
  simp [Sp.mg]
/-- Labels that stand for themselves. -/
structure Sp.UnS (of : List Int) (k : Nat) : Prop where
  bd : ∀ j, j < k → 0 ≤ of.getD j 0 ∧ of.getD j 0 < (k : Int)
  rep : ∀ j, j < k → of.getD (of.getD j 0).toNat 0 = of.getD j 0
theorem Sp.UnS.first (k : Nat) : Sp.UnS ((List.range k).map fun j => ((j : Nat) : Int)) k := by
  have e : ∀ j, j < k → ((List.range k).map fun j => ((j : Nat) : Int)).getD j 0 = (j : Int) := fun j hj => by
    rw [Sp.getD_eq _ _ (by simpa using hj)]; simp
  exact ⟨fun j hj => by rw [e j hj]; omega, fun j hj => by rw [e j hj, Int.toNat_natCast, e j hj]⟩
theorem Sp.UnS.step {of : List Int} {k x y : Nat} (h : Sp.UnS of k) (hl : of.length = k) (hx : x < k) (hy : y < k) : Sp.UnS (Sp.mg of (of.getD x 0) (of.getD y 0)) k ∧ Sp.cnt (fun j => decide (of.getD j 0 = (j : Int))) k ≤ Sp.cnt (fun j => decide ((Sp.mg of (of.getD x 0) (of.getD y 0)).getD j 0 = (j : Int))) k + (if of.getD x 0 = of.getD y 0 then 0 else 1) := by
  have hbx := h.bd x hx
  have hby := h.bd y hy
  have hg : ∀ j, j < k → (Sp.mg of (of.getD x 0) (of.getD y 0)).getD j 0 = if of.getD j 0 = of.getD y 0 then of.getD x 0 else of.getD j 0 := fun j hj => Sp.mg_get (by rw [hl]; exact hj)
  constructor
  · refine ⟨fun j hj => ?_, fun j hj => ?_⟩
    · rw [hg j hj]; split
      · exact hbx
      · exact h.bd j hj
    · have hbj := h.bd j hj
      rw [hg j hj]
      split
      · rw [hg _ (by omega), h.rep x hx]
        split <;> rfl
      · rename_i hne
        rw [hg _ (by omega), h.rep j hj, if_neg hne]
  · split
    · rename_i e
      refine Nat.le_of_eq (Sp.cnt_congr k fun j hj => ?_)
      rw [hg j hj, e]
      split
      · rename_i e2; rw [e2]
      · rfl
    · rename_i e
      have hone : Sp.cnt (fun j => decide (j = (of.getD y 0).toNat)) k ≤ 1 := by
        have : ∀ m, Sp.cnt (fun j => decide (j = (of.getD y 0).toNat)) m ≤ if (of.getD y 0).toNat < m then 1 else 0 := by
          intro m
          induction m with
          | zero => simp [Sp.cnt]
          | succ m ih =>
            rw [Sp.cnt_succ]
            simp only [decide_eq_true_eq]
            split at ih <;> split <;> split <;> omega
        have := this k
        split at this <;> omega
      have hadd : ∀ m, m ≤ k → Sp.cnt (fun j => decide (of.getD j 0 = (j : Int))) m ≤ Sp.cnt (fun j => decide ((Sp.mg of (of.getD x 0) (of.getD y 0)).getD j 0 = (j : Int))) m + Sp.cnt (fun j => decide (j = (of.getD y 0).toNat)) m := by
        intro m
        induction m with
        | zero => intro _; simp [Sp.cnt]
        | succ m ih =>
          intro hm
          have := ih (by omega)
          rw [Sp.cnt_succ, Sp.cnt_succ, Sp.cnt_succ, hg m (by omega)]
          simp only [decide_eq_true_eq]
          by_cases e1 : of.getD m 0 = (m : Int)
          · by_cases e2 : m = (of.getD y 0).toNat
            · rw [if_pos e2, if_pos e1]; omega
            · have e3 : ¬ of.getD m 0 = of.getD y 0 := by omega
              rw [if_neg e3, if_pos e1]; omega
          · rw [if_neg e1]; omega
      have := hadd k (Nat.le_refl _)
      omega
end Go.Proofs.Ytenffkplneimlab


/- The law TreeLeft, walked. -/
namespace Go.Proofs.Ytenffkplneimlab
open Go Go.RowKit

theorem own_getD {w : World} {B g n c : Nat} {l : List Int} (h : OwnI w B (.slice (some ⟨g, 0, none⟩) n c) l) (k : Nat) (hk : k < l.length) : w.cell? ⟨g, k, none⟩ = some (.int .i64 (l.getD k 0)) := by
  rw [own_cell h k hk, Sp.getD_eq _ _ hk]
end Go.Proofs.Ytenffkplneimlab


/- A tree that grows by any darts that lead out of it (P401). -/
namespace Go.Proofs.Ytenffkplneimlab
open Go Go.RowKit

/-- What stays while a tree grows: B tells who is in it. -/
structure Sp.Gw (T U : List Int) (B : List Bool) (r N k : Nat) : Prop where
  ul : U.length = N
  bl : B.length = N
  br : B.getD r false = true
  ur : U.getD r 0 = -1
  cnt : Sp.cnt (fun v => B.getD v false) N = k + 1
  dart : ∀ v, v < N → v ≠ r → B.getD v false = true → ∃ d : Nat, d < T.length ∧ U.getD v 0 = (d : Int) ∧ T.getD d 0 = (v : Int) ∧ B.getD (T.getD (Sp.oth d) 0).toNat false = true
  rc : ∀ v, v < N → B.getD v false = true → Sp.Rc T U (r : Int) v
theorem getD_setB (l : List Bool) (i k : Nat) (v : Bool) (hi : i < l.length) : (l.set i v).getD k false = if i = k then v else l.getD k false := by
  rw [List.getD_eq_getElem?_getD, List.getElem?_set, List.getD_eq_getElem?_getD]
  by_cases h : i = k
  · subst h
    rw [if_pos rfl, if_pos hi, if_pos rfl]
    rfl
  · rw [if_neg h, if_neg h]
theorem Sp.cnt_one (r : Nat) : ∀ n, Sp.cnt (fun v => decide (v = r)) n = if r < n then 1 else 0
  | 0 => by simp [Sp.cnt]
  | n + 1 => by
    rw [Sp.cnt_succ, Sp.cnt_one r n]
    simp only [decide_eq_true_eq]
    split <;> split <;> split <;> omega
theorem Sp.Gw.first {T U : List Int} {B : List Bool} {r N : Nat} (ul : U.length = N) (bl : B.length = N) (hr : r < N) (hU : ∀ v, v < N → U.getD v 0 = -1) (hB : ∀ v, v < N → B.getD v false = decide (v = r)) : Sp.Gw T U B r N 0 := by
  refine ⟨ul, bl, by rw [hB r hr]; simp, hU r hr, ?_, fun v hv hvr hb => ?_, fun v hv hb => ?_⟩
  · rw [Sp.cnt_congr (p' := fun v => decide (v = r)) N hB, Sp.cnt_one, if_pos hr]
  · rw [hB v hv] at hb; exact absurd (of_decide_eq_true hb) hvr
  · rw [hB v hv] at hb
    exact Sp.rc_root _ _ (by have := of_decide_eq_true hb; omega)
theorem Sp.Gw.grow {T U : List Int} {B : List Bool} {r N k d h : Nat} (hg : Sp.Gw T U B r N k) (hT : ∀ x ∈ T, 0 ≤ x ∧ x < (N : Int)) (hev : T.length % 2 = 0) (hd : d < T.length) (hin : B.getD (T.getD d 0).toNat false = true) (hh : T.getD (Sp.oth d) 0 = (h : Int)) (hout : B.getD h false = false) :
    Sp.Gw T (U.set h ((Sp.oth d : Nat) : Int)) (B.set h true) r N (k + 1) := by
  have ho := oth_lt hd hev
  have bh := hT _ (Sp.getD_mem (l := T) ho)
  have bt := hT _ (Sp.getD_mem (l := T) hd)
  rw [hh] at bh
  have hul := hg.ul
  have hbl := hg.bl
  have hhN : h < N := by omega
  have hhr : h ≠ r := fun e => by rw [e, hg.br] at hout; cases hout
  have gU : ∀ v, (U.set h ((Sp.oth d : Nat) : Int)).getD v 0 = if h = v then ((Sp.oth d : Nat) : Int) else U.getD v 0 := fun v => getD_set1 _ _ _ _ (by omega)
  have gB : ∀ v, (B.set h true).getD v false = if h = v then true else B.getD v false := fun v => getD_setB _ _ _ _ (by omega)
  have hmono : ∀ v, B.getD v false = true → (B.set h true).getD v false = true := fun v hv => by rw [gB]; split <;> simp_all
  have hcl : ∀ v, (v < N ∧ B.getD v false = true) → (v : Int) ≠ (r : Int) → (Sp.nx T U v < N ∧ B.getD (Sp.nx T U v) false = true) := fun v hv hr => by
    obtain ⟨c, hc, e1, -, e3⟩ := hg.dart v hv.1 (by omega) hv.2
    have e : Sp.nx T U v = (T.getD (Sp.oth c) 0).toNat := by unfold Sp.nx; rw [e1, Int.toNat_natCast]
    have b := hT _ (Sp.getD_mem (l := T) (oth_lt hc hev))
    rw [e]
    exact ⟨by omega, e3⟩
  have hsame : ∀ v, (v < N ∧ B.getD v false = true) → (U.set h ((Sp.oth d : Nat) : Int)).getD v 0 = U.getD v 0 := fun v hv => by
    rw [gU, if_neg (fun e => by rw [← e, hout] at hv; cases hv.2)]
  have hold : ∀ v, v < N → B.getD v false = true → Sp.Rc T (U.set h ((Sp.oth d : Nat) : Int)) (r : Int) v := fun v h1 h2 => by
    obtain ⟨g, hg'⟩ := hg.rc v h1 h2
    exact ⟨g, by rw [Sp.reach_congr (S := fun v => v < N ∧ B.getD v false = true) hcl hsame g v ⟨h1, h2⟩]; exact hg'⟩
  refine ⟨by rw [List.length_set]; exact hul, by rw [List.length_set]; exact hbl, hmono _ hg.br, by rw [gU, if_neg hhr]; exact hg.ur, ?_, fun v hv hvr hb => ?_, fun v hv hb => ?_⟩
  · have hadd : ∀ m, Sp.cnt (fun v => (B.set h true).getD v false) m = Sp.cnt (fun v => B.getD v false) m + if h < m then 1 else 0 := by
      intro m
      induction m with
      | zero => simp [Sp.cnt]
      | succ m ih =>
        rw [Sp.cnt_succ, Sp.cnt_succ, ih, gB]
        by_cases e : h = m
        · subst e
          rw [if_pos rfl, hout]
          simp
        · rw [if_neg e]
          split <;> split <;> split <;> omega
    rw [hadd, hg.cnt, if_pos hhN]
  · by_cases e : h = v
    · subst e
      refine ⟨Sp.oth d, ho, by rw [gU, if_pos rfl], hh, ?_⟩
      rw [oth_oth]
      exact hmono _ hin
    · rw [gB, if_neg e] at hb
      obtain ⟨c, c1, c2, c3, c4⟩ := hg.dart v hv hvr hb
      exact ⟨c, c1, by rw [gU, if_neg e]; exact c2, c3, hmono _ c4⟩
  · by_cases e : h = v
    · subst e
      rw [Sp.rc_next (by omega)]
      have e2 : Sp.nx T (U.set h ((Sp.oth d : Nat) : Int)) h = (T.getD d 0).toNat := by
        unfold Sp.nx
        rw [gU, if_pos rfl, Int.toNat_natCast, oth_oth]
      rw [e2]
      exact hold _ (by omega) hin
    · rw [gB, if_neg e] at hb
      exact hold v hv hb
theorem Sp.cnt_full (p : Nat → Bool) : ∀ n, (∀ i, i < n → p i = true) → Sp.cnt p n = n
  | 0, _ => by simp [Sp.cnt]
  | n + 1, h => by rw [Sp.cnt_succ, Sp.cnt_full p n (fun i hi => h i (by omega)), if_pos (h n (by omega))]
theorem Sp.cnt_all (p : Nat → Bool) : ∀ n, Sp.cnt p n = n → ∀ i, i < n → p i = true
  | 0, _, i, hi => by omega
  | n + 1, h, i, hi => by
    rw [Sp.cnt_succ] at h
    have := Sp.cnt_le p n
    split at h
    · rename_i hp
      by_cases e : i = n
      · subst e; exact hp
      · exact Sp.cnt_all p n (by omega) i (by omega)
    · omega
/-- As long as not all are in it a dart leads out. -/
theorem Sp.Gw.out {q : Sp.Net} {U : List Int} {B : List Bool} {r N k : Nat} (hg : Sp.Gw q.tail U B r N k) (h : Sp.TreeQ q) (hN : q.n = (N : Int)) (hr : r < N) (hk : k + 1 < N) : ∃ d, d < q.tail.length ∧ B.getD (q.tail.getD d 0).toNat false = true ∧ B.getD (q.tail.getD (Sp.oth d) 0).toNat false = false := by
  rcases Classical.em (∃ d, d < q.tail.length ∧ B.getD (q.tail.getD d 0).toNat false = true ∧ B.getD (q.tail.getD (Sp.oth d) 0).toNat false = false) with hd | hd
  · exact hd
  · exfalso
    have hall : ∀ v : Nat, v < N → B.getD v false = true := fun v hv => by
      have hc := h.conn (r : Int) (v : Int) (by omega) (by omega) (by omega) (by omega)
      have := hc.ind (p := fun x => B.getD x.toNat false = true) (by rw [Int.toNat_natCast]; exact hg.br) fun d hd' _ ih => by
        cases hb : B.getD (q.tail.getD (Sp.oth d) 0).toNat false with
        | true => rfl
        | false => exact absurd ⟨d, hd', ih, hb⟩ hd
      rw [Int.toNat_natCast] at this
      exact this
    have := hg.cnt
    rw [Sp.cnt_full _ N hall] at this
    omega
theorem Sp.Gw.done {q : Sp.Net} {U : List Int} {B : List Bool} {r N k : Nat} (hg : Sp.Gw q.tail U B r N k) (hr : r < N) (hk : k + 1 = N) : Sp.RowT q.tail U r N := by
  have hc := hg.cnt
  rw [hk] at hc
  have hall := Sp.cnt_all _ N hc
  exact ⟨hg.ul, hr, hg.ur, fun v hv hvr => by
    obtain ⟨d, d1, d2, d3, -⟩ := hg.dart v hv hvr (hall v hv)
    exact ⟨d, d1, d2, d3⟩, fun v hv => hg.rc v hv (hall v hv)⟩
/-- The darts that lead out, among the first ones. -/
def Sp.gwL (T : List Int) (B : List Bool) : Nat → List Int
  | 0 => []
  | d + 1 => if (B.getD (T.getD d 0).toNat false && !B.getD (T.getD (Sp.oth d) 0).toNat false) = true then Sp.gwL T B d ++ [(d : Int)] else Sp.gwL T B d
theorem Sp.gwL_mem (T : List Int) (B : List Bool) : ∀ n x, x ∈ Sp.gwL T B n ↔ ∃ d, d < n ∧ x = (d : Int) ∧ B.getD (T.getD d 0).toNat false = true ∧ B.getD (T.getD (Sp.oth d) 0).toNat false = false
  | 0, x => ⟨fun h => (by cases h), fun ⟨d, h, _⟩ => (by omega)⟩
  | n + 1, x => by
    rw [Sp.gwL]
    split
    · rename_i hc
      rw [Bool.and_eq_true, Bool.not_eq_true'] at hc
      rw [List.mem_append, Sp.gwL_mem T B n, List.mem_singleton]
      constructor
      · rintro (⟨d, h1, h2⟩ | h)
        · exact ⟨d, by omega, h2⟩
        · exact ⟨n, by omega, h, hc⟩
      · rintro ⟨d, h1, h2, h3⟩
        by_cases e : d = n
        · subst e; exact .inr h2
        · exact .inl ⟨d, by omega, h2, h3⟩
    · rename_i hc
      rw [Sp.gwL_mem T B n]
      constructor
      · rintro ⟨d, h1, h2⟩
        exact ⟨d, by omega, h2⟩
      · rintro ⟨d, h1, h2, h3, h4⟩
        by_cases e : d = n
        · subst e
          exact absurd (by rw [h3, h4]; rfl) hc
        · exact ⟨d, by omega, h2, h3, h4⟩
theorem Sp.gwL_len (T : List Int) (B : List Bool) : ∀ n, (Sp.gwL T B n).length ≤ n
  | 0 => by simp [Sp.gwL]
  | n + 1 => by
    have := Sp.gwL_len T B n
    rw [Sp.gwL]
    split
    · rw [List.length_append, List.length_singleton]; omega
    · omega
end Go.Proofs.Ytenffkplneimlab


