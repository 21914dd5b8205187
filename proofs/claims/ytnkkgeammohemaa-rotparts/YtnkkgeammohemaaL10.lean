/- What the proof needs, part 10. -/
import Derived.Test.YtnkkgeammohemaaL9
/- Nets that were grown in a plane are plane: their vertices' rounds, their faces, all in one piece. -/
namespace Go.Proofs.Ytnkkgeammohemaa
open Go Go.RowKit

theorem layIn_get (l : List Int) (bh d x : Nat) (hb : bh < l.length) (hd : d < l.length) : (Sp.layIn l bh d).getD x 0 = if x = bh then (d : Int) else if x = d then l.getD bh 0 else l.getD x 0 := by
  unfold Sp.layIn
  rw [getD_set_eq _ _ _ _ (by rw [List.length_set]; exact hb), getD_set_eq _ _ _ _ hd]
theorem fn_lay (l : List Int) (bh d x : Nat) (hb : bh < l.length) (hd : d < l.length) : Sp.fn (Sp.layIn l bh d) x = if x = bh then d else if x = d then Sp.fn l bh else Sp.fn l x := by
  unfold Sp.fn
  rw [layIn_get l bh d x hb hd]
  by_cases h1 : x = bh
  · rw [if_pos h1, if_pos h1]; omega
  · rw [if_neg h1, if_neg h1]
    by_cases h2 : x = d
    · rw [if_pos h2, if_pos h2]
    · rw [if_neg h2, if_neg h2]
theorem fn_app (l : List Int) (x : Nat) (hx : x < l.length + 2) : Sp.fn (l ++ [(l.length : Int), ((l.length + 1 : Nat) : Int)]) x = if x < l.length then Sp.fn l x else x := by
  unfold Sp.fn
  rw [List.getD_eq_getElem?_getD]
  by_cases h1 : x < l.length
  · rw [if_pos h1, List.getElem?_append_left h1, ← List.getD_eq_getElem?_getD]
  · rw [if_neg h1, List.getElem?_append_right (by omega)]
    have : x = l.length ∨ x = l.length + 1 := by omega
    rcases this with rfl | rfl
    · simp
    · simp
theorem fn_behind (l : List Int) (x : Nat) (hx : x < l.length) : Sp.fn (Sp.behindL l) x = Sp.fn l (Sp.oth x) := by
  unfold Sp.fn
  rw [Sp.behindL_get l x hx]
theorem oth_new {L : Nat} (h : L % 2 = 0) : Sp.oth L = L + 1 ∧ Sp.oth (L + 1) = L := by
  unfold Sp.oth
  constructor
  · rw [if_pos h]
  · rw [if_neg (by omega)]; omega
theorem oth_ne_iff {x e : Nat} : Sp.oth x = e ↔ x = Sp.oth e := ⟨fun h => by rw [← h, oth_oth], fun h => by rw [h, oth_oth]⟩
/-- The next ones behind a new edge to a new vertex; across a face; a loop. -/
theorem next_new {nx : List Int} {e : Nat} (he : e < nx.length) (x : Nat) (hx : x < nx.length + 2) :
    Sp.fn (Sp.layIn (nx ++ [(nx.length : Int), ((nx.length + 1 : Nat) : Int)]) e nx.length) x = fixF (nx.length + 1) (insF nx.length e (Sp.fn nx)) x := by
  rw [fn_lay _ _ _ _ (by simp; omega) (by simp)]
  unfold fixF insF
  by_cases h1 : x = e
  · rw [if_pos h1, if_neg (by omega), if_pos h1]
  · rw [if_neg h1]
    by_cases h2 : x = nx.length
    · rw [if_pos h2, if_neg (by omega), if_neg h1, if_pos h2, fn_app _ _ (by omega), if_pos he]
    · rw [if_neg h2, fn_app _ _ hx]
      by_cases h3 : x = nx.length + 1
      · rw [if_pos h3, if_neg (by omega)]; exact h3
      · rw [if_neg h3, if_neg h1, if_neg h2, if_pos (by omega)]
theorem next_across {nx : List Int} {e g : Nat} (he : e < nx.length) (hg : g < nx.length) (_hne : g ≠ e) (x : Nat) (hx : x < nx.length + 2) :
    Sp.fn (Sp.layIn (Sp.layIn (nx ++ [(nx.length : Int), ((nx.length + 1 : Nat) : Int)]) e nx.length) g (nx.length + 1)) x = insF (nx.length + 1) g (insF nx.length e (Sp.fn nx)) x := by
  have hl : (nx ++ [(nx.length : Int), ((nx.length + 1 : Nat) : Int)]).length = nx.length + 2 := by simp
  rw [fn_lay _ _ _ _ (by rw [Sp.layIn_len, hl]; omega) (by rw [Sp.layIn_len, hl]; omega)]
  unfold insF
  by_cases h1 : x = g
  · rw [if_pos h1, if_pos h1]
  · rw [if_neg h1, if_neg h1]
    by_cases h2 : x = nx.length + 1
    · rw [if_pos h2, if_pos h2, next_new he g (by omega)]
      unfold fixF insF
      rw [if_neg (by omega)]
    · rw [if_neg h2, if_neg h2, next_new he x hx]
      unfold fixF insF
      rw [if_neg h2]
theorem next_loop {nx : List Int} {e : Nat} (he : e < nx.length) (x : Nat) (hx : x < nx.length + 2) :
    Sp.fn (Sp.layIn (Sp.layIn (nx ++ [(nx.length : Int), ((nx.length + 1 : Nat) : Int)]) e nx.length) nx.length (nx.length + 1)) x = insF (nx.length + 1) nx.length (insF nx.length e (Sp.fn nx)) x := by
  have hl : (nx ++ [(nx.length : Int), ((nx.length + 1 : Nat) : Int)]).length = nx.length + 2 := by simp
  rw [fn_lay _ _ _ _ (by rw [Sp.layIn_len, hl]; omega) (by rw [Sp.layIn_len, hl]; omega)]
  unfold insF
  by_cases h1 : x = nx.length
  · rw [if_pos h1, if_pos h1]
  · rw [if_neg h1, if_neg h1]
    by_cases h2 : x = nx.length + 1
    · rw [if_pos h2, if_pos h2, next_new he nx.length (by omega)]
      unfold fixF insF
      rw [if_neg (by omega)]
    · rw [if_neg h2, if_neg h2, next_new he x hx]
      unfold fixF insF
      rw [if_neg h2]
/-- The ones behind about the faces. -/
theorem behind_new {nx : List Int} {e : Nat} (he : e < nx.length) (hev : nx.length % 2 = 0) (x : Nat) (hx : x < nx.length + 2) :
    Sp.fn (Sp.behindL (Sp.layIn (nx ++ [(nx.length : Int), ((nx.length + 1 : Nat) : Int)]) e nx.length)) x = insF (nx.length + 1) nx.length (insF nx.length (Sp.oth e) (Sp.fn (Sp.behindL nx))) x := by
  have hoe := oth_lt he hev
  obtain ⟨o1, o2⟩ := oth_new hev
  have hox : Sp.oth x < nx.length + 2 := oth_lt hx (by omega)
  rw [fn_behind _ _ (by rw [Sp.layIn_len]; simpa using hx), next_new he _ hox]
  unfold fixF insF
  by_cases h1 : x = nx.length
  · rw [if_pos h1, h1, o1, if_pos rfl]
  · rw [if_neg h1]
    by_cases h2 : x = nx.length + 1
    · rw [if_pos h2, h2, o2, if_neg (by omega), if_neg (by omega), if_pos rfl, if_neg (by omega), if_pos rfl, fn_behind _ _ hoe, oth_oth]
    · have hxl : x < nx.length := by omega
      have hox' := oth_lt hxl hev
      rw [if_neg h2, if_neg (by omega)]
      by_cases h3 : x = Sp.oth e
      · rw [if_pos h3, if_pos (by rw [h3, oth_oth])]
      · rw [if_neg h3, if_neg (fun h => h3 (oth_ne_iff.1 h)), if_neg (by omega), if_neg (by omega), fn_behind _ _ hxl]
theorem behind_across {nx : List Int} {e g : Nat} (he : e < nx.length) (hg : g < nx.length) (hne : g ≠ e) (hev : nx.length % 2 = 0) (x : Nat) (hx : x < nx.length + 2) :
    Sp.fn (Sp.behindL (Sp.layIn (Sp.layIn (nx ++ [(nx.length : Int), ((nx.length + 1 : Nat) : Int)]) e nx.length) g (nx.length + 1))) x = swpF nx.length (nx.length + 1) (insF (nx.length + 1) (Sp.oth g) (insF nx.length (Sp.oth e) (Sp.fn (Sp.behindL nx)))) x := by
  have hoe := oth_lt he hev
  have hog := oth_lt hg hev
  have hoge : Sp.oth g ≠ Sp.oth e := fun h => hne (oth_inj h)
  obtain ⟨o1, o2⟩ := oth_new hev
  have hox : Sp.oth x < nx.length + 2 := oth_lt hx (by omega)
  rw [fn_behind _ _ (by rw [Sp.layIn_len, Sp.layIn_len]; simpa using hx), next_across he hg hne _ hox]
  unfold swpF insF
  by_cases h1 : x = nx.length
  · rw [if_pos h1, h1, o1, if_neg (by omega), if_pos rfl, if_neg hne, if_neg (by omega), if_neg (by omega), if_pos rfl, if_neg hoge, if_neg (by omega), fn_behind _ _ hog, oth_oth]
  · rw [if_neg h1]
    by_cases h2 : x = nx.length + 1
    · rw [if_pos h2, h2, o2, if_neg (by omega), if_neg (by omega), if_neg (by omega), if_pos rfl, if_neg (by omega), if_neg (by omega), if_neg (by omega), if_pos rfl, fn_behind _ _ hoe, oth_oth]
    · have hxl : x < nx.length := by omega
      have hox' := oth_lt hxl hev
      rw [if_neg h2]
      by_cases h4 : x = Sp.oth g
      · rw [if_pos h4, if_pos (by rw [h4, oth_oth])]
      · rw [if_neg h4, if_neg (fun h => h4 (oth_ne_iff.1 h)), if_neg (by omega), if_neg h2]
        by_cases h3 : x = Sp.oth e
        · rw [if_pos h3, if_pos (by rw [h3, oth_oth])]
        · rw [if_neg h3, if_neg (fun h => h3 (oth_ne_iff.1 h)), if_neg (by omega), if_neg h1, fn_behind _ _ hxl]
theorem behind_loop {nx : List Int} {e : Nat} (he : e < nx.length) (hev : nx.length % 2 = 0) (x : Nat) (hx : x < nx.length + 2) :
    Sp.fn (Sp.behindL (Sp.layIn (Sp.layIn (nx ++ [(nx.length : Int), ((nx.length + 1 : Nat) : Int)]) e nx.length) nx.length (nx.length + 1))) x = fixF (nx.length + 1) (insF nx.length (Sp.oth e) (Sp.fn (Sp.behindL nx))) x := by
  have hoe := oth_lt he hev
  obtain ⟨o1, o2⟩ := oth_new hev
  have hox : Sp.oth x < nx.length + 2 := oth_lt hx (by omega)
  rw [fn_behind _ _ (by rw [Sp.layIn_len, Sp.layIn_len]; simpa using hx), next_loop he _ hox]
  unfold fixF insF
  by_cases h1 : x = nx.length
  · rw [h1, o1, if_neg (by omega), if_pos rfl, if_neg (by omega), if_pos rfl, if_neg (by omega), if_neg (by omega), if_pos rfl, fn_behind _ _ hoe, oth_oth]
  · by_cases h2 : x = nx.length + 1
    · rw [if_pos h2, h2, o2, if_pos rfl]
    · have hxl : x < nx.length := by omega
      have hox' := oth_lt hxl hev
      rw [if_neg h2, if_neg (by omega), if_neg (by omega)]
      by_cases h3 : x = Sp.oth e
      · rw [if_pos h3, if_pos (by rw [h3, oth_oth])]
      · rw [if_neg h3, if_neg (fun h => h3 (oth_ne_iff.1 h)), if_neg (by omega), if_neg h1, fn_behind _ _ hxl]
/-- Which vertices darts lead to, in so many steps. -/
def Sp.reachN (tl : List Int) (u : Int) : Nat → Int → Prop
  | 0, v => u = v
  | n + 1, v => ∃ d, d < tl.length ∧ Sp.reachN tl u n (tl.getD d 0) ∧ tl.getD (Sp.oth d) 0 = v
def Sp.Reach (tl : List Int) (u v : Int) : Prop := ∃ n, Sp.reachN tl u n v
theorem Sp.Reach.refl {tl : List Int} (v : Int) : Sp.Reach tl v v := ⟨0, rfl⟩
theorem Sp.Reach.step {tl : List Int} {u : Int} {d : Nat} (h : Sp.Reach tl u (tl.getD d 0)) (hd : d < tl.length) : Sp.Reach tl u (tl.getD (Sp.oth d) 0) := by
  obtain ⟨n, hn⟩ := h
  exact ⟨n + 1, d, hd, hn, rfl⟩
theorem Sp.Reach.ind {tl : List Int} {u : Int} {p : Int → Prop} (h0 : p u) (h1 : ∀ d, d < tl.length → Sp.Reach tl u (tl.getD d 0) → p (tl.getD d 0) → p (tl.getD (Sp.oth d) 0)) {v : Int} (h : Sp.Reach tl u v) : p v := by
  obtain ⟨n, hn⟩ := h
  induction n generalizing v with
  | zero => exact (show u = v from hn) ▸ h0
  | succ n ih =>
    obtain ⟨d, hd, h2, h3⟩ := hn
    rw [← h3]
    exact h1 d hd ⟨n, h2⟩ (ih h2)
theorem app2_get (tl : List Int) (a b : Int) (x : Nat) (hx : x < tl.length + 2) : (tl ++ [a, b]).getD x 0 = if x < tl.length then tl.getD x 0 else if x = tl.length then a else b := by
  rw [List.getD_eq_getElem?_getD]
  by_cases h1 : x < tl.length
  · rw [if_pos h1, List.getElem?_append_left h1, ← List.getD_eq_getElem?_getD]
  · rw [if_neg h1, List.getElem?_append_right (by omega)]
    have : x = tl.length ∨ x = tl.length + 1 := by omega
    rcases this with rfl | rfl
    · simp
    · rw [if_neg (by omega), show tl.length + 1 - tl.length = 1 by omega]; rfl
theorem Sp.Reach.app {tl : List Int} (hev : tl.length % 2 = 0) (a b : Int) {u v : Int} (h : Sp.Reach tl u v) : Sp.Reach (tl ++ [a, b]) u v := by
  refine h.ind (p := fun v => Sp.Reach (tl ++ [a, b]) u v) (.refl _) (fun d hd _ ih => ?_)
  have ho := oth_lt hd hev
  have e1 : (tl ++ [a, b]).getD d 0 = tl.getD d 0 := by rw [app2_get _ _ _ _ (by omega), if_pos hd]
  have e2 : (tl ++ [a, b]).getD (Sp.oth d) 0 = tl.getD (Sp.oth d) 0 := by rw [app2_get _ _ _ _ (by omega), if_pos ho]
  rw [← e2]
  refine .step ?_ (by simp; omega)
  rw [e1]
  exact ih
/-- A plane net that has darts. -/
structure Sp.Plain (q : Sp.Net) : Prop where
  vert : Cls q.tail.length (Sp.fn q.next) (fun i => (q.tail.getD i 0).toNat) q.n.toNat
  face : ∃ lab F, Cls q.tail.length (Sp.fn (Sp.behindL q.next)) lab F ∧ q.n - ((q.tail.length / 2 : Nat) : Int) + ((F : Nat) : Int) = 2
  conn : ∀ v, 0 ≤ v → v < q.n → Sp.Reach q.tail 0 v
theorem Sp.PlaneQ.mpN {q : Sp.Net} {i : Nat} (h : Sp.PlaneQ q i) : ∀ x, x < q.tail.length → Sp.fn q.next x < q.tail.length := fun x hx => by
  have := h.pm.fnP.mp x (by rw [h.nx]; exact hx)
  rw [h.nx] at this; exact this
theorem Sp.PlaneQ.pmB {q : Sp.Net} {i : Nat} (h : Sp.PlaneQ q i) : PermF q.tail.length (Sp.fn (Sp.behindL q.next)) := by
  have := (h.pm.behind (by rw [h.nx]; exact h.ev)).fnP
  rw [Sp.behindL_len, h.nx] at this; exact this
theorem insF_mp {L u : Nat} {f : Nat → Nat} (h : ∀ i, i < L → f i < L) (hu : u < L) : ∀ i, i < L + 1 → insF L u f i < L + 1 := fun i hi => by
  unfold insF
  have := h u hu
  split
  · omega
  · split
    · omega
    · have := h i (by omega); omega
theorem fixF_mp {L : Nat} {f : Nat → Nat} (h : ∀ i, i < L → f i < L) : ∀ i, i < L + 1 → fixF L f i < L + 1 := fun i hi => by
  unfold fixF
  split
  · omega
  · have := h i (by omega); omega
theorem Sp.Plain.growN {q : Sp.Net} {i : Nat} (hq : Sp.PlaneQ q i) (h : Sp.Plain q) (e : Nat) (he : e < q.tail.length) (c d : Int) : Sp.Plain (Sp.growN q e c d) := by
  have hn0 := hq.n0
  have hL : (Sp.growN q e c d).tail.length = q.tail.length + 2 := by simp [Sp.growN]
  have hen : e < q.next.length := by rw [hq.nx]; exact he
  have hevn : q.next.length % 2 = 0 := by rw [hq.nx]; exact hq.ev
  have hoe := oth_lt he hq.ev
  have hmp1 := insF_mp hq.mpN he
  have hmpB := insF_mp hq.pmB.mp hoe
  refine ⟨?_, ?_, ?_⟩
  · rw [hL]
    have h1 := (h.vert.ins hq.mpN he).fix hmp1
    have hk : (Sp.growN q e c d).n.toNat = q.n.toNat + 1 := by show (q.n + 1).toNat = _; omega
    rw [hk]
    refine h1.congr (fixF_mp hmp1) (fun x hx => ?_) (fun x hx => ?_)
    · have := next_new hen x (by rw [hq.nx]; exact hx)
      rw [hq.nx] at this
      exact this
    · show ((q.tail ++ [q.tail.getD e 0, q.n]).getD x 0).toNat = if x = q.tail.length + 1 then q.n.toNat else if x = q.tail.length then (q.tail.getD e 0).toNat else (q.tail.getD x 0).toNat
      rw [app2_get _ _ _ _ hx]
      by_cases h2 : x < q.tail.length
      · rw [if_pos h2, if_neg (by omega), if_neg (by omega)]
      · rw [if_neg h2]
        by_cases h3 : x = q.tail.length
        · rw [if_pos h3, if_neg (by omega), if_pos h3]
        · rw [if_neg h3, if_pos (by omega)]
  · obtain ⟨lab, F, hf, he2⟩ := h.face
    refine ⟨fun x => if x = q.tail.length + 1 then (if q.tail.length = q.tail.length then lab (Sp.oth e) else lab q.tail.length) else if x = q.tail.length then lab (Sp.oth e) else lab x, F, ?_, ?_⟩
    · rw [hL]
      refine ((hf.ins hq.pmB.mp hoe).ins hmpB (u := q.tail.length) (by omega)).congr (insF_mp hmpB (by omega)) (fun x hx => ?_) (fun x hx => rfl)
      have := behind_new hen hevn x (by rw [hq.nx]; exact hx)
      rw [hq.nx] at this
      exact this
    · rw [hL]
      show q.n + 1 - (((q.tail.length + 2) / 2 : Nat) : Int) + (F : Int) = 2
      omega
  · intro v h0 h1
    have h1' : v < q.n + 1 := h1
    show Sp.Reach (q.tail ++ [q.tail.getD e 0, q.n]) 0 v
    rcases Int.lt_or_le v q.n with h2 | h2
    · exact (h.conn v h0 h2).app hq.ev _ _
    · have hv : v = q.n := by omega
      have o := oth_new hq.ev
      have e1 : (q.tail ++ [q.tail.getD e 0, q.n]).getD (Sp.oth q.tail.length) 0 = v := by rw [o.1, app2_get _ _ _ _ (by omega), if_neg (by omega), if_neg (by omega), hv]
      rw [← e1]
      refine .step ?_ (by simp)
      rw [app2_get _ _ _ _ (by omega), if_neg (by omega), if_pos rfl]
      have htb := hq.tb _ (Sp.getD_mem he)
      exact (h.conn _ htb.1 htb.2).app hq.ev _ _
theorem Sp.Plain.growF {q : Sp.Net} {i : Nat} (hq : Sp.PlaneQ q i) (h : Sp.Plain q) (e g : Nat) (he : e < q.tail.length) (hg : g < q.tail.length) (c d : Int)
    (hs : (Sp.faces2 q).1.getD (q.next.getD g 0).toNat 0 = (Sp.faces2 q).1.getD (q.next.getD e 0).toNat 0) : Sp.Plain (Sp.growF q e g c d) := by
  have hL : (Sp.growF q e g c d).tail.length = q.tail.length + 2 := by simp [Sp.growF]
  have hen : e < q.next.length := by rw [hq.nx]; exact he
  have hgn : g < q.next.length := by rw [hq.nx]; exact hg
  have hevn : q.next.length % 2 = 0 := by rw [hq.nx]; exact hq.ev
  have hoe := oth_lt he hq.ev
  have hog := oth_lt hg hq.ev
  have hmp1 := insF_mp hq.mpN he
  have hmpB := insF_mp hq.pmB.mp hoe
  have hlab : ∀ x, x < q.tail.length + 2 → ((Sp.growF q e g c d).tail.getD x 0).toNat = if x = q.tail.length + 1 then (q.tail.getD g 0).toNat else if x = q.tail.length then (q.tail.getD e 0).toNat else (q.tail.getD x 0).toNat := fun x hx => by
    show ((q.tail ++ [q.tail.getD e 0, q.tail.getD g 0]).getD x 0).toNat = _
    rw [app2_get _ _ _ _ hx]
    by_cases h2 : x < q.tail.length
    · rw [if_pos h2, if_neg (by omega), if_neg (by omega)]
    · rw [if_neg h2]
      by_cases h3 : x = q.tail.length
      · rw [if_pos h3, if_neg (by omega), if_pos h3]
      · rw [if_neg h3, if_pos (by omega)]
  have hconn : ∀ v, 0 ≤ v → v < q.n → Sp.Reach (Sp.growF q e g c d).tail 0 v := fun v h0 h1 => (h.conn v h0 h1).app hq.ev _ _
  obtain ⟨lab, F, hf, he2⟩ := h.face
  by_cases hge : g = e
  · have hnx : (Sp.growF q e g c d).next = Sp.layIn (Sp.layIn (q.next ++ [(q.next.length : Int), ((q.next.length + 1 : Nat) : Int)]) e q.next.length) q.next.length (q.next.length + 1) := by
      unfold Sp.growF
      rw [hq.nx]
      show Sp.layIn _ (if g = e then _ else g) _ = _
      rw [if_pos hge]
    refine ⟨?_, ⟨fun x => if x = q.tail.length + 1 then F else if x = q.tail.length then lab (Sp.oth e) else lab x, F + 1, ?_, ?_⟩, hconn⟩
    · rw [hL, hnx]
      refine ((h.vert.ins hq.mpN he).ins hmp1 (u := q.tail.length) (by omega)).congr (insF_mp hmp1 (by omega)) (fun x hx => ?_) (fun x hx => ?_)
      · have := next_loop hen x (by rw [hq.nx]; exact hx)
        rw [hq.nx] at this ⊢
        exact this
      · show ((Sp.growF q e g c d).tail.getD x 0).toNat = if x = q.tail.length + 1 then (if q.tail.length = q.tail.length then (q.tail.getD e 0).toNat else (q.tail.getD q.tail.length 0).toNat) else if x = q.tail.length then (q.tail.getD e 0).toNat else (q.tail.getD x 0).toNat
        rw [hlab x hx, if_pos (rfl : q.tail.length = q.tail.length), hge]
    · rw [hL, hnx]
      refine ((hf.ins hq.pmB.mp hoe).fix hmpB).congr (fixF_mp hmpB) (fun x hx => ?_) (fun x hx => rfl)
      have := behind_loop hen hevn x (by rw [hq.nx]; exact hx)
      rw [hq.nx] at this ⊢
      exact this
    · rw [hL]
      show q.n - (((q.tail.length + 2) / 2 : Nat) : Int) + ((F + 1 : Nat) : Int) = 2
      omega
  · have hnx : (Sp.growF q e g c d).next = Sp.layIn (Sp.layIn (q.next ++ [(q.next.length : Int), ((q.next.length + 1 : Nat) : Int)]) e q.next.length) g (q.next.length + 1) := by
      unfold Sp.growF
      rw [hq.nx]
      show Sp.layIn _ (if g = e then _ else g) _ = _
      rw [if_neg hge]
    -- both darts leave the same face
    have hsame : lab (Sp.oth e) = lab (Sp.oth g) := by
      have hc := (Sp.faces2_st hq.pm hq.nx hq.ev).cls
      rw [Sp.behindL_len, hq.nx] at hc
      have fe : Sp.fn (Sp.behindL q.next) (Sp.oth e) = (q.next.getD e 0).toNat := by rw [fn_behind _ _ (by rw [hq.nx]; exact hoe), oth_oth]; rfl
      have fg : Sp.fn (Sp.behindL q.next) (Sp.oth g) = (q.next.getD g 0).toNat := by rw [fn_behind _ _ (by rw [hq.nx]; exact hog), oth_oth]; rfl
      have a1 := hq.pmB.mp _ hoe
      have a2 := hq.pmB.mp _ hog
      have ho := hc.sep _ _ a1 a2 (by rw [fe, fg, hs])
      have := hf.orb hq.pmB.mp a1 ho
      rw [hf.inv _ hoe, hf.inv _ hog] at this
      exact this
    have hc2 := (hf.ins hq.pmB.mp hoe).ins hmpB (u := Sp.oth g) (by omega)
    have hp2 := insF_perm (insF_perm hq.pmB hoe) (u := Sp.oth g) (by omega)
    have horb := hc2.sep q.tail.length (q.tail.length + 1) (by omega) (by omega) (by
      show (if q.tail.length = q.tail.length + 1 then _ else if q.tail.length = q.tail.length then lab (Sp.oth e) else _) = if q.tail.length + 1 = q.tail.length + 1 then (if Sp.oth g = q.tail.length then lab (Sp.oth e) else lab (Sp.oth g)) else _
      rw [if_neg (by omega), if_pos rfl, if_pos rfl, if_neg (by omega), hsame])
    obtain ⟨lab3, hc3⟩ := hc2.split hp2 (by omega) (by omega) (by omega) horb
    refine ⟨?_, ⟨lab3, F + 1, ?_, ?_⟩, hconn⟩
    · rw [hL, hnx]
      refine ((h.vert.ins hq.mpN he).ins hmp1 (u := g) (by omega)).congr (insF_mp hmp1 (by omega)) (fun x hx => ?_) (fun x hx => ?_)
      · have := next_across hen hgn hge x (by rw [hq.nx]; exact hx)
        rw [hq.nx] at this ⊢
        exact this
      · show ((Sp.growF q e g c d).tail.getD x 0).toNat = if x = q.tail.length + 1 then (if g = q.tail.length then (q.tail.getD e 0).toNat else (q.tail.getD g 0).toNat) else if x = q.tail.length then (q.tail.getD e 0).toNat else (q.tail.getD x 0).toNat
        rw [hlab x hx, if_neg (show ¬ g = q.tail.length by omega)]
    · rw [hL, hnx]
      refine hc3.congr (swpF_perm hp2 (by omega) (by omega)).mp (fun x hx => ?_) (fun x hx => rfl)
      have := behind_across hen hgn hge hevn x (by rw [hq.nx]; exact hx)
      rw [hq.nx] at this ⊢
      exact this
    · rw [hL]
      show q.n - (((q.tail.length + 2) / 2 : Nat) : Int) + ((F + 1 : Nat) : Int) = 2
      omega
end Go.Proofs.Ytnkkgeammohemaa


/- The law RotOnes, walked. -/
namespace Go.Proofs.Ytnkkgeammohemaa
open Go Go.RowKit

/-- A net that lies in a block of its own: what stays so in every world behind. -/
theorem boxed {w0 w3 : World} {q : Sp.Net} {tv nv cv : Value} (hb0 : Below w0.heap.size w0 w3) (h : NetI w3 (.agg #[.int .i64 q.n, tv, nv, cv]) q tv nv cv) (W : World) (hW : W = w3.alloc (.cells #[.int .i64 q.n, tv, nv, cv] 25)) :
    (∀ w', Below (w3.heap.size + 1) W w' → (w'.cell? ⟨w3.heap.size, 0, none⟩ = some (.int .i64 q.n) ∧ w'.cell? ⟨w3.heap.size, 1, none⟩ = some tv ∧ w'.cell? ⟨w3.heap.size, 2, none⟩ = some nv ∧ w'.cell? ⟨w3.heap.size, 3, none⟩ = some cv) ∧ NetI w' (.agg #[.int .i64 q.n, tv, nv, cv]) q tv nv cv ∧ Below w0.heap.size w0 w' ∧ w3.heap.size + 1 ≤ w'.heap.size ∧ Below w3.heap.size w3 w') ∧ W.heap.size = w3.heap.size + 1 ∧ ∀ w2 w5, Below (w3.heap.size + 1) W w2 → Below w2.heap.size w2 w5 → Below (w3.heap.size + 1) W w5 := by
  subst hW
  have hs : (w3.alloc (.cells #[.int .i64 q.n, tv, nv, cv] 25)).heap.size = w3.heap.size + 1 := by simp
  refine ⟨fun w' hb => ?_, hs, fun w2 w5 h2 h5 => h2.trans (h5.mono (by have := h2.size; omega))⟩
  obtain ⟨k0, k1, k2, k3, k4⟩ := box_new w3 q.n tv nv cv w' hb
  have hb3 : Below w3.heap.size w3 w' := ((Below.refl _ w3).alloc (Nat.le_refl _) _).trans (hb.mono (by omega))
  exact ⟨⟨k0, k1, k2, k3⟩, ⟨rfl, h.tail.below hb3, h.next.below hb3, h.cap.below hb3⟩, hb0.trans (hb3.mono hb0.size), k4, hb3⟩
theorem Sp.PlaneQ.walk {q : Sp.Net} {i : Nat} (h : Sp.PlaneQ q i) (hi : i ≤ 50) : Sp.walkB q = true := by
  have h1 := h.le
  have h2 := h.n1
  have h3 := h.n0
  exact walkB_of ⟨by omega, by omega, by omega, h.ev, h.nx, h.cp, fun x hx => h.pm.bd x hx, h.tb⟩
/-- How many labels were met among the first i. -/
structure TopAt (l : List Int) (i top : Nat) : Prop where
  lt : ∀ j, j < i → l.getD j 0 < (top : Int)
  on : ∀ c : Nat, c < top → ∃ j, j < i ∧ l.getD j 0 = (c : Int)
theorem TopAt.le {l : List Int} {i top : Nat} (h : TopAt l i top) (hr : Sp.RG l) (hi : i < l.length) : 0 ≤ l.getD i 0 ∧ l.getD i 0 ≤ (top : Int) := by
  refine ⟨hr.nn i hi, ?_⟩
  rcases Int.lt_or_le (top : Int) (l.getD i 0) with h1 | h1
  · obtain ⟨j, hj, e⟩ := hr.sm i hi top (by omega) h1
    have := h.lt j hj
    omega
  · exact h1
theorem TopAt.same {l : List Int} {i top : Nat} (h : TopAt l i top) (h1 : l.getD i 0 < (top : Int)) : TopAt l (i + 1) top := by
  refine ⟨fun j hj => ?_, fun c hc => ?_⟩
  · rcases Nat.lt_or_ge j i with h2 | h2
    · exact h.lt j h2
    · rw [show j = i by omega]; exact h1
  · obtain ⟨j, h2, h3⟩ := h.on c hc
    exact ⟨j, by omega, h3⟩
theorem TopAt.more {l : List Int} {i top : Nat} (h : TopAt l i top) (h1 : l.getD i 0 = (top : Int)) : TopAt l (i + 1) (top + 1) := by
  refine ⟨fun j hj => ?_, fun c hc => ?_⟩
  · rcases Nat.lt_or_ge j i with h2 | h2
    · have := h.lt j h2; omega
    · rw [show j = i by omega]; omega
  · by_cases hk : c = top
    · exact ⟨i, by omega, by rw [h1, hk]⟩
    · obtain ⟨j, h2, h3⟩ := h.on c (by omega)
      exact ⟨j, by omega, h3⟩
theorem TopAt.last {l : List Int} {n top k : Nat} (h : TopAt l n top) (hn : l.length = n) (hk : Sp.Num l k) : top = k := by
  rcases Nat.lt_trichotomy top k with h1 | h1 | h1
  · obtain ⟨i, a, b⟩ := hk.on top h1
    have := h.lt i (by omega)
    omega
  · exact h1
  · obtain ⟨j, a, b⟩ := h.on k h1
    have := hk.lt j (by omega)
    omega
end Go.Proofs.Ytnkkgeammohemaa


/- How many places a round has; the rounds the other way about. -/
namespace Go.Proofs.Ytnkkgeammohemaa
open Go Go.RowKit

theorem nodup_sub : ∀ (l1 l2 : List Int), l1.Nodup → (∀ x ∈ l1, x ∈ l2) → l1.length ≤ l2.length
  | [], _, _, _ => Nat.zero_le _
  | a :: t, l2, hd, hs => by
    rw [List.nodup_cons] at hd
    have ha := hs a (by simp)
    have h1 := nodup_sub t (l2.erase a) hd.2 (fun x hx => by
      have hne : x ≠ a := fun e => hd.1 (by rw [← e]; exact hx)
      exact (List.mem_erase_of_ne hne).2 (hs x (by simp [hx])))
    rw [List.length_erase_of_mem ha] at h1
    have := List.length_pos_of_mem ha
    rw [List.length_cons]
    omega
/-- How many places below n are so. -/
def Sp.cnt (p : Nat → Bool) (n : Nat) : Nat := ((List.range n).filter p).length
theorem Sp.cnt_succ (p : Nat → Bool) (n : Nat) : Sp.cnt p (n + 1) = Sp.cnt p n + if p n then 1 else 0 := by
  unfold Sp.cnt
  rw [List.range_succ, List.filter_append, List.length_append]
  by_cases h : p n = true
  · rw [if_pos h]; simp [h]
  · rw [if_neg h]; simp [h]
theorem Sp.cnt_le (p : Nat → Bool) (n : Nat) : Sp.cnt p n ≤ n := by
  have := List.length_filter_le p (List.range n)
  rw [List.length_range] at this
  exact this
theorem Sp.rounds_nodup {st : List Int} (hp : Sp.Perm st) {x : Nat} (hx : x < st.length) : (Sp.rounds st x (Sp.per st x)).Nodup := by
  obtain ⟨p1, p2, p3, p4⟩ := hp.per hx
  unfold List.Nodup
  rw [List.pairwise_iff_getElem]
  intro i j hi hj hij e
  rw [Sp.rounds_len] at hi hj
  simp only [Sp.rounds, List.getElem_map, List.getElem_range] at e
  have e2 : Sp.nth st x (i + (j - i)) = Sp.nth st x i := by rw [show i + (j - i) = j by omega]; exact e.symm
  exact p4 (j - i) (by omega) (by omega) (hp.back hx i (j - i) e2)
/-- A round has as many places as bear its label. -/
theorem Sp.Perm.count {st : List Int} (hp : Sp.Perm st) {lab : Nat → Nat} {k : Nat} (hc : Cls st.length (Sp.fn st) lab k) {x : Nat} (hx : x < st.length) : Sp.per st x = Sp.cnt (fun i => decide (lab i = lab x)) st.length := by
  have hmem : ∀ i : Nat, (i : Int) ∈ Sp.rounds st x (Sp.per st x) ↔ i < st.length ∧ lab i = lab x := fun i => by
    constructor
    · intro h
      obtain ⟨j, e, o⟩ := (hp.mem_rounds hx _).1 h
      have : i = j := by omega
      subst this
      refine ⟨?_, (hc.orb hp.fnP.mp hx o).symm⟩
      obtain ⟨m, rfl⟩ := o
      exact hp.fnP.it hx m
    · intro ⟨h1, h2⟩
      exact (hp.mem_rounds hx _).2 ⟨i, rfl, hc.sep x i hx h1 h2.symm⟩
  have hnd : (((List.range st.length).filter fun i => decide (lab i = lab x)).map fun i : Nat => (i : Int)).Nodup := by
    unfold List.Nodup
    rw [List.pairwise_map]
    refine List.Pairwise.imp (R := fun a b : Nat => a ≠ b) (fun {a b} (h : a ≠ b) (e : (a : Int) = (b : Int)) => h (by omega)) ?_
    exact List.Pairwise.filter _ List.nodup_range
  have hlen : (((List.range st.length).filter fun i => decide (lab i = lab x)).map fun i : Nat => (i : Int)).length = Sp.cnt (fun i => decide (lab i = lab x)) st.length := by
    rw [List.length_map]; rfl
  have h1 := nodup_sub _ _ (Sp.rounds_nodup hp hx) (fun y hy => by
    obtain ⟨j, rfl, o⟩ := (hp.mem_rounds hx y).1 hy
    have := (hmem j).1 hy
    exact List.mem_map.2 ⟨j, List.mem_filter.2 ⟨List.mem_range.2 this.1, decide_eq_true this.2⟩, rfl⟩)
  have h2 := nodup_sub _ _ hnd (fun y hy => by
    obtain ⟨j, hj, rfl⟩ := List.mem_map.1 hy
    obtain ⟨a, b⟩ := List.mem_filter.1 hj
    exact (hmem j).2 ⟨List.mem_range.1 a, of_decide_eq_true b⟩)
  rw [hlen, Sp.rounds_len] at h1 h2
  omega
theorem Sp.invGo_len (nx : List Int) : ∀ f d acc, (Sp.invGo nx f d acc).length = acc.length
  | 0, _, _ => rfl
  | f + 1, d, acc => by
    rw [Sp.invGo, Sp.invGo_len nx f, List.length_set]
theorem Sp.invGo_get {nx : List Int} (hp : Sp.Perm nx) : ∀ f d acc, d + f = nx.length → acc.length = nx.length → ∀ i, i < nx.length → (Sp.invGo nx f d acc).getD (Sp.fn nx i) 0 = if d ≤ i then (i : Int) else acc.getD (Sp.fn nx i) 0
  | 0, d, acc, hd, hl, i, hi => by rw [if_neg (by omega)]; rfl
  | f + 1, d, acc, hd, hl, i, hi => by
    rw [Sp.invGo, Sp.invGo_get hp f (d + 1) _ (by omega) (by rw [List.length_set]; exact hl) i hi]
    by_cases h1 : d + 1 ≤ i
    · rw [if_pos h1, if_pos (by omega)]
    · rw [if_neg h1]
      have hfd : (nx.getD d 0).toNat < acc.length := by rw [hl]; exact hp.fnP.mp d (by omega)
      rw [getD_set_eq acc _ _ _ hfd]
      by_cases h2 : i = d
      · rw [if_pos (by rw [h2]; rfl), if_pos (by omega), h2]
      · have hne : ¬ Sp.fn nx i = (nx.getD d 0).toNat := fun e => h2 (hp.fnP.inj i d hi (by omega) e)
        rw [if_neg hne, if_neg (by omega)]
theorem Sp.turnL_len (nx : List Int) : (Sp.turnL nx).length = nx.length := by
  unfold Sp.turnL
  rw [Sp.invGo_len, List.length_replicate]
theorem Sp.turnL_back {nx : List Int} (hp : Sp.Perm nx) {i : Nat} (hi : i < nx.length) : (Sp.turnL nx).getD (Sp.fn nx i) 0 = (i : Int) := by
  unfold Sp.turnL
  rw [Sp.invGo_get hp nx.length 0 _ (by omega) (by simp) i hi, if_pos (Nat.zero_le _)]
theorem Sp.Perm.onto {st : List Int} (hp : Sp.Perm st) {j : Nat} (hj : j < st.length) : ∃ i, i < st.length ∧ Sp.fn st i = j := by
  obtain ⟨p1, p2, p3, p4⟩ := hp.per hj
  refine ⟨itf (Sp.fn st) j (Sp.per st j - 1), hp.fnP.it hj _, ?_⟩
  have e := hp.nth_it hj (Sp.per st j)
  rw [p3] at e
  have e2 : itf (Sp.fn st) j (Sp.per st j - 1 + 1) = j := by rw [show Sp.per st j - 1 + 1 = Sp.per st j by omega]; omega
  exact e2
theorem Sp.Perm.turn {nx : List Int} (hp : Sp.Perm nx) : Sp.Perm (Sp.turnL nx) := by
  refine ⟨fun x hx => ?_, fun i j hi hj e => ?_⟩
  · rw [Sp.turnL_len]
    obtain ⟨k, hk, rfl⟩ := List.mem_iff_getElem.1 hx
    rw [Sp.turnL_len] at hk
    rw [← Sp.getD_eq]
    obtain ⟨i, hi, rfl⟩ := hp.onto hk
    rw [Sp.turnL_back hp hi]
    omega
  · rw [Sp.turnL_len] at hi hj
    obtain ⟨a, ha, rfl⟩ := hp.onto hi
    obtain ⟨b, hb, rfl⟩ := hp.onto hj
    rw [Sp.turnL_back hp ha, Sp.turnL_back hp hb] at e
    rw [show a = b by omega]
theorem Sp.fn_turn {nx : List Int} (hp : Sp.Perm nx) {i : Nat} (hi : i < nx.length) : Sp.fn (Sp.turnL nx) (Sp.fn nx i) = i := by
  show ((Sp.turnL nx).getD (Sp.fn nx i) 0).toNat = i
  rw [Sp.turnL_back hp hi, Int.toNat_natCast]
theorem Sp.fn_turn' {nx : List Int} (hp : Sp.Perm nx) {i : Nat} (hi : i < nx.length) : Sp.fn nx (Sp.fn (Sp.turnL nx) i) = i := by
  obtain ⟨a, ha, rfl⟩ := hp.onto hi
  rw [Sp.fn_turn hp ha]
end Go.Proofs.Ytnkkgeammohemaa


/- What the program's Parts tells: labels numbered by their first ones, that tell the pieces apart. -/
namespace Go.Proofs.Ytnkkgeammohemaa
open Go Go.RowKit

/-- Labels laid so far, by whatever tells places apart. -/
structure Sp.NSt (L : Nat) (E : Nat → Nat → Prop) (d : Nat) (of : List Int) (k : Nat) : Prop where
  len : of.length = L
  bd : ∀ i, i < L → of.getD i 0 = -1 ∨ (0 ≤ of.getD i 0 ∧ of.getD i 0 < (k : Int))
  done : ∀ i, i < d → 0 ≤ of.getD i 0
  inv : ∀ i j, i < L → j < L → E i j → of.getD i 0 = of.getD j 0
  sep : ∀ i j, i < L → j < L → 0 ≤ of.getD i 0 → of.getD i 0 = of.getD j 0 → E i j
  rg : ∀ i, i < d → ∀ c, 0 ≤ c → c < of.getD i 0 → ∃ j, j < i ∧ of.getD j 0 = c
  on : ∀ c : Nat, c < k → ∃ i, i < d ∧ of.getD i 0 = (c : Int)
theorem Sp.NSt.first (L : Nat) (E : Nat → Nat → Prop) : Sp.NSt L E 0 (List.replicate L (-1)) 0 := by
  refine ⟨by simp, fun i hi => .inl (getD_rep _ _ _ hi), fun i hi => by omega, fun i j hi hj _ => by rw [getD_rep _ _ _ hi, getD_rep _ _ _ hj], fun i j hi hj h => ?_, fun i hi => by omega, fun c hc => by omega⟩
  rw [getD_rep _ _ _ hi] at h
  omega
theorem Sp.NSt.old {L : Nat} {E : Nat → Nat → Prop} {d k : Nat} {of : List Int} (h : Sp.NSt L E d of k) (hd : d < L) (h0 : of.getD d 0 ≠ -1) : Sp.NSt L E (d + 1) of k := by
  have h0' : 0 ≤ of.getD d 0 ∧ of.getD d 0 < (k : Int) := by
    rcases h.bd d hd with e | e
    · exact absurd e h0
    · exact e
  refine ⟨h.len, h.bd, fun i hi => ?_, h.inv, h.sep, fun i hi c c0 c1 => ?_, fun c hc => ?_⟩
  · rcases Nat.lt_or_ge i d with h1 | h1
    · exact h.done i h1
    · rw [show i = d by omega]; exact h0'.1
  · rcases Nat.lt_or_ge i d with h1 | h1
    · exact h.rg i h1 c c0 c1
    · rw [show i = d by omega] at c1 ⊢
      obtain ⟨j, h2, h3⟩ := h.on c.toNat (by omega)
      exact ⟨j, h2, by rw [h3]; omega⟩
  · obtain ⟨i, h1, h2⟩ := h.on c hc
    exact ⟨i, by omega, h2⟩
theorem Sp.NSt.new {L : Nat} {E : Nat → Nat → Prop} {d k : Nat} {of of' : List Int} (h : Sp.NSt L E d of k) (hr : ∀ i, E i i) (hs : ∀ i j, i < L → j < L → E i j → E j i) (ht : ∀ i j l, E i j → E j l → E i l) (hd : d < L) (h0 : of.getD d 0 = -1) (hl : of'.length = L)
    (hE : ∀ i, i < L → E d i → of'.getD i 0 = (k : Int)) (hN : ∀ i, i < L → ¬ E d i → of'.getD i 0 = of.getD i 0) : Sp.NSt L E (d + 1) of' (k + 1) := by
  have hget : ∀ i, i < L → (E d i ∧ of'.getD i 0 = (k : Int) ∧ of.getD i 0 = -1) ∨ (¬ E d i ∧ of'.getD i 0 = of.getD i 0) := by
    intro i hi
    by_cases ho : E d i
    · exact .inl ⟨ho, hE i hi ho, by rw [← h.inv d i hd hi ho]; exact h0⟩
    · exact .inr ⟨ho, hN i hi ho⟩
  have hdk : of'.getD d 0 = (k : Int) := hE d hd (hr d)
  refine ⟨hl, fun i hi => ?_, fun i hi => ?_, fun i j hi hj e => ?_, fun i j hi hj hn e => ?_, fun i hi c c0 c1 => ?_, fun c hc => ?_⟩
  · rcases hget i hi with ⟨-, e, -⟩ | ⟨-, e⟩
    · right; rw [e]; omega
    · rw [e]; rcases h.bd i hi with e1 | e1
      · exact .inl e1
      · exact .inr ⟨e1.1, by omega⟩
  · rcases Nat.lt_or_ge i d with h1 | h1
    · rcases hget i (by omega) with ⟨-, e, -⟩ | ⟨-, e⟩
      · rw [e]; omega
      · rw [e]; exact h.done i h1
    · rw [show i = d by omega, hdk]; omega
  · rcases hget i hi with ⟨o, e1, -⟩ | ⟨o, e1⟩ <;> rcases hget j hj with ⟨o', e2, -⟩ | ⟨o', e2⟩
    · rw [e1, e2]
    · exact absurd (ht _ _ _ o e) o'
    · exact absurd (ht _ _ _ o' (hs i j hi hj e)) o
    · rw [e1, e2]; exact h.inv i j hi hj e
  · rcases hget i hi with ⟨o, e1, -⟩ | ⟨o, e1⟩ <;> rcases hget j hj with ⟨o', e2, -⟩ | ⟨o', e2⟩
    · exact ht _ _ _ (hs d i hd hi o) o'
    · rw [e1, e2] at e
      rcases h.bd j hj with e3 | e3 <;> omega
    · rw [e1, e2] at e
      rcases h.bd i hi with e3 | e3 <;> omega
    · rw [e1, e2] at e
      rw [e1] at hn
      exact h.sep i j hi hj hn e
  · rcases Nat.lt_or_ge i d with h1 | h1
    · rcases hget i (by omega) with ⟨-, -, e⟩ | ⟨-, e⟩
      · have := h.done i h1; omega
      · rw [e] at c1
        obtain ⟨j, h2, h3⟩ := h.rg i h1 c c0 c1
        refine ⟨j, h2, ?_⟩
        rcases hget j (by omega) with ⟨-, -, e'⟩ | ⟨-, e'⟩
        · omega
        · rw [e', h3]
    · rw [show i = d by omega] at c1 ⊢
      rw [hdk] at c1
      obtain ⟨j, h2, h3⟩ := h.on c.toNat (by omega)
      refine ⟨j, h2, ?_⟩
      rcases hget j (by omega) with ⟨-, -, e'⟩ | ⟨-, e'⟩
      · omega
      · rw [e', h3]; omega
  · by_cases hk : c = k
    · exact ⟨d, by omega, by rw [hdk, hk]⟩
    · obtain ⟨i, h1, h2⟩ := h.on c (by omega)
      refine ⟨i, by omega, ?_⟩
      rcases hget i (by omega) with ⟨-, -, e'⟩ | ⟨-, e'⟩
      · omega
      · rw [e', h2]
theorem Sp.NSt.num {L : Nat} {E : Nat → Nat → Prop} {of : List Int} {k : Nat} (h : Sp.NSt L E L of k) : Sp.Num of k := by
  refine ⟨⟨fun i hi => h.done i (by rw [← h.len]; exact hi), fun i hi => h.rg i (by rw [← h.len]; exact hi)⟩, fun i hi => ?_, fun c hc => ?_⟩
  · rw [h.len] at hi
    have := h.done i hi
    rcases h.bd i hi with e | e <;> omega
  · obtain ⟨i, h1, h2⟩ := h.on c hc
    exact ⟨i, by rw [h.len]; exact h1, h2⟩
theorem Sp.Reach.trans {tl : List Int} {u v z : Int} (h : Sp.Reach tl u v) (h' : Sp.Reach tl v z) : Sp.Reach tl u z :=
  h'.ind (p := fun z => Sp.Reach tl u z) h (fun _ hd _ ih => ih.step hd)
theorem Sp.Reach.symm {tl : List Int} (hev : tl.length % 2 = 0) {u v : Int} (h : Sp.Reach tl u v) : Sp.Reach tl v u := by
  refine h.ind (p := fun v => Sp.Reach tl v u) (.refl _) (fun d hd _ ih => ?_)
  have ho := oth_lt hd hev
  have h1 : Sp.Reach tl (tl.getD (Sp.oth d) 0) (tl.getD (Sp.oth (Sp.oth d)) 0) := (Sp.Reach.refl _).step ho
  rw [oth_oth] at h1
  exact h1.trans ih
theorem Sp.Reach.bd {tl : List Int} {n : Int} (ht : ∀ x ∈ tl, 0 ≤ x ∧ x < n) (hev : tl.length % 2 = 0) {u v : Int} (hu : 0 ≤ u ∧ u < n) (h : Sp.Reach tl u v) : 0 ≤ v ∧ v < n :=
  h.ind (p := fun v => 0 ≤ v ∧ v < n) hu (fun _ hd _ _ => ht _ (Sp.getD_mem (oth_lt hd hev)))
/-- One piece on the way: who was found. -/
structure Sp.FI (tl of0 : List Int) (N : Nat) (v p : Int) (of fd : List Int) : Prop where
  len : of.length = N
  fit : RFit N fd
  lab : ∀ w : Nat, w < N → of.getD w 0 = if (w : Int) ∈ fd then p else of0.getD w 0
  rch : ∀ x ∈ fd, Sp.Reach tl v x
theorem Sp.FI.stay {tl of0 : List Int} {N : Nat} {v p : Int} {of fd of' fd' : List Int} (h : Sp.FI tl of0 N v p of fd) (h' : Sp.FI tl of0 N v p of' fd') (hp : p ≠ -1) (hs : ∀ x ∈ fd, x ∈ fd') {w : Nat} (hw : w < N) (hn : of.getD w 0 ≠ -1) : of'.getD w 0 ≠ -1 := by
  rw [h'.lab w hw]
  split
  · exact hp
  · rename_i hm
    rw [h.lab w hw, if_neg (fun h2 => hm (hs _ h2))] at hn
    exact hn
theorem Sp.spread_ok {tl of0 : List Int} {N : Nat} {v p : Int} (hp : p ≠ -1) (ht : ∀ x ∈ tl, 0 ≤ x ∧ x < (N : Int)) (hev : tl.length % 2 = 0) (f : Int) :
    ∀ c d of fd, d + c = tl.length → Sp.FI tl of0 N v p of fd → f ∈ fd →
      Sp.FI tl of0 N v p (Sp.spreadGo tl f p c d of fd).1 (Sp.spreadGo tl f p c d of fd).2 ∧ (∃ m, (Sp.spreadGo tl f p c d of fd).2 = fd ++ m) ∧ ∀ d', d ≤ d' → d' < tl.length → tl.getD d' 0 = f → (Sp.spreadGo tl f p c d of fd).1.getD (tl.getD (Sp.oth d') 0).toNat 0 ≠ -1
  | 0, d, of, fd, hd, h, _ => ⟨h, ⟨[], by simp [Sp.spreadGo]⟩, fun d' h1 h2 => by omega⟩
  | c + 1, d, of, fd, hd, h, hf => by
    have hdl : d < tl.length := by omega
    have hh := ht _ (Sp.getD_mem (oth_lt hdl hev))
    have hhN : (tl.getD (Sp.oth d) 0).toNat < N := by omega
    have hcast : (((tl.getD (Sp.oth d) 0).toNat : Nat) : Int) = tl.getD (Sp.oth d) 0 := by omega
    rw [Sp.spreadGo]
    by_cases hc : tl.getD d 0 = f ∧ of.getD (tl.getD (Sp.oth d) 0).toNat 0 = -1
    · rw [if_pos hc]
      have hnm : ¬ tl.getD (Sp.oth d) 0 ∈ fd := fun hm => by
        have e := h.lab _ hhN
        rw [hcast, if_pos hm, hc.2] at e
        exact hp e.symm
      have hfit := h.fit.snoc (tl.getD (Sp.oth d) 0).toNat hhN (by rw [hcast]; exact hnm)
      rw [hcast] at hfit
      have h' : Sp.FI tl of0 N v p (of.set (tl.getD (Sp.oth d) 0).toNat p) (fd ++ [tl.getD (Sp.oth d) 0]) := by
        refine ⟨by rw [List.length_set]; exact h.len, hfit, fun w hw => ?_, fun x hx => ?_⟩
        · rw [getD_set_eq _ _ _ _ (by rw [h.len]; exact hhN)]
          by_cases e : w = (tl.getD (Sp.oth d) 0).toNat
          · rw [if_pos e, if_pos (List.mem_append_right _ (by rw [e, hcast]; simp))]
          · rw [if_neg e, h.lab w hw]
            by_cases hm : (w : Int) ∈ fd
            · rw [if_pos hm, if_pos (List.mem_append_left _ hm)]
            · rw [if_neg hm, if_neg (fun h2 => by
                rcases List.mem_append.1 h2 with h3 | h3
                · exact hm h3
                · rw [List.mem_singleton] at h3
                  omega)]
        · rcases List.mem_append.1 hx with h3 | h3
          · exact h.rch x h3
          · rw [List.mem_singleton] at h3
            rw [h3]
            refine Sp.Reach.step ?_ hdl
            rw [hc.1]
            exact h.rch f hf
      obtain ⟨r1, ⟨m, r2⟩, r3⟩ := Sp.spread_ok hp ht hev f c (d + 1) _ _ (by omega) h' (List.mem_append_left _ hf)
      refine ⟨r1, ⟨[tl.getD (Sp.oth d) 0] ++ m, by rw [r2, List.append_assoc]⟩, fun d' h1 h2 h3 => ?_⟩
      rcases Nat.lt_or_ge d d' with h4 | h4
      · exact r3 d' (by omega) h2 h3
      · rw [show d' = d by omega]
        rw [r1.lab _ hhN, if_pos (by rw [r2, hcast]; exact List.mem_append_left _ (List.mem_append_right _ (by simp)))]
        exact hp
    · rw [if_neg hc]
      obtain ⟨r1, ⟨m, r2⟩, r3⟩ := Sp.spread_ok hp ht hev f c (d + 1) of fd (by omega) h hf
      refine ⟨r1, ⟨m, r2⟩, fun d' h1 h2 h3 => ?_⟩
      rcases Nat.lt_or_ge d d' with h4 | h4
      · exact r3 d' (by omega) h2 h3
      · rw [show d' = d by omega] at h3 ⊢
        exact h.stay r1 hp (fun x hx => by rw [r2]; exact List.mem_append_left _ hx) hhN (fun e => hc ⟨h3, e⟩)
theorem Sp.flood_ok {tl of0 : List Int} {N : Nat} {v p : Int} (hp : p ≠ -1) (ht : ∀ x ∈ tl, 0 ≤ x ∧ x < (N : Int)) (hev : tl.length % 2 = 0) :
    ∀ g i of fd, i + g = N + 1 → i ≤ fd.length → Sp.FI tl of0 N v p of fd → (∀ j, j < i → ∀ d, d < tl.length → tl.getD d 0 = fd.getD j 0 → of.getD (tl.getD (Sp.oth d) 0).toNat 0 ≠ -1) →
      ∃ fd', Sp.FI tl of0 N v p (Sp.floodGo tl p g i of fd) fd' ∧ (∀ x ∈ fd, x ∈ fd') ∧ ∀ x ∈ fd', ∀ d, d < tl.length → tl.getD d 0 = x → (Sp.floodGo tl p g i of fd).getD (tl.getD (Sp.oth d) 0).toNat 0 ≠ -1
  | 0, i, of, fd, hi, hl, h, _ => by have := h.fit.le; omega
  | g + 1, i, of, fd, hi, hl, h, hd => by
    rw [Sp.floodGo]
    by_cases hc : i < fd.length
    · rw [if_pos hc]
      obtain ⟨r1, ⟨m, r2⟩, r3⟩ := Sp.spread_ok hp ht hev (fd.getD i 0) tl.length 0 of fd (by omega) h (Sp.getD_mem hc)
      obtain ⟨fd', s1, s2, s3⟩ := Sp.flood_ok hp ht hev g (i + 1) _ _ (by omega) (by rw [r2, List.length_append]; omega) r1 (fun j hj d hdl e => by
        have hg : (Sp.spreadGo tl (fd.getD i 0) p tl.length 0 of fd).2.getD j 0 = fd.getD j 0 := by
          rw [r2, List.getD_eq_getElem?_getD, List.getElem?_append_left (by omega), ← List.getD_eq_getElem?_getD]
        rw [hg] at e
        rcases Nat.lt_or_ge j i with h1 | h1
        · refine h.stay r1 hp (fun x hx => by rw [r2]; exact List.mem_append_left _ hx) ?_ (hd j h1 d hdl e)
          have := ht _ (Sp.getD_mem (oth_lt hdl hev))
          omega
        · rw [show j = i by omega] at e
          exact r3 d (Nat.zero_le _) hdl e)
      exact ⟨fd', s1, fun x hx => s2 x (by rw [r2]; exact List.mem_append_left _ hx), s3⟩
    · rw [if_neg hc]
      refine ⟨fd, h, fun _ hx => hx, fun x hx d hdl e => ?_⟩
      obtain ⟨j, hj, ej⟩ := List.mem_iff_getElem.1 hx
      exact hd j (by omega) d hdl (by rw [e, Sp.getD_eq _ _ hj, ej])
/-- One piece whole. -/
theorem Sp.flood_all {tl of0 : List Int} {N : Nat} {v : Nat} {p : Int} (hp : p ≠ -1) (ht : ∀ x ∈ tl, 0 ≤ x ∧ x < (N : Int)) (hev : tl.length % 2 = 0) (hl : of0.length = N) (hv : v < N) (h0 : of0.getD v 0 = -1)
    (hin : ∀ i j : Nat, i < N → j < N → Sp.Reach tl i j → of0.getD i 0 = of0.getD j 0) :
    (Sp.floodGo tl p (N + 1) 0 (of0.set v p) [(v : Int)]).length = N ∧ ∀ w : Nat, w < N → (Sp.Reach tl v w → (Sp.floodGo tl p (N + 1) 0 (of0.set v p) [(v : Int)]).getD w 0 = p) ∧ (¬ Sp.Reach tl v w → (Sp.floodGo tl p (N + 1) 0 (of0.set v p) [(v : Int)]).getD w 0 = of0.getD w 0) := by
  have hfi : Sp.FI tl of0 N v p (of0.set v p) [(v : Int)] := by
    refine ⟨by rw [List.length_set]; exact hl, ⟨by simp, fun x hx => by rw [List.mem_singleton] at hx; omega⟩, fun w hw => ?_, fun x hx => by rw [List.mem_singleton] at hx; rw [hx]; exact .refl _⟩
    rw [getD_set_eq _ _ _ _ (by omega)]
    by_cases e : w = v
    · rw [if_pos e, if_pos (by rw [e]; simp)]
    · rw [if_neg e, if_neg (by rw [List.mem_singleton]; omega)]
  obtain ⟨fd', s1, s2, s3⟩ := Sp.flood_ok hp ht hev (N + 1) 0 (of0.set v p) [(v : Int)] (by omega) (by simp) hfi (fun j hj => by omega)
  generalize Sp.floodGo tl p (N + 1) 0 (of0.set v p) [(v : Int)] = R at *
  have hmem : ∀ x, Sp.Reach tl v x → x ∈ fd' := fun x hx => by
    refine hx.ind (p := fun x => x ∈ fd') (s2 _ (by simp)) (fun d hd hr ih => ?_)
    have hb := ht _ (Sp.getD_mem (oth_lt hd hev))
    have hne := s3 _ ih d hd rfl
    have hN : (tl.getD (Sp.oth d) 0).toNat < N := by omega
    have hcast : (((tl.getD (Sp.oth d) 0).toNat : Nat) : Int) = tl.getD (Sp.oth d) 0 := by omega
    rw [s1.lab _ hN, hcast] at hne
    by_cases hm : tl.getD (Sp.oth d) 0 ∈ fd'
    · exact hm
    · rw [if_neg hm] at hne
      have e := hin v _ hv hN (by rw [hcast]; exact hr.step hd)
      exact absurd (by rw [← e]; exact h0) hne
  refine ⟨s1.len, fun w hw => ⟨fun hr => ?_, fun hr => ?_⟩⟩
  · rw [s1.lab w hw, if_pos (hmem _ hr)]
  · rw [s1.lab w hw, if_neg (fun hm => hr (s1.rch _ hm))]
theorem Sp.partsGo_st {tl : List Int} {N : Nat} (ht : ∀ x ∈ tl, 0 ≤ x ∧ x < (N : Int)) (hev : tl.length % 2 = 0) : ∀ c v of p, v + c = N → Sp.NSt N (fun i j => Sp.Reach tl i j) v of p → Sp.NSt N (fun i j => Sp.Reach tl i j) N (Sp.partsGo tl N c v of p).1 (Sp.partsGo tl N c v of p).2
  | 0, v, of, p, hv, h => by have e : N = v := by omega
                             subst e; exact h
  | c + 1, v, of, p, hv, h => by
    rw [Sp.partsGo]
    by_cases h0 : of.getD v 0 = -1
    · rw [if_pos h0]
      obtain ⟨f1, f2⟩ := Sp.flood_all (p := (p : Int)) (by omega) ht hev h.len (show v < N by omega) h0 h.inv
      exact Sp.partsGo_st ht hev c (v + 1) _ (p + 1) (by omega) (h.new (fun i => .refl _) (fun i j _ _ hr => hr.symm hev) (fun i j l h1 h2 => h1.trans h2) (by omega) h0 f1 (fun i hi hr => (f2 i hi).1 hr) (fun i hi hr => (f2 i hi).2 hr))
    · rw [if_neg h0]
      exact Sp.partsGo_st ht hev c (v + 1) of p (by omega) (h.old (by omega) h0)
/-- What Parts tells. -/
theorem Sp.pieces_st {q : Sp.Net} (hn : 0 ≤ q.n) (ht : ∀ x ∈ q.tail, 0 ≤ x ∧ x < q.n) (hev : q.tail.length % 2 = 0) : Sp.NSt q.n.toNat (fun i j => Sp.Reach q.tail i j) q.n.toNat (Sp.pieces q).1 (Sp.pieces q).2 := by
  unfold Sp.pieces
  exact Sp.partsGo_st (fun x hx => by have := ht x hx; omega) hev _ 0 _ 0 (by omega) (Sp.NSt.first _ _)
end Go.Proofs.Ytnkkgeammohemaa


/- Each net that Plane makes is plane. -/
namespace Go.Proofs.Ytnkkgeammohemaa
open Go Go.RowKit

theorem cls_const (f : Nat → Nat) (h : f 0 = 1 ∧ f 1 = 0) (lab : Nat → Nat) (l0 : lab 0 = 0) (l1 : lab 1 = 0) : Cls 2 f lab 1 := by
  have hc : ∀ i, i < 2 → i = 0 ∨ i = 1 := fun i hi => by omega
  refine ⟨fun i hi => ?_, fun c hc' => ⟨0, by omega, by omega⟩, fun i hi => ?_, fun i j hi hj _ => ?_⟩
  · rcases hc i hi with rfl | rfl <;> omega
  · rcases hc i hi with rfl | rfl
    · rw [h.1, l0, l1]
    · rw [h.2, l0, l1]
  · rcases hc i hi with rfl | rfl <;> rcases hc j hj with rfl | rfl
    · exact OrbF.refl _ _
    · exact ⟨1, h.1⟩
    · exact ⟨1, h.2⟩
    · exact OrbF.refl _ _
theorem cls_each (f : Nat → Nat) (h : f 0 = 0 ∧ f 1 = 1) (lab : Nat → Nat) (l0 : lab 0 = 0) (l1 : lab 1 = 1) : Cls 2 f lab 2 := by
  have hc : ∀ i, i < 2 → i = 0 ∨ i = 1 := fun i hi => by omega
  refine ⟨fun i hi => ?_, fun c hc' => ?_, fun i hi => ?_, fun i j hi hj e => ?_⟩
  · rcases hc i hi with rfl | rfl <;> omega
  · rcases hc c hc' with rfl | rfl
    · exact ⟨0, by omega, l0⟩
    · exact ⟨1, by omega, l1⟩
  · rcases hc i hi with rfl | rfl
    · rw [h.1]
    · rw [h.2]
  · rcases hc i hi with rfl | rfl <;> rcases hc j hj with rfl | rfl
    · exact OrbF.refl _ _
    · omega
    · omega
    · exact OrbF.refl _ _
theorem Sp.Plain.loop (c d : Int) : Sp.Plain ⟨1, [0, 0], [1, 0], [c, d]⟩ := by
  refine ⟨cls_const _ ⟨rfl, rfl⟩ _ rfl rfl, ⟨fun i => i, 2, cls_each _ ⟨rfl, rfl⟩ _ rfl rfl, by show (1 : Int) - ((2 / 2 : Nat) : Int) + ((2 : Nat) : Int) = 2; decide⟩, fun v h0 h1 => ?_⟩
  have h1' : v < 1 := h1
  obtain rfl : v = 0 := by omega
  exact .refl _
theorem Sp.Plain.edge (c d : Int) : Sp.Plain ⟨2, [0, 1], [0, 1], [c, d]⟩ := by
  refine ⟨cls_each _ ⟨rfl, rfl⟩ _ rfl rfl, ⟨fun _ => 0, 1, cls_const _ ⟨rfl, rfl⟩ _ rfl rfl, by show (2 : Int) - ((2 / 2 : Nat) : Int) + ((1 : Nat) : Int) = 2; decide⟩, fun v h0 h1 => ?_⟩
  have h1' : v < 2 := h1
  rcases (show v = 0 ∨ v = 1 by omega) with rfl | rfl
  · exact .refl _
  · exact Sp.Reach.step (tl := [0, 1]) (d := 0) (.refl _) (by decide)
end Go.Proofs.Ytnkkgeammohemaa


/- A plane net is told so; a plane net turned is plane. -/
namespace Go.Proofs.Ytnkkgeammohemaa
open Go Go.RowKit

/-- The net seen from behind. -/
def Sp.seen (q : Sp.Net) : Sp.Net := ⟨q.n, q.tail, Sp.turnL q.next, q.cap⟩
theorem fn_tb {nx : List Int} (hp : Sp.Perm nx) (hev : nx.length % 2 = 0) {x : Nat} (hx : x < nx.length) : Sp.fn (Sp.behindL (Sp.turnL nx)) (Sp.oth (Sp.fn (Sp.behindL nx) x)) = Sp.oth x ∧ Sp.oth (Sp.fn (Sp.behindL nx) x) < nx.length := by
  have ho := oth_lt hx hev
  have h1 : Sp.fn (Sp.behindL nx) x = Sp.fn nx (Sp.oth x) := fn_behind nx x hx
  have h2 := hp.fnP.mp _ ho
  have h3 : Sp.oth (Sp.fn (Sp.behindL nx) x) < nx.length := by rw [h1]; exact oth_lt h2 hev
  refine ⟨?_, h3⟩
  rw [fn_behind _ _ (by rw [Sp.turnL_len]; exact h3), oth_oth, h1, Sp.fn_turn hp ho]
theorem orb_turn {st : List Int} (hp : Sp.Perm st) {g : Nat → Nat} (hg : ∀ x, x < st.length → g (Sp.oth (Sp.fn st x)) = Sp.oth x) {i : Nat} (hi : i < st.length) : ∀ m, OrbF g (Sp.oth (itf (Sp.fn st) i m)) (Sp.oth i)
  | 0 => OrbF.refl _ _
  | m + 1 => OrbF.trans ⟨1, hg _ (hp.fnP.it hi m)⟩ (orb_turn hp hg hi m)
theorem Sp.Plain.seen {q : Sp.Net} (hp : Sp.Perm q.next) (hl : q.next.length = q.tail.length) (hev : q.tail.length % 2 = 0) (h : Sp.Plain q) : Sp.Plain (Sp.seen q) := by
  have hmp : ∀ i, i < q.tail.length → Sp.fn q.next i < q.tail.length := fun i hi => by have := hp.fnP.mp i (by rw [hl]; exact hi); rw [hl] at this; exact this
  have hmpt : ∀ i, i < q.tail.length → Sp.fn (Sp.turnL q.next) i < q.tail.length := fun i hi => by have := hp.turn.fnP.mp i (by rw [Sp.turnL_len, hl]; exact hi); rw [Sp.turnL_len, hl] at this; exact this
  have hback : ∀ i, i < q.tail.length → ∀ m, OrbF (Sp.fn (Sp.turnL q.next)) (itf (Sp.fn q.next) i m) i := by
    intro i hi m
    induction m with
    | zero => exact OrbF.refl _ _
    | succ m ih =>
      have hb : itf (Sp.fn q.next) i m < q.next.length := hp.fnP.it (by rw [hl]; exact hi) m
      exact OrbF.trans ⟨1, Sp.fn_turn hp hb⟩ ih
  refine ⟨?_, ?_, h.conn⟩
  · show Cls q.tail.length (Sp.fn (Sp.turnL q.next)) (fun i => (q.tail.getD i 0).toNat) q.n.toNat
    refine ⟨h.vert.lt, h.vert.on, fun i hi => ?_, fun i j hi hj e => ?_⟩
    · have h1 := h.vert.inv _ (hmpt i hi)
      rw [Sp.fn_turn' hp (by rw [hl]; exact hi)] at h1
      exact h1.symm
    · obtain ⟨m, hm⟩ := h.vert.sep j i hj hi e.symm
      have := hback j hj m
      rw [hm] at this
      exact this
  · obtain ⟨lab, F, hf, hE⟩ := h.face
    have hbp := hp.behind (by rw [hl]; exact hev)
    have hbl : (Sp.behindL q.next).length = q.tail.length := by rw [Sp.behindL_len, hl]
    refine ⟨fun x => lab (Sp.oth x), F, ?_, hE⟩
    show Cls q.tail.length (Sp.fn (Sp.behindL (Sp.turnL q.next))) (fun x => lab (Sp.oth x)) F
    have hg : ∀ x, x < q.tail.length → Sp.fn (Sp.behindL (Sp.turnL q.next)) (Sp.oth (Sp.fn (Sp.behindL q.next) x)) = Sp.oth x := fun x hx => (fn_tb hp (by rw [hl]; exact hev) (by rw [hl]; exact hx)).1
    refine ⟨fun i hi => hf.lt _ (oth_lt hi hev), fun c hc => ?_, fun i hi => ?_, fun i j hi hj e => ?_⟩
    · obtain ⟨i, h1, h2⟩ := hf.on c hc
      exact ⟨Sp.oth i, oth_lt h1 hev, by show lab (Sp.oth (Sp.oth i)) = c; rw [oth_oth]; exact h2⟩
    · -- i is the other of what comes behind some dart
      obtain ⟨y, hy, ey⟩ := hbp.onto (j := Sp.oth i) (by rw [hbl]; exact oth_lt hi hev)
      rw [hbl] at hy
      have ei : i = Sp.oth (Sp.fn (Sp.behindL q.next) y) := by rw [ey, oth_oth]
      show lab (Sp.oth (Sp.fn (Sp.behindL (Sp.turnL q.next)) i)) = lab (Sp.oth i)
      rw [ei, hg y hy, oth_oth, oth_oth, hf.inv y hy]
    · obtain ⟨m, hm⟩ := hf.sep (Sp.oth j) (Sp.oth i) (oth_lt hj hev) (oth_lt hi hev) (show lab (Sp.oth j) = lab (Sp.oth i) from e.symm)
      have := orb_turn hbp (g := Sp.fn (Sp.behindL (Sp.turnL q.next))) (fun x hx => hg x (by rw [← hbl]; exact hx)) (i := Sp.oth j) (by rw [hbl]; exact oth_lt hj hev) m
      rw [hm, oth_oth, oth_oth] at this
      exact this
end Go.Proofs.Ytnkkgeammohemaa


/- Where the program finds each vertex's darts one round, and only there, so does the reference. -/
namespace Go.Proofs.Ytnkkgeammohemaa
open Go Go.RowKit

/-- How far the reference goes from a dart. -/
structure K2 (st : List Int) (d k : Nat) : Prop where
  pos : 1 ≤ k
  le : k ≤ st.length + 1
  no : ∀ m, 1 ≤ m → m < k → Sp.nth st d m ≠ d
  hit : k ≤ st.length → Sp.nth st d k = d
theorem K2.per {st : List Int} {d k : Nat} (h : K2 st d k) (hp : Sp.Perm st) (hd : d < st.length) : k = Sp.per st d := by
  obtain ⟨p1, p2, p3, p4⟩ := hp.per hd
  rcases Nat.lt_trichotomy k (Sp.per st d) with h1 | h1 | h1
  · exact absurd (h.hit (by omega)) (p4 k (by have := h.pos; omega) h1)
  · exact h1
  · exact absurd p3 (h.no _ p1 h1)
end Go.Proofs.Ytnkkgeammohemaa


/- The walk of the second reference's turns. -/
namespace Go.Proofs.Ytnkkgeammohemaa
open Go Go.RowKit

theorem Ints.cellF {w : World} {b o n c : Nat} {l : List Int} (h : Ints w (.slice (some ⟨b, o, none⟩) n c) l) (k : Nat) (hk : k < l.length) : w.cell? ⟨b, o + k, none⟩ = some (.int .i64 (l.getD k 0)) := by
  obtain ⟨a, c', e, -, -, h3⟩ := h.all
  injection e with e1 e2 e3
  obtain ⟨b', o', e4, -, h5⟩ := unhide h3 k hk
  rw [← e1] at e4
  injection e4 with e4
  injection e4 with e5 e6
  subst e5 e6
  rw [Sp.getD_eq _ _ hk]
  exact h5 w (Below.refl _ _)
theorem Ints.openF {w : World} {v : Value} {l : List Int} (h : Ints w v l) (hl : 0 < l.length) : ∃ b o c, v = .slice (some ⟨b, o, none⟩) l.length c := by
  obtain ⟨a, c, e, -, -, h3⟩ := h.all
  obtain ⟨b, o, e4, -, -⟩ := unhide h3 0 hl
  exact ⟨b, o, c, by rw [e, e4]⟩
end Go.Proofs.Ytnkkgeammohemaa


