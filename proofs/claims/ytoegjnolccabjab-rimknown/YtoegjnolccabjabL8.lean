/- What the proof needs, part 8. -/
import Derived.Test.YtoegjnolccabjabL7
/- Nets that were grown in a plane are plane: their vertices' rounds, their faces, all in one piece. -/
namespace Go.Proofs.Ytoegjnolccabjab
open Go Go.RowKit

theorem layIn_get (l : List Int) (bh d x : Nat) (hb : bh < l.length) (hd : d < l.length) : (Sp.layIn l bh d).getD x 0 = if x = bh then (d : Int) else if x = d then l.getD bh 0 else l.getD x 0 := by
  unfold Sp.layIn
  rw [getD_set_eq _ _ _ _ (by rw [List.length_set]; exact hb), getD_set_eq _ _ _ _ hd]
theorem fn_lay (l : List Int) (bh d x : Nat) (hb : bh < l.length) (hd : d < l.length) : Sp.fn (Sp.layIn l bh d) x = if x = bh then d else if x = d then Sp.fn l bh else Sp.fn l x := by
  unfold Sp.fn
  rw [layIn_get l bh d x hb hd]
  by_cases h1 : x = bh
  · rw [if_pos h1, if_pos h1]; omega
  · rw [if_neg h1, if_neg h1]
    by_cases h2 : x = d
    · rw [if_pos h2, if_pos h2]
    · rw [if_neg h2, if_neg h2]
theorem fn_app (l : List Int) (x : Nat) (hx : x < l.length + 2) : Sp.fn (l ++ [(l.length : Int), ((l.length + 1 : Nat) : Int)]) x = if x < l.length then Sp.fn l x else x := by
  unfold Sp.fn
  rw [List.getD_eq_getElem?_getD]
  by_cases h1 : x < l.length
  · rw [if_pos h1, List.getElem?_append_left h1, ← List.getD_eq_getElem?_getD]
  · rw [if_neg h1, List.getElem?_append_right (by omega)]
    have : x = l.length ∨ x = l.length + 1 := by omega
    rcases this with rfl | rfl
    · simp
    · simp
theorem fn_behind (l : List Int) (x : Nat) (hx : x < l.length) : Sp.fn (Sp.behindL l) x = Sp.fn l (Sp.oth x) := by
  unfold Sp.fn
  rw [Sp.behindL_get l x hx]
theorem oth_new {L : Nat} (h : L % 2 = 0) : Sp.oth L = L + 1 ∧ Sp.oth (L + 1) = L := by
  unfold Sp.oth
  constructor
  · rw [if_pos h]
  · rw [if_neg (by omega)]; omega
theorem oth_ne_iff {x e : Nat} : Sp.oth x = e ↔ x = Sp.oth e := ⟨fun h => by rw [← h, oth_oth], fun h => by rw [h, oth_oth]⟩
/-- The next ones behind a new edge to a new vertex; across a face; a loop. -/
theorem next_new {nx : List Int} {e : Nat} (he : e < nx.length) (x : Nat) (hx : x < nx.length + 2) :
    Sp.fn (Sp.layIn (nx ++ [(nx.length : Int), ((nx.length + 1 : Nat) : Int)]) e nx.length) x = fixF (nx.length + 1) (insF nx.length e (Sp.fn nx)) x := by
  rw [fn_lay _ _ _ _ (by simp; omega) (by simp)]
  unfold fixF insF
  by_cases h1 : x = e
  · rw [if_pos h1, if_neg (by omega), if_pos h1]
  · rw [if_neg h1]
    by_cases h2 : x = nx.length
    · rw [if_pos h2, if_neg (by omega), if_neg h1, if_pos h2, fn_app _ _ (by omega), if_pos he]
    · rw [if_neg h2, fn_app _ _ hx]
      by_cases h3 : x = nx.length + 1
      · rw [if_pos h3, if_neg (by omega)]; exact h3
      · rw [if_neg h3, if_neg h1, if_neg h2, if_pos (by omega)]
theorem next_across {nx : List Int} {e g : Nat} (he : e < nx.length) (hg : g < nx.length) (_hne : g ≠ e) (x : Nat) (hx : x < nx.length + 2) :
    Sp.fn (Sp.layIn (Sp.layIn (nx ++ [(nx.length : Int), ((nx.length + 1 : Nat) : Int)]) e nx.length) g (nx.length + 1)) x = insF (nx.length + 1) g (insF nx.length e (Sp.fn nx)) x := by
  have hl : (nx ++ [(nx.length : Int), ((nx.length + 1 : Nat) : Int)]).length = nx.length + 2 := by simp
  rw [fn_lay _ _ _ _ (by rw [Sp.layIn_len, hl]; omega) (by rw [Sp.layIn_len, hl]; omega)]
  unfold insF
  by_cases h1 : x = g
  · rw [if_pos h1, if_pos h1]
  · rw [if_neg h1, if_neg h1]
    by_cases h2 : x = nx.length + 1
    · rw [if_pos h2, if_pos h2, next_new he g (by omega)]
      unfold fixF insF
      rw [if_neg (by omega)]
    · rw [if_neg h2, if_neg h2, next_new he x hx]
      unfold fixF insF
      rw [if_neg h2]
theorem next_loop {nx : List Int} {e : Nat} (he : e < nx.length) (x : Nat) (hx : x < nx.length + 2) :
    Sp.fn (Sp.layIn (Sp.layIn (nx ++ [(nx.length : Int), ((nx.length + 1 : Nat) : Int)]) e nx.length) nx.length (nx.length + 1)) x = insF (nx.length + 1) nx.length (insF nx.length e (Sp.fn nx)) x := by
  have hl : (nx ++ [(nx.length : Int), ((nx.length + 1 : Nat) : Int)]).length = nx.length + 2 := by simp
  rw [fn_lay _ _ _ _ (by rw [Sp.layIn_len, hl]; omega) (by rw [Sp.layIn_len, hl]; omega)]
  unfold insF
  by_cases h1 : x = nx.length
  · rw [if_pos h1, if_pos h1]
  · rw [if_neg h1, if_neg h1]
    by_cases h2 : x = nx.length + 1
    · rw [if_pos h2, if_pos h2, next_new he nx.length (by omega)]
      unfold fixF insF
      rw [if_neg (by omega)]
    · rw [if_neg h2, if_neg h2, next_new he x hx]
      unfold fixF insF
      rw [if_neg h2]
/-- The ones behind about the faces. -/
theorem behind_new {nx : List Int} {e : Nat} (he : e < nx.length) (hev : nx.length % 2 = 0) (x : Nat) (hx : x < nx.length + 2) :
    Sp.fn (Sp.behindL (Sp.layIn (nx ++ [(nx.length : Int), ((nx.length + 1 : Nat) : Int)]) e nx.length)) x = insF (nx.length + 1) nx.length (insF nx.length (Sp.oth e) (Sp.fn (Sp.behindL nx))) x := by
  have hoe := oth_lt he hev
  obtain ⟨o1, o2⟩ := oth_new hev
  have hox : Sp.oth x < nx.length + 2 := oth_lt hx (by omega)
  rw [fn_behind _ _ (by rw [Sp.layIn_len]; simpa using hx), next_new he _ hox]
  unfold fixF insF
  by_cases h1 : x = nx.length
  · rw [if_pos h1, h1, o1, if_pos rfl]
  · rw [if_neg h1]
    by_cases h2 : x = nx.length + 1
    · rw [if_pos h2, h2, o2, if_neg (by omega), if_neg (by omega), if_pos rfl, if_neg (by omega), if_pos rfl, fn_behind _ _ hoe, oth_oth]
    · have hxl : x < nx.length := by omega
      have hox' := oth_lt hxl hev
      rw [if_neg h2, if_neg (by omega)]
      by_cases h3 : x = Sp.oth e
      · rw [if_pos h3, if_pos (by rw [h3, oth_oth])]
      · rw [if_neg h3, if_neg (fun h => h3 (oth_ne_iff.1 h)), if_neg (by omega), if_neg (by omega), fn_behind _ _ hxl]
theorem behind_across {nx : List Int} {e g : Nat} (he : e < nx.length) (hg : g < nx.length) (hne : g ≠ e) (hev : nx.length % 2 = 0) (x : Nat) (hx : x < nx.length + 2) :
    Sp.fn (Sp.behindL (Sp.layIn (Sp.layIn (nx ++ [(nx.length : Int), ((nx.length + 1 : Nat) : Int)]) e nx.length) g (nx.length + 1))) x = swpF nx.length (nx.length + 1) (insF (nx.length + 1) (Sp.oth g) (insF nx.length (Sp.oth e) (Sp.fn (Sp.behindL nx)))) x := by
  have hoe := oth_lt he hev
  have hog := oth_lt hg hev
  have hoge : Sp.oth g ≠ Sp.oth e := fun h => hne (oth_inj h)
  obtain ⟨o1, o2⟩ := oth_new hev
  have hox : Sp.oth x < nx.length + 2 := oth_lt hx (by omega)
  rw [fn_behind _ _ (by rw [Sp.layIn_len, Sp.layIn_len]; simpa using hx), next_across he hg hne _ hox]
  unfold swpF insF
  by_cases h1 : x = nx.length
  · rw [if_pos h1, h1, o1, if_neg (by omega), if_pos rfl, if_neg hne, if_neg (by omega), if_neg (by omega), if_pos rfl, if_neg hoge, if_neg (by omega), fn_behind _ _ hog, oth_oth]
  · rw [if_neg h1]
    by_cases h2 : x = nx.length + 1
    · rw [if_pos h2, h2, o2, if_neg (by omega), if_neg (by omega), if_neg (by omega), if_pos rfl, if_neg (by omega), if_neg (by omega), if_neg (by omega), if_pos rfl, fn_behind _ _ hoe, oth_oth]
    · have hxl : x < nx.length := by omega
      have hox' := oth_lt hxl hev
      rw [if_neg h2]
      by_cases h4 : x = Sp.oth g
      · rw [if_pos h4, if_pos (by rw [h4, oth_oth])]
      · rw [if_neg h4, if_neg (fun h => h4 (oth_ne_iff.1 h)), if_neg (by omega), if_neg h2]
        by_cases h3 : x = Sp.oth e
        · rw [if_pos h3, if_pos (by rw [h3, oth_oth])]
        · rw [if_neg h3, if_neg (fun h => h3 (oth_ne_iff.1 h)), if_neg (by omega), if_neg h1, fn_behind _ _ hxl]
theorem behind_loop {nx : List Int} {e : Nat} (he : e < nx.length) (hev : nx.length % 2 = 0) (x : Nat) (hx : x < nx.length + 2) :
    Sp.fn (Sp.behindL (Sp.layIn (Sp.layIn (nx ++ [(nx.length : Int), ((nx.length + 1 : Nat) : Int)]) e nx.length) nx.length (nx.length + 1))) x = fixF (nx.length + 1) (insF nx.length (Sp.oth e) (Sp.fn (Sp.behindL nx))) x := by
  have hoe := oth_lt he hev
  obtain ⟨o1, o2⟩ := oth_new hev
  have hox : Sp.oth x < nx.length + 2 := oth_lt hx (by omega)
  rw [fn_behind _ _ (by rw [Sp.layIn_len, Sp.layIn_len]; simpa using hx), next_loop he _ hox]
  unfold fixF insF
  by_cases h1 : x = nx.length
  · rw [h1, o1, if_neg (by omega), if_pos rfl, if_neg (by omega), if_pos rfl, if_neg (by omega), if_neg (by omega), if_pos rfl, fn_behind _ _ hoe, oth_oth]
  · by_cases h2 : x = nx.length + 1
    · rw [if_pos h2, h2, o2, if_pos rfl]
    · have hxl : x < nx.length := by omega
      have hox' := oth_lt hxl hev
      rw [if_neg h2, if_neg (by omega), if_neg (by omega)]
      by_cases h3 : x = Sp.oth e
      · rw [if_pos h3, if_pos (by rw [h3, oth_oth])]
      · rw [if_neg h3, if_neg (fun h => h3 (oth_ne_iff.1 h)), if_neg (by omega), if_neg h1, fn_behind _ _ hxl]
/-- Which vertices darts lead to, in so many steps. -/
def Sp.reachN (tl : List Int) (u : Int) : Nat → Int → Prop
  | 0, v => u = v
  | n + 1, v => ∃ d, d < tl.length ∧ Sp.reachN tl u n (tl.getD d 0) ∧ tl.getD (Sp.oth d) 0 = v
def Sp.Reach (tl : List Int) (u v : Int) : Prop := ∃ n, Sp.reachN tl u n v
theorem Sp.Reach.refl {tl : List Int} (v : Int) : Sp.Reach tl v v := ⟨0, rfl⟩
theorem Sp.Reach.step {tl : List Int} {u : Int} {d : Nat} (h : Sp.Reach tl u (tl.getD d 0)) (hd : d < tl.length) : Sp.Reach tl u (tl.getD (Sp.oth d) 0) := by
  obtain ⟨n, hn⟩ := h
  exact ⟨n + 1, d, hd, hn, rfl⟩
theorem Sp.Reach.ind {tl : List Int} {u : Int} {p : Int → Prop} (h0 : p u) (h1 : ∀ d, d < tl.length → Sp.Reach tl u (tl.getD d 0) → p (tl.getD d 0) → p (tl.getD (Sp.oth d) 0)) {v : Int} (h : Sp.Reach tl u v) : p v := by
  obtain ⟨n, hn⟩ := h
  induction n generalizing v with
  | zero => exact (show u = v from hn) ▸ h0
  | succ n ih =>
    obtain ⟨d, hd, h2, h3⟩ := hn
    rw [← h3]
    exact h1 d hd ⟨n, h2⟩ (ih h2)
theorem app2_get (tl : List Int) (a b : Int) (x : Nat) (hx : x < tl.length + 2) : (tl ++ [a, b]).getD x 0 = if x < tl.length then tl.getD x 0 else if x = tl.length then a else b := by
  rw [List.getD_eq_getElem?_getD]
  by_cases h1 : x < tl.length
  · rw [if_pos h1, List.getElem?_append_left h1, ← List.getD_eq_getElem?_getD]
  · rw [if_neg h1, List.getElem?_append_right (by omega)]
    have : x = tl.length ∨ x = tl.length + 1 := by omega
    rcases this with rfl | rfl
    · simp
    · rw [if_neg (by omega), show tl.length + 1 - tl.length = 1 by omega]; rfl
theorem Sp.Reach.app {tl : List Int} (hev : tl.length % 2 = 0) (a b : Int) {u v : Int} (h : Sp.Reach tl u v) : Sp.Reach (tl ++ [a, b]) u v := by
  refine h.ind (p := fun v => Sp.Reach (tl ++ [a, b]) u v) (.refl _) (fun d hd _ ih => ?_)
  have ho := oth_lt hd hev
  have e1 : (tl ++ [a, b]).getD d 0 = tl.getD d 0 := by rw [app2_get _ _ _ _ (by omega), if_pos hd]
  have e2 : (tl ++ [a, b]).getD (Sp.oth d) 0 = tl.getD (Sp.oth d) 0 := by rw [app2_get _ _ _ _ (by omega), if_pos ho]
  rw [← e2]
  refine .step ?_ (by simp; omega)
  rw [e1]
  exact ih
/-- A plane net that has darts. -/
structure Sp.Plain (q : Sp.Net) : Prop where
  vert : Cls q.tail.length (Sp.fn q.next) (fun i => (q.tail.getD i 0).toNat) q.n.toNat
  face : ∃ lab F, Cls q.tail.length (Sp.fn (Sp.behindL q.next)) lab F ∧ q.n - ((q.tail.length / 2 : Nat) : Int) + ((F : Nat) : Int) = 2
  conn : ∀ v, 0 ≤ v → v < q.n → Sp.Reach q.tail 0 v
theorem Sp.PlaneQ.mpN {q : Sp.Net} {i : Nat} (h : Sp.PlaneQ q i) : ∀ x, x < q.tail.length → Sp.fn q.next x < q.tail.length := fun x hx => by
  have := h.pm.fnP.mp x (by rw [h.nx]; exact hx)
  rw [h.nx] at this; exact this
theorem Sp.PlaneQ.pmB {q : Sp.Net} {i : Nat} (h : Sp.PlaneQ q i) : PermF q.tail.length (Sp.fn (Sp.behindL q.next)) := by
  have := (h.pm.behind (by rw [h.nx]; exact h.ev)).fnP
  rw [Sp.behindL_len, h.nx] at this; exact this
theorem insF_mp {L u : Nat} {f : Nat → Nat} (h : ∀ i, i < L → f i < L) (hu : u < L) : ∀ i, i < L + 1 → insF L u f i < L + 1 := fun i hi => by
  unfold insF
  have := h u hu
  split
  · omega
  · split
    · omega
    · have := h i (by omega); omega
theorem fixF_mp {L : Nat} {f : Nat → Nat} (h : ∀ i, i < L → f i < L) : ∀ i, i < L + 1 → fixF L f i < L + 1 := fun i hi => by
  unfold fixF
  split
  · omega
  · have := h i (by omega); omega
theorem Sp.Plain.growN {q : Sp.Net} {i : Nat} (hq : Sp.PlaneQ q i) (h : Sp.Plain q) (e : Nat) (he : e < q.tail.length) (c d : Int) : Sp.Plain (Sp.growN q e c d) := by
  have hn0 := hq.n0
  have hL : (Sp.growN q e c d).tail.length = q.tail.length + 2 := by simp [Sp.growN]
  have hen : e < q.next.length := by rw [hq.nx]; exact he
  have hevn : q.next.length % 2 = 0 := by rw [hq.nx]; exact hq.ev
  have hoe := oth_lt he hq.ev
  have hmp1 := insF_mp hq.mpN he
  have hmpB := insF_mp hq.pmB.mp hoe
  refine ⟨?_, ?_, ?_⟩
  · rw [hL]
    have h1 := (h.vert.ins hq.mpN he).fix hmp1
    have hk : (Sp.growN q e c d).n.toNat = q.n.toNat + 1 := by show (q.n + 1).toNat = _; omega
    rw [hk]
    refine h1.congr (fixF_mp hmp1) (fun x hx => ?_) (fun x hx => ?_)
    · have := next_new hen x (by rw [hq.nx]; exact hx)
      rw [hq.nx] at this
      exact this
    · show ((q.tail ++ [q.tail.getD e 0, q.n]).getD x 0).toNat = if x = q.tail.length + 1 then q.n.toNat else if x = q.tail.length then (q.tail.getD e 0).toNat else (q.tail.getD x 0).toNat
      rw [app2_get _ _ _ _ hx]
      by_cases h2 : x < q.tail.length
      · rw [if_pos h2, if_neg (by omega), if_neg (by omega)]
      · rw [if_neg h2]
        by_cases h3 : x = q.tail.length
        · rw [if_pos h3, if_neg (by omega), if_pos h3]
        · rw [if_neg h3, if_pos (by omega)]
  · obtain ⟨lab, F, hf, he2⟩ := h.face
    refine ⟨fun x => if x = q.tail.length + 1 then (if q.tail.length = q.tail.length then lab (Sp.oth e) else lab q.tail.length) else if x = q.tail.length then lab (Sp.oth e) else lab x, F, ?_, ?_⟩
    · rw [hL]
      refine ((hf.ins hq.pmB.mp hoe).ins hmpB (u := q.tail.length) (by omega)).congr (insF_mp hmpB (by omega)) (fun x hx => ?_) (fun x hx => rfl)
      have := behind_new hen hevn x (by rw [hq.nx]; exact hx)
      rw [hq.nx] at this
      exact this
    · rw [hL]
      show q.n + 1 - (((q.tail.length + 2) / 2 : Nat) : Int) + (F : Int) = 2
      omega
  · intro v h0 h1
    have h1' : v < q.n + 1 := h1
    show Sp.Reach (q.tail ++ [q.tail.getD e 0, q.n]) 0 v
    rcases Int.lt_or_le v q.n with h2 | h2
    · exact (h.conn v h0 h2).app hq.ev _ _
    · have hv : v = q.n := by omega
      have o := oth_new hq.ev
      have e1 : (q.tail ++ [q.tail.getD e 0, q.n]).getD (Sp.oth q.tail.length) 0 = v := by rw [o.1, app2_get _ _ _ _ (by omega), if_neg (by omega), if_neg (by omega), hv]
      rw [← e1]
      refine .step ?_ (by simp)
      rw [app2_get _ _ _ _ (by omega), if_neg (by omega), if_pos rfl]
      have htb := hq.tb _ (Sp.getD_mem he)
      exact (h.conn _ htb.1 htb.2).app hq.ev _ _
theorem Sp.Plain.growF {q : Sp.Net} {i : Nat} (hq : Sp.PlaneQ q i) (h : Sp.Plain q) (e g : Nat) (he : e < q.tail.length) (hg : g < q.tail.length) (c d : Int)
    (hs : (Sp.faces2 q).1.getD (q.next.getD g 0).toNat 0 = (Sp.faces2 q).1.getD (q.next.getD e 0).toNat 0) : Sp.Plain (Sp.growF q e g c d) := by
  have hL : (Sp.growF q e g c d).tail.length = q.tail.length + 2 := by simp [Sp.growF]
  have hen : e < q.next.length := by rw [hq.nx]; exact he
  have hgn : g < q.next.length := by rw [hq.nx]; exact hg
  have hevn : q.next.length % 2 = 0 := by rw [hq.nx]; exact hq.ev
  have hoe := oth_lt he hq.ev
  have hog := oth_lt hg hq.ev
  have hmp1 := insF_mp hq.mpN he
  have hmpB := insF_mp hq.pmB.mp hoe
  have hlab : ∀ x, x < q.tail.length + 2 → ((Sp.growF q e g c d).tail.getD x 0).toNat = if x = q.tail.length + 1 then (q.tail.getD g 0).toNat else if x = q.tail.length then (q.tail.getD e 0).toNat else (q.tail.getD x 0).toNat := fun x hx => by
    show ((q.tail ++ [q.tail.getD e 0, q.tail.getD g 0]).getD x 0).toNat = _
    rw [app2_get _ _ _ _ hx]
    by_cases h2 : x < q.tail.length
    · rw [if_pos h2, if_neg (by omega), if_neg (by omega)]
    · rw [if_neg h2]
      by_cases h3 : x = q.tail.length
      · rw [if_pos h3, if_neg (by omega), if_pos h3]
      · rw [if_neg h3, if_pos (by omega)]
  have hconn : ∀ v, 0 ≤ v → v < q.n → Sp.Reach (Sp.growF q e g c d).tail 0 v := fun v h0 h1 => (h.conn v h0 h1).app hq.ev _ _
  obtain ⟨lab, F, hf, he2⟩ := h.face
  by_cases hge : g = e
  · have hnx : (Sp.growF q e g c d).next = Sp.layIn (Sp.layIn (q.next ++ [(q.next.length : Int), ((q.next.length + 1 : Nat) : Int)]) e q.next.length) q.next.length (q.next.length + 1) := by
      unfold Sp.growF
      rw [hq.nx]
      show Sp.layIn _ (if g = e then _ else g) _ = _
      rw [if_pos hge]
    refine ⟨?_, ⟨fun x => if x = q.tail.length + 1 then F else if x = q.tail.length then lab (Sp.oth e) else lab x, F + 1, ?_, ?_⟩, hconn⟩
    · rw [hL, hnx]
      refine ((h.vert.ins hq.mpN he).ins hmp1 (u := q.tail.length) (by omega)).congr (insF_mp hmp1 (by omega)) (fun x hx => ?_) (fun x hx => ?_)
      · have := next_loop hen x (by rw [hq.nx]; exact hx)
        rw [hq.nx] at this ⊢
        exact this
      · show ((Sp.growF q e g c d).tail.getD x 0).toNat = if x = q.tail.length + 1 then (if q.tail.length = q.tail.length then (q.tail.getD e 0).toNat else (q.tail.getD q.tail.length 0).toNat) else if x = q.tail.length then (q.tail.getD e 0).toNat else (q.tail.getD x 0).toNat
        rw [hlab x hx, if_pos (rfl : q.tail.length = q.tail.length), hge]
    · rw [hL, hnx]
      refine ((hf.ins hq.pmB.mp hoe).fix hmpB).congr (fixF_mp hmpB) (fun x hx => ?_) (fun x hx => rfl)
      have := behind_loop hen hevn x (by rw [hq.nx]; exact hx)
      rw [hq.nx] at this ⊢
      exact this
    · rw [hL]
      show q.n - (((q.tail.length + 2) / 2 : Nat) : Int) + ((F + 1 : Nat) : Int) = 2
      omega
  · have hnx : (Sp.growF q e g c d).next = Sp.layIn (Sp.layIn (q.next ++ [(q.next.length : Int), ((q.next.length + 1 : Nat) : Int)]) e q.next.length) g (q.next.length + 1) := by
      unfold Sp.growF
      rw [hq.nx]
      show Sp.layIn _ (if g = e then _ else g) _ = _
      rw [if_neg hge]
    -- both darts leave the same face
    have hsame : lab (Sp.oth e) = lab (Sp.oth g) := by
      have hc := (Sp.faces2_st hq.pm hq.nx hq.ev).cls
      rw [Sp.behindL_len, hq.nx] at hc
      have fe : Sp.fn (Sp.behindL q.next) (Sp.oth e) = (q.next.getD e 0).toNat := by rw [fn_behind _ _ (by rw [hq.nx]; exact hoe), oth_oth]; rfl
      have fg : Sp.fn (Sp.behindL q.next) (Sp.oth g) = (q.next.getD g 0).toNat := by rw [fn_behind _ _ (by rw [hq.nx]; exact hog), oth_oth]; rfl
      have a1 := hq.pmB.mp _ hoe
      have a2 := hq.pmB.mp _ hog
      have ho := hc.sep _ _ a1 a2 (by rw [fe, fg, hs])
      have := hf.orb hq.pmB.mp a1 ho
      rw [hf.inv _ hoe, hf.inv _ hog] at this
      exact this
    have hc2 := (hf.ins hq.pmB.mp hoe).ins hmpB (u := Sp.oth g) (by omega)
    have hp2 := insF_perm (insF_perm hq.pmB hoe) (u := Sp.oth g) (by omega)
    have horb := hc2.sep q.tail.length (q.tail.length + 1) (by omega) (by omega) (by
      show (if q.tail.length = q.tail.length + 1 then _ else if q.tail.length = q.tail.length then lab (Sp.oth e) else _) = if q.tail.length + 1 = q.tail.length + 1 then (if Sp.oth g = q.tail.length then lab (Sp.oth e) else lab (Sp.oth g)) else _
      rw [if_neg (by omega), if_pos rfl, if_pos rfl, if_neg (by omega), hsame])
    obtain ⟨lab3, hc3⟩ := hc2.split hp2 (by omega) (by omega) (by omega) horb
    refine ⟨?_, ⟨lab3, F + 1, ?_, ?_⟩, hconn⟩
    · rw [hL, hnx]
      refine ((h.vert.ins hq.mpN he).ins hmp1 (u := g) (by omega)).congr (insF_mp hmp1 (by omega)) (fun x hx => ?_) (fun x hx => ?_)
      · have := next_across hen hgn hge x (by rw [hq.nx]; exact hx)
        rw [hq.nx] at this ⊢
        exact this
      · show ((Sp.growF q e g c d).tail.getD x 0).toNat = if x = q.tail.length + 1 then (if g = q.tail.length then (q.tail.getD e 0).toNat else (q.tail.getD g 0).toNat) else if x = q.tail.length then (q.tail.getD e 0).toNat else (q.tail.getD x 0).toNat
        rw [hlab x hx, if_neg (show ¬ g = q.tail.length by omega)]
    · rw [hL, hnx]
      refine hc3.congr (swpF_perm hp2 (by omega) (by omega)).mp (fun x hx => ?_) (fun x hx => rfl)
      have := behind_across hen hgn hge hevn x (by rw [hq.nx]; exact hx)
      rw [hq.nx] at this ⊢
      exact this
    · rw [hL]
      show q.n - (((q.tail.length + 2) / 2 : Nat) : Int) + ((F + 1 : Nat) : Int) = 2
      omega
end Go.Proofs.Ytoegjnolccabjab


/- The law RotOnes, walked. -/
namespace Go.Proofs.Ytoegjnolccabjab
open Go Go.RowKit

/-- A net that lies in a block of its own: what stays so in every world behind. -/
theorem boxed {w0 w3 : World} {q : Sp.Net} {tv nv cv : Value} (hb0 : Below w0.heap.size w0 w3) (h : NetI w3 (.agg #[.int .i64 q.n, tv, nv, cv]) q tv nv cv) (W : World) (hW : W = w3.alloc (.cells #[.int .i64 q.n, tv, nv, cv] 26)) :
    (∀ w', Below (w3.heap.size + 1) W w' → (w'.cell? ⟨w3.heap.size, 0, none⟩ = some (.int .i64 q.n) ∧ w'.cell? ⟨w3.heap.size, 1, none⟩ = some tv ∧ w'.cell? ⟨w3.heap.size, 2, none⟩ = some nv ∧ w'.cell? ⟨w3.heap.size, 3, none⟩ = some cv) ∧ NetI w' (.agg #[.int .i64 q.n, tv, nv, cv]) q tv nv cv ∧ Below w0.heap.size w0 w' ∧ w3.heap.size + 1 ≤ w'.heap.size ∧ Below w3.heap.size w3 w') ∧ W.heap.size = w3.heap.size + 1 ∧ ∀ w2 w5, Below (w3.heap.size + 1) W w2 → Below w2.heap.size w2 w5 → Below (w3.heap.size + 1) W w5 := by
  subst hW
  have hs : (w3.alloc (.cells #[.int .i64 q.n, tv, nv, cv] 26)).heap.size = w3.heap.size + 1 := by simp
  refine ⟨fun w' hb => ?_, hs, fun w2 w5 h2 h5 => h2.trans (h5.mono (by have := h2.size; omega))⟩
  obtain ⟨k0, k1, k2, k3, k4⟩ := box_new w3 q.n tv nv cv w' hb
  have hb3 : Below w3.heap.size w3 w' := ((Below.refl _ w3).alloc (Nat.le_refl _) _).trans (hb.mono (by omega))
  exact ⟨⟨k0, k1, k2, k3⟩, ⟨rfl, h.tail.below hb3, h.next.below hb3, h.cap.below hb3⟩, hb0.trans (hb3.mono hb0.size), k4, hb3⟩
theorem Sp.PlaneQ.walk {q : Sp.Net} {i : Nat} (h : Sp.PlaneQ q i) (hi : i ≤ 50) : Sp.walkB q = true := by
  have h1 := h.le
  have h2 := h.n1
  have h3 := h.n0
  exact walkB_of ⟨by omega, by omega, by omega, h.ev, h.nx, h.cp, fun x hx => h.pm.bd x hx, h.tb⟩
/-- How many labels were met among the first i. -/
structure TopAt (l : List Int) (i top : Nat) : Prop where
  lt : ∀ j, j < i → l.getD j 0 < (top : Int)
  on : ∀ c : Nat, c < top → ∃ j, j < i ∧ l.getD j 0 = (c : Int)
theorem TopAt.le {l : List Int} {i top : Nat} (h : TopAt l i top) (hr : Sp.RG l) (hi : i < l.length) : 0 ≤ l.getD i 0 ∧ l.getD i 0 ≤ (top : Int) := by
  refine ⟨hr.nn i hi, ?_⟩
  rcases Int.lt_or_le (top : Int) (l.getD i 0) with h1 | h1
  · obtain ⟨j, hj, e⟩ := hr.sm i hi top (by omega) h1
    have := h.lt j hj
    omega
  · exact h1
theorem TopAt.same {l : List Int} {i top : Nat} (h : TopAt l i top) (h1 : l.getD i 0 < (top : Int)) : TopAt l (i + 1) top := by
  refine ⟨fun j hj => ?_, fun c hc => ?_⟩
  · rcases Nat.lt_or_ge j i with h2 | h2
    · exact h.lt j h2
    · rw [show j = i by omega]; exact h1
  · obtain ⟨j, h2, h3⟩ := h.on c hc
    exact ⟨j, by omega, h3⟩
theorem TopAt.more {l : List Int} {i top : Nat} (h : TopAt l i top) (h1 : l.getD i 0 = (top : Int)) : TopAt l (i + 1) (top + 1) := by
  refine ⟨fun j hj => ?_, fun c hc => ?_⟩
  · rcases Nat.lt_or_ge j i with h2 | h2
    · have := h.lt j h2; omega
    · rw [show j = i by omega]; omega
  · by_cases hk : c = top
    · exact ⟨i, by omega, by rw [h1, hk]⟩
    · obtain ⟨j, h2, h3⟩ := h.on c (by omega)
      exact ⟨j, by omega, h3⟩
theorem TopAt.last {l : List Int} {n top k : Nat} (h : TopAt l n top) (hn : l.length = n) (hk : Sp.Num l k) : top = k := by
  rcases Nat.lt_trichotomy top k with h1 | h1 | h1
  · obtain ⟨i, a, b⟩ := hk.on top h1
    have := h.lt i (by omega)
    omega
  · exact h1
  · obtain ⟨j, a, b⟩ := h.on k h1
    have := hk.lt j (by omega)
    omega
end Go.Proofs.Ytoegjnolccabjab


/- How many places a round has; the rounds the other way about. -/
namespace Go.Proofs.Ytoegjnolccabjab
open Go Go.RowKit

theorem nodup_sub : ∀ (l1 l2 : List Int), l1.Nodup → (∀ x ∈ l1, x ∈ l2) → l1.length ≤ l2.length
  | [], _, _, _ => Nat.zero_le _
  | a :: t, l2, hd, hs => by
    rw [List.nodup_cons] at hd
    have ha := hs a (by simp)
    have h1 := nodup_sub t (l2.erase a) hd.2 (fun x hx => by
      have hne : x ≠ a := fun e => hd.1 (by rw [← e]; exact hx)
      exact (List.mem_erase_of_ne hne).2 (hs x (by simp [hx])))
    rw [List.length_erase_of_mem ha] at h1
    have := List.length_pos_of_mem ha
    rw [List.length_cons]
    omega
/-- How many places below n are so. -/
def Sp.cnt (p : Nat → Bool) (n : Nat) : Nat := ((List.range n).filter p).length
theorem Sp.cnt_succ (p : Nat → Bool) (n : Nat) : Sp.cnt p (n + 1) = Sp.cnt p n + if p n then 1 else 0 := by
  unfold Sp.cnt
  rw [List.range_succ, List.filter_append, List.length_append]
  by_cases h : p n = true
  · rw [if_pos h]; simp [h]
  · rw [if_neg h]; simp [h]
theorem Sp.rounds_nodup {st : List Int} (hp : Sp.Perm st) {x : Nat} (hx : x < st.length) : (Sp.rounds st x (Sp.per st x)).Nodup := by
  obtain ⟨p1, p2, p3, p4⟩ := hp.per hx
  unfold List.Nodup
  rw [List.pairwise_iff_getElem]
  intro i j hi hj hij e
  rw [Sp.rounds_len] at hi hj
  simp only [Sp.rounds, List.getElem_map, List.getElem_range] at e
  have e2 : Sp.nth st x (i + (j - i)) = Sp.nth st x i := by rw [show i + (j - i) = j by omega]; exact e.symm
  exact p4 (j - i) (by omega) (by omega) (hp.back hx i (j - i) e2)
/-- A round has as many places as bear its label. -/
theorem Sp.Perm.count {st : List Int} (hp : Sp.Perm st) {lab : Nat → Nat} {k : Nat} (hc : Cls st.length (Sp.fn st) lab k) {x : Nat} (hx : x < st.length) : Sp.per st x = Sp.cnt (fun i => decide (lab i = lab x)) st.length := by
  have hmem : ∀ i : Nat, (i : Int) ∈ Sp.rounds st x (Sp.per st x) ↔ i < st.length ∧ lab i = lab x := fun i => by
    constructor
    · intro h
      obtain ⟨j, e, o⟩ := (hp.mem_rounds hx _).1 h
      have : i = j := by omega
      subst this
      refine ⟨?_, (hc.orb hp.fnP.mp hx o).symm⟩
      obtain ⟨m, rfl⟩ := o
      exact hp.fnP.it hx m
    · intro ⟨h1, h2⟩
      exact (hp.mem_rounds hx _).2 ⟨i, rfl, hc.sep x i hx h1 h2.symm⟩
  have hnd : (((List.range st.length).filter fun i => decide (lab i = lab x)).map fun i : Nat => (i : Int)).Nodup := by
    unfold List.Nodup
    rw [List.pairwise_map]
    refine List.Pairwise.imp (R := fun a b : Nat => a ≠ b) (fun {a b} (h : a ≠ b) (e : (a : Int) = (b : Int)) => h (by omega)) ?_
    exact List.Pairwise.filter _ List.nodup_range
  have hlen : (((List.range st.length).filter fun i => decide (lab i = lab x)).map fun i : Nat => (i : Int)).length = Sp.cnt (fun i => decide (lab i = lab x)) st.length := by
    rw [List.length_map]; rfl
  have h1 := nodup_sub _ _ (Sp.rounds_nodup hp hx) (fun y hy => by
    obtain ⟨j, rfl, o⟩ := (hp.mem_rounds hx y).1 hy
    have := (hmem j).1 hy
    exact List.mem_map.2 ⟨j, List.mem_filter.2 ⟨List.mem_range.2 this.1, decide_eq_true this.2⟩, rfl⟩)
  have h2 := nodup_sub _ _ hnd (fun y hy => by
    obtain ⟨j, hj, rfl⟩ := List.mem_map.1 hy
    obtain ⟨a, b⟩ := List.mem_filter.1 hj
    exact (hmem j).2 ⟨List.mem_range.1 a, of_decide_eq_true b⟩)
  rw [hlen, Sp.rounds_len] at h1 h2
  omega
theorem Sp.invGo_len (nx : List Int) : ∀ f d acc, (Sp.invGo nx f d acc).length = acc.length
  | 0, _, _ => rfl
  | f + 1, d, acc => by
    rw [Sp.invGo, Sp.invGo_len nx f, List.length_set]
theorem Sp.invGo_get {nx : List Int} (hp : Sp.Perm nx) : ∀ f d acc, d + f = nx.length → acc.length = nx.length → ∀ i, i < nx.length → (Sp.invGo nx f d acc).getD (Sp.fn nx i) 0 = if d ≤ i then (i : Int) else acc.getD (Sp.fn nx i) 0
  | 0, d, acc, hd, hl, i, hi => by rw [if_neg (by omega)]; rfl
  | f + 1, d, acc, hd, hl, i, hi => by
    rw [Sp.invGo, Sp.invGo_get hp f (d + 1) _ (by omega) (by rw [List.length_set]; exact hl) i hi]
    by_cases h1 : d + 1 ≤ i
    · rw [if_pos h1, if_pos (by omega)]
    · rw [if_neg h1]
      have hfd : (nx.getD d 0).toNat < acc.length := by rw [hl]; exact hp.fnP.mp d (by omega)
      rw [getD_set_eq acc _ _ _ hfd]
      by_cases h2 : i = d
      · rw [if_pos (by rw [h2]; rfl), if_pos (by omega), h2]
      · have hne : ¬ Sp.fn nx i = (nx.getD d 0).toNat := fun e => h2 (hp.fnP.inj i d hi (by omega) e)
        rw [if_neg hne, if_neg (by omega)]
theorem Sp.turnL_len (nx : List Int) : (Sp.turnL nx).length = nx.length := by
  unfold Sp.turnL
  rw [Sp.invGo_len, List.length_replicate]
theorem Sp.turnL_back {nx : List Int} (hp : Sp.Perm nx) {i : Nat} (hi : i < nx.length) : (Sp.turnL nx).getD (Sp.fn nx i) 0 = (i : Int) := by
  unfold Sp.turnL
  rw [Sp.invGo_get hp nx.length 0 _ (by omega) (by simp) i hi, if_pos (Nat.zero_le _)]
theorem Sp.Perm.onto {st : List Int} (hp : Sp.Perm st) {j : Nat} (hj : j < st.length) : ∃ i, i < st.length ∧ Sp.fn st i = j := by
  obtain ⟨p1, p2, p3, p4⟩ := hp.per hj
  refine ⟨itf (Sp.fn st) j (Sp.per st j - 1), hp.fnP.it hj _, ?_⟩
  have e := hp.nth_it hj (Sp.per st j)
  rw [p3] at e
  have e2 : itf (Sp.fn st) j (Sp.per st j - 1 + 1) = j := by rw [show Sp.per st j - 1 + 1 = Sp.per st j by omega]; omega
  exact e2
theorem Sp.Perm.turn {nx : List Int} (hp : Sp.Perm nx) : Sp.Perm (Sp.turnL nx) := by
  refine ⟨fun x hx => ?_, fun i j hi hj e => ?_⟩
  · rw [Sp.turnL_len]
    obtain ⟨k, hk, rfl⟩ := List.mem_iff_getElem.1 hx
    rw [Sp.turnL_len] at hk
    rw [← Sp.getD_eq]
    obtain ⟨i, hi, rfl⟩ := hp.onto hk
    rw [Sp.turnL_back hp hi]
    omega
  · rw [Sp.turnL_len] at hi hj
    obtain ⟨a, ha, rfl⟩ := hp.onto hi
    obtain ⟨b, hb, rfl⟩ := hp.onto hj
    rw [Sp.turnL_back hp ha, Sp.turnL_back hp hb] at e
    rw [show a = b by omega]
theorem Sp.fn_turn {nx : List Int} (hp : Sp.Perm nx) {i : Nat} (hi : i < nx.length) : Sp.fn (Sp.turnL nx) (Sp.fn nx i) = i := by
  show ((Sp.turnL nx).getD (Sp.fn nx i) 0).toNat = i
  rw [Sp.turnL_back hp hi, Int.toNat_natCast]
theorem Sp.fn_turn' {nx : List Int} (hp : Sp.Perm nx) {i : Nat} (hi : i < nx.length) : Sp.fn nx (Sp.fn (Sp.turnL nx) i) = i := by
  obtain ⟨a, ha, rfl⟩ := hp.onto hi
  rw [Sp.fn_turn hp ha]
end Go.Proofs.Ytoegjnolccabjab


/- Each net that Plane makes is plane. -/
namespace Go.Proofs.Ytoegjnolccabjab
open Go Go.RowKit

theorem cls_const (f : Nat → Nat) (h : f 0 = 1 ∧ f 1 = 0) (lab : Nat → Nat) (l0 : lab 0 = 0) (l1 : lab 1 = 0) : Cls 2 f lab 1 := by
  have hc : ∀ i, i < 2 → i = 0 ∨ i = 1 := fun i hi => by omega
  refine ⟨fun i hi => ?_, fun c hc' => ⟨0, by omega, by omega⟩, fun i hi => ?_, fun i j hi hj _ => ?_⟩
  · rcases hc i hi with rfl | rfl <;> omega
  · rcases hc i hi with rfl | rfl
    · rw [h.1, l0, l1]
    · rw [h.2, l0, l1]
  · rcases hc i hi with rfl | rfl <;> rcases hc j hj with rfl | rfl
    · exact OrbF.refl _ _
    · exact ⟨1, h.1⟩
    · exact ⟨1, h.2⟩
    · exact OrbF.refl _ _
theorem cls_each (f : Nat → Nat) (h : f 0 = 0 ∧ f 1 = 1) (lab : Nat → Nat) (l0 : lab 0 = 0) (l1 : lab 1 = 1) : Cls 2 f lab 2 := by
  have hc : ∀ i, i < 2 → i = 0 ∨ i = 1 := fun i hi => by omega
  refine ⟨fun i hi => ?_, fun c hc' => ?_, fun i hi => ?_, fun i j hi hj e => ?_⟩
  · rcases hc i hi with rfl | rfl <;> omega
  · rcases hc c hc' with rfl | rfl
    · exact ⟨0, by omega, l0⟩
    · exact ⟨1, by omega, l1⟩
  · rcases hc i hi with rfl | rfl
    · rw [h.1]
    · rw [h.2]
  · rcases hc i hi with rfl | rfl <;> rcases hc j hj with rfl | rfl
    · exact OrbF.refl _ _
    · omega
    · omega
    · exact OrbF.refl _ _
theorem Sp.Plain.loop (c d : Int) : Sp.Plain ⟨1, [0, 0], [1, 0], [c, d]⟩ := by
  refine ⟨cls_const _ ⟨rfl, rfl⟩ _ rfl rfl, ⟨fun i => i, 2, cls_each _ ⟨rfl, rfl⟩ _ rfl rfl, by show (1 : Int) - ((2 / 2 : Nat) : Int) + ((2 : Nat) : Int) = 2; decide⟩, fun v h0 h1 => ?_⟩
  have h1' : v < 1 := h1
  obtain rfl : v = 0 := by omega
  exact .refl _
theorem Sp.Plain.edge (c d : Int) : Sp.Plain ⟨2, [0, 1], [0, 1], [c, d]⟩ := by
  refine ⟨cls_each _ ⟨rfl, rfl⟩ _ rfl rfl, ⟨fun _ => 0, 1, cls_const _ ⟨rfl, rfl⟩ _ rfl rfl, by show (2 : Int) - ((2 / 2 : Nat) : Int) + ((1 : Nat) : Int) = 2; decide⟩, fun v h0 h1 => ?_⟩
  have h1' : v < 2 := h1
  rcases (show v = 0 ∨ v = 1 by omega) with rfl | rfl
  · exact .refl _
  · exact Sp.Reach.step (tl := [0, 1]) (d := 0) (.refl _) (by decide)
end Go.Proofs.Ytoegjnolccabjab


/- The law RotAbouts, walked. -/
namespace Go.Proofs.Ytoegjnolccabjab
open Go Go.RowKit

theorem Ints.cellD {w : World} {b o n c : Nat} {l : List Int} (h : Ints w (.slice (some ⟨b, o, none⟩) n c) l) (k : Nat) (hk : k < l.length) : w.cell? ⟨b, o + k, none⟩ = some (.int .i64 (l.getD k 0)) := by
  obtain ⟨a, c', e, -, -, h3⟩ := h.allD
  injection e with e1 e2 e3
  obtain ⟨b', o', e4, -, h5⟩ := unhide h3 k hk
  rw [← e1] at e4
  injection e4 with e4
  injection e4 with e5 e6
  subst e5 e6
  exact h5 w (Below.refl _ _)
theorem Ints.openP {w : World} {v : Value} {l : List Int} (h : Ints w v l) (hl : 0 < l.length) : ∃ b o c, v = .slice (some ⟨b, o, none⟩) l.length c ∧ l.length ≤ c ∧ c ≤ maxLen := by
  obtain ⟨a, c, e, h1, h2, h3⟩ := h.allD
  obtain ⟨b, o, e4, -, -⟩ := unhide h3 0 hl
  exact ⟨b, o, c, by rw [e, e4], h1, h2⟩
theorem itf_apart {nx : List Int} (hp : Sp.Perm nx) {x : Nat} (hx : x < nx.length) {i k : Nat} (hk : k < i) (hi : i < Sp.per nx x) : itf (Sp.fn nx) x k ≠ itf (Sp.fn nx) x i := by
  intro e
  obtain ⟨p1, p2, p3, p4⟩ := hp.per hx
  have e2 : Sp.nth nx x (k + (i - k)) = Sp.nth nx x k := by rw [show k + (i - k) = i by omega, hp.nth_it hx, hp.nth_it hx, e]
  exact p4 (i - k) (by omega) (by omega) (hp.back hx k (i - k) e2)
end Go.Proofs.Ytoegjnolccabjab


/- Package dual: a face's round from a vertex on. -/
namespace Go.Proofs.Ytoegjnolccabjab
open Go Go.RowKit

set_option maxRecDepth 100000 in
set_option maxHeartbeats 1000000 in
theorem round1_any (T : List Int) (d m b : Nat) (x : Int) (tv : Value) (w : World) (ht : Ints w tv T) (hd : d < T.length) (hm : w.cell? ⟨m, 1, none⟩ = some tv) (hb : w.cell? ⟨b, 0, none⟩ = some (.int .i64 x)) :
    Calls Try.prog 55 #[.int .i64 (d : Int), .pointer (some ⟨m, 0, none⟩), .pointer (some ⟨b, 0, none⟩)] w fun e w' => e = .returned (.bool (T.getD d 0 == x)) ∧ Below w.heap.size w w' := by
  obtain ⟨ta, tc, rfl, -, -, HT⟩ := ht.allG
  obtain ⟨tb, t0, rfl, -, hcx⟩ := unhide HT d hd
  have c1 := hcx w (Below.refl _ _)
  have hdI : (d : Int) < (T.length : Int) := by omega
  generalize T.getD d 0 = z at *
  clear HT hcx ht
  go_enter Try.func55, Try.ntmps55
  go_wp2
  go_quiet (fail)
  go_wp2
  go_ret
  exact ⟨by rfl, below_dn (Below.refl _ _) _⟩
set_option maxRecDepth 100000 in
set_option maxHeartbeats 2000000 in
theorem indexRound_any (T l : List Int) (m b n a : Nat) (x : Int) (tv lv : Value) (w : World) (ht : Ints w tv T) (hl : Ints w lv l) (hn : l.length = n) (h240 : n ≤ 1000) (hld : ∀ j, j < n → ∃ z : Nat, l.getD j 0 = (z : Int) ∧ z < T.length)
    (hm : w.cell? ⟨m, 1, none⟩ = some tv) (hb : w.cell? ⟨b, 0, none⟩ = some (.int .i64 x)) (hms : m < w.heap.size) (hbs : b < w.heap.size) (ha : a < n) (ha1 : T.getD (l.getD a 0).toNat 0 = x) (ha2 : ∀ j, j < a → T.getD (l.getD j 0).toNat 0 ≠ x) :
    Calls Try.prog 54 #[lv, .func (.func 55) #[] #[.pointer (some ⟨m, 0, none⟩), .pointer (some ⟨b, 0, none⟩)]] w fun e w' => e = .returned (.int .i64 (a : Int)) ∧ Below w.heap.size w w' := by
  obtain ⟨la, lc, rfl, -, -, HL⟩ := hl.allG
  rw [hn] at HL ⊢
  have HC : Hid (∀ w' j, Below w.heap.size w w' → j < n → ∃ z : Nat, l.getD j 0 = (z : Int) ∧ Calls Try.prog 55 #[.int .i64 (z : Int), .pointer (some ⟨m, 0, none⟩), .pointer (some ⟨b, 0, none⟩)] w' fun e w'' => e = .returned (.bool (T.getD z 0 == x)) ∧ Below w'.heap.size w' w'') := hide fun w' j hw hj => by
    obtain ⟨z, e1, e2⟩ := hld j hj
    exact ⟨z, e1, round1_any T z m b x tv w' (ht.below hw) e2 ((hw.cell hms).trans hm) ((hw.cell hbs).trans hb)⟩
  have HA2 := hide ha2
  have HA1 := hide ha1
  obtain ⟨P, hP⟩ : ∃ P : Ending → World → Prop, P = fun e w' => e = .returned (.int .i64 (a : Int)) ∧ Below w.heap.size w w' := ⟨_, rfl⟩
  rw [← hP]
  have HP := hide hP
  clear hP hl ht hld hm hb ha1 ha2 hn
  go_enter Try.func54, Try.ntmps54
  go_wp2
  go_loopg [8] a (fun g s8 wr => ∃ k : Nat, k + g = a ∧ s8 = .int .i64 (k : Int) ∧ Hid (Below w.heap.size w wr))
  case atStart => exact ⟨0, by omega, rfl, hide (Below.refl _ _)⟩
  case round =>
    obtain ⟨k, hk, rfl, HB⟩ := hrel
    have hlt : k < n := by omega
    have hltI : (k : Int) < (n : Int) := by omega
    obtain ⟨b', o, rfl, -, hcx⟩ := unhide HL k hlt
    have c1 := hcx wr (unhide HB)
    obtain ⟨z, hz, hcall⟩ := unhide HC wr k (unhide HB) hlt
    rw [hz] at c1
    have HCl := hide hcall
    clear hcx hcall
    have HZ := hide hz
    clear hz
    go_wp2_with fail
    go_at_call 55
    refine (unhide HCl).mono ?_
    rintro e w2 ⟨rfl, hb2⟩
    have HB2 := hide ((unhide HB).trans (hb2.mono (unhide HB).size))
    clear hb2 HCl HB c1
    cases gk with
    | zero =>
      obtain rfl : k = a := by omega
      have hx : (T.getD z 0 == x) = true := by
        have h := unhide HA1
        rw [unhide HZ, Int.toNat_natCast] at h
        rw [h]
        exact beq_self_eq_true _
      rw [hx]
      go_wp2
      rw [unhide HP]
      exact ⟨by rfl, unhide HB2⟩
    | succ g' =>
      have hx : (T.getD z 0 == x) = false := by
        have h := unhide HA2 k (by omega)
        rw [unhide HZ, Int.toNat_natCast] at h
        exact beq_eq_false_iff_ne.2 h
      rw [hx]
      go_wp2
      go_roundg g'
      case rel => exact ⟨k + 1, by omega, by go_num, HB2⟩
      case measure => omega
set_option maxRecDepth 100000 in
set_option maxHeartbeats 4000000 in
theorem mround_any (q : Sp.Net) (K O : Nat) (v tv nv cv : Value) (s t : Int) (f d0 a jb : Nat) (w : World) (hv : MeshI w v q (Sp.faces2 q).1 K tv nv cv (.slice (some ⟨O, 0, none⟩) q.tail.length q.tail.length)) (hq : Sp.LinkQ q) (hw : Sp.walkB q = true) (hs : Sp.SplitQ q s t f d0 a jb) :
    Calls Try.prog 42 #[v, .int .i64 (f : Int), .int .i64 s] w fun e w' => ∃ lv, e = .returned lv ∧ Mine w' w.heap.size lv (Sp.rounds (Sp.behindL q.next) (itf (Sp.fn (Sp.behindL q.next)) d0 a : Nat) (Sp.per (Sp.behindL q.next) d0)) ∧ Below w.heap.size w w' := by
  have hval := hv.val
  obtain ⟨ta, tc, rfl, -, -⟩ := hv.tail.form
  obtain ⟨na, nc, rfl, -, -⟩ := hv.next.form
  obtain ⟨ca, cc, rfl, -, -⟩ := hv.cap.form
  subst hval
  have hb := hq.pm.behind (by rw [hq.nx]; exact hq.ev)
  have hlb : (Sp.behindL q.next).length = q.tail.length := by rw [Sp.behindL_len, hq.nx]
  have hdb : d0 < (Sp.behindL q.next).length := by rw [hlb]; exact hs.d0l
  have hxl : itf (Sp.fn (Sp.behindL q.next)) d0 a < (Sp.behindL q.next).length := hb.fnP.it hdb a
  obtain ⟨W1, hW1⟩ : ∃ W1, W1 = w.alloc (.cells #[.int .i64 q.n, .slice ta q.tail.length tc, .slice na q.next.length nc, .slice ca q.cap.length cc, .slice (some ⟨O, 0, none⟩) q.tail.length q.tail.length, .int .i64 (K : Int)] 68) := ⟨_, rfl⟩
  have hs1 : W1.heap.size = w.heap.size + 1 := by rw [hW1]; simp
  obtain ⟨W2, hW2⟩ : ∃ W2, W2 = W1.alloc (.cells #[.int .i64 s] 3) := ⟨_, rfl⟩
  have hb1 : Below w.heap.size w W1 := by rw [hW1]; exact (Below.refl _ w).alloc (Nat.le_refl _) _
  have hb12 : Below (w.heap.size + 1) W1 W2 := by rw [hW2]; exact (Below.refl _ W1).alloc (by omega) _
  have hs2 : W2.heap.size = w.heap.size + 2 := by rw [hW2]; simp [hs1]
  have HW : Hid (∀ w', Below (w.heap.size + 2) W2 w' → Below w.heap.size w w') := hide fun w' hbb => (hb1.trans (hb12.mono (by omega))).trans (hbb.mono (by omega))
  have HS : Hid (∀ w', Below (w.heap.size + 2) W2 w' → (w'.cell? ⟨w.heap.size, 0, none⟩ = some (.int .i64 q.n) ∧ w'.cell? ⟨w.heap.size, 1, none⟩ = some (.slice ta q.tail.length tc) ∧ w'.cell? ⟨w.heap.size, 2, none⟩ = some (.slice na q.next.length nc) ∧ w'.cell? ⟨w.heap.size, 3, none⟩ = some (.slice ca q.cap.length cc) ∧ w'.cell? ⟨w.heap.size, 4, none⟩ = some (.slice (some ⟨O, 0, none⟩) q.tail.length q.tail.length)) ∧ w'.cell? ⟨w.heap.size + 1, 0, none⟩ = some (.int .i64 s)) := hide fun w' hbb => by
    have hbb1 : Below (w.heap.size + 1) W1 w' := hb12.trans (hbb.mono (by omega))
    rw [hW1] at hbb1
    obtain ⟨e0, e1, e2, e3, e4, -, -⟩ := mesh_new w q.n _ _ _ _ _ w' hbb1
    refine ⟨⟨e0, e1, e2, e3, e4⟩, ?_⟩
    rw [hbb.cell (by show w.heap.size + 1 < _; omega), hW2]
    have h := heap_alloc_new W1 (.cells #[.int .i64 s] 3)
    rw [hs1] at h
    rw [cell_of_row _ _ _ _ _ _ h]
    rfl
  have HV : Hid (∀ w', Below (w.heap.size + 2) W2 w' → NetI w' (.agg #[.int .i64 q.n, .slice ta q.tail.length tc, .slice na q.next.length nc, .slice ca q.cap.length cc]) q (.slice ta q.tail.length tc) (.slice na q.next.length nc) (.slice ca q.cap.length cc)) := hide fun w' hbb => ⟨rfl, hv.tail.below (unhide HW _ hbb), hv.next.below (unhide HW _ hbb), hv.cap.below (unhide HW _ hbb)⟩
  have HIx : Hid (∀ w', Below (w.heap.size + 2) W2 w' → Calls Try.prog 53 #[.slice (some ⟨O, 0, none⟩) q.tail.length q.tail.length, .int .i64 (f : Int)] w' fun e w'' => e = .returned (.int .i64 (d0 : Int)) ∧ w'' = w') := hide fun w' hbb => by
    have hF := hv.of.below (unhide HW _ hbb)
    have hFl := Sp.faces2_len q
    obtain ⟨fa, fc, fe, -, -, HF⟩ := hF.all
    injection fe with fe1 fe2 fe3
    refine (index_any (Sp.faces2 q).1 O 0 q.tail.length q.tail.length (f : Int) w' hFl (by have := hq.le; omega) (fun j hj => ?_)).mono ?_
    · obtain ⟨b, o, e1, -, e3⟩ := unhide HF j hj
      rw [← fe1] at e1
      injection e1 with e1
      injection e1 with e4 e5
      subst e4 e5
      exact e3 w' (Below.refl _ _)
    · rintro e w'' ⟨h, rfl⟩
      refine ⟨?_, rfl⟩
      have hd0' : d0 < (Sp.faces2 q).1.length := by rw [hFl]; exact hs.d0l
      have hd0f := hs.d0f
      rw [Sp.getD_eq _ _ hd0'] at hd0f
      rcases h with ⟨i, hi, e1, e2, e3⟩ | ⟨-, e2⟩
      · have : i = d0 := by
          rcases Nat.lt_trichotomy i d0 with h1 | h1 | h1
          · have := hs.d0m i h1
            rw [Sp.getD_eq _ _ hi] at this
            exact absurd e2 this
          · exact h1
          · exact absurd hd0f (e3 d0 hd0' h1)
        rw [e1, this]
      · exact absurd (by rw [← hd0f]; exact List.getElem_mem _) e2
  have HF1 : Hid (∀ w', Below (w.heap.size + 2) W2 w' → Calls Try.prog 52 #[.agg #[.int .i64 q.n, .slice ta q.tail.length tc, .slice na q.next.length nc, .slice ca q.cap.length cc], .int .i64 (d0 : Int)] w' fun e w'' => ∃ rv, e = .returned rv ∧ Mine w'' w'.heap.size rv (Sp.rounds (Sp.behindL q.next) d0 (Sp.per (Sp.behindL q.next) d0)) ∧ Below w'.heap.size w' w'') := hide fun w' hbb => by
    have h := face_any q _ _ _ _ (d0 : Int) w' (unhide HV w' hbb) hw
    rw [Sp.roundOf_eq hb hdb] at h
    exact h
  have HF2 : Hid (∀ w', Below (w.heap.size + 2) W2 w' → Calls Try.prog 52 #[.agg #[.int .i64 q.n, .slice ta q.tail.length tc, .slice na q.next.length nc, .slice ca q.cap.length cc], .int .i64 ((itf (Sp.fn (Sp.behindL q.next)) d0 a : Nat) : Int)] w' fun e w'' => ∃ rv, e = .returned rv ∧ Mine w'' w'.heap.size rv (Sp.rounds (Sp.behindL q.next) (itf (Sp.fn (Sp.behindL q.next)) d0 a : Nat) (Sp.per (Sp.behindL q.next) d0)) ∧ Below w'.heap.size w' w'') := hide fun w' hbb => by
    have h := face_any q _ _ _ _ ((itf (Sp.fn (Sp.behindL q.next)) d0 a : Nat) : Int) w' (unhide HV w' hbb) hw
    rw [Sp.roundOf_eq hb hxl, per_along hb hdb] at h
    exact h
  have HG : Hid (∀ j, j < Sp.per (Sp.behindL q.next) d0 → (Sp.rounds (Sp.behindL q.next) d0 (Sp.per (Sp.behindL q.next) d0)).getD j 0 = ((itf (Sp.fn (Sp.behindL q.next)) d0 j : Nat) : Int) ∧ itf (Sp.fn (Sp.behindL q.next)) d0 j < q.tail.length) := hide fun j hj => by
    refine ⟨?_, by have := hb.fnP.it hdb j; rw [hlb] at this; exact this⟩
    rw [Sp.getD_eq _ _ (by rw [Sp.rounds_len]; exact hj)]
    simp only [Sp.rounds, List.getElem_map, List.getElem_range]
    exact hb.nth_it hdb j
  have HLl : Hid ((Sp.rounds (Sp.behindL q.next) d0 (Sp.per (Sp.behindL q.next) d0)).length = Sp.per (Sp.behindL q.next) d0) := hide (Sp.rounds_len _ _ _)
  have hpl : Sp.per (Sp.behindL q.next) d0 ≤ 60 := by have := (hb.per hdb).2.1; rw [hlb] at this; have := hq.le; omega
  have HIF : Hid (∀ w' lv, Below (w.heap.size + 2) W2 w' → Ints w' lv (Sp.rounds (Sp.behindL q.next) d0 (Sp.per (Sp.behindL q.next) d0)) → Calls Try.prog 54 #[lv, .func (.func 55) #[] #[.pointer (some ⟨w.heap.size, 0, none⟩), .pointer (some ⟨w.heap.size + 1, 0, none⟩)]] w' fun e w'' => e = .returned (.int .i64 (a : Int)) ∧ Below w'.heap.size w' w'') := hide fun w' lv hbb hl => by
    have hsz := hbb.size
    refine indexRound_any q.tail _ w.heap.size (w.heap.size + 1) (Sp.per (Sp.behindL q.next) d0) a s _ lv w' (unhide HV w' hbb).tail hl (unhide HLl) (by omega) (fun j hj => ⟨_, (unhide HG j hj).1, (unhide HG j hj).2⟩) (unhide HS w' hbb).1.2.1 (unhide HS w' hbb).2 (by omega) (by omega) hs.al ?_ fun j hj => ?_
    · rw [(unhide HG a hs.al).1, Int.toNat_natCast]
      exact hs.at_
    · rw [(unhide HG j (by have := hs.al; omega)).1, Int.toNat_natCast]
      exact hs.am j hj
  have hap := hs.al
  have HGa : Hid ((Sp.rounds (Sp.behindL q.next) d0 (Sp.per (Sp.behindL q.next) d0)).getD a 0 = ((itf (Sp.fn (Sp.behindL q.next)) d0 a : Nat) : Int)) := hide (unhide HG a hap).1
  obtain ⟨P, hP⟩ : ∃ P : Ending → World → Prop, P = fun e w' => ∃ lv, e = .returned lv ∧ Mine w' w.heap.size lv (Sp.rounds (Sp.behindL q.next) (itf (Sp.fn (Sp.behindL q.next)) d0 a : Nat) (Sp.per (Sp.behindL q.next) d0)) ∧ Below w.heap.size w w' := ⟨_, rfl⟩
  rw [← hP]
  have HP := hide hP
  have HW2 : Hid (W2 = (w.alloc (.cells #[.int .i64 q.n, .slice ta q.tail.length tc, .slice na q.next.length nc, .slice ca q.cap.length cc, .slice (some ⟨O, 0, none⟩) q.tail.length q.tail.length, .int .i64 (K : Int)] 68)).alloc (.cells #[.int .i64 s] 3)) := hide (by rw [hW2, hW1])
  have Hs2 := hide hs2
  have HTR : Hid (∀ w' w'', Below (w.heap.size + 2) W2 w' → Below w'.heap.size w' w'' → Below (w.heap.size + 2) W2 w'') := hide fun w' w'' h1 h2 => h1.trans (h2.mono (by have := h1.size; omega))
  have hb0 : Below (w.heap.size + 2) W2 W2.drew := (Below.refl _ _).drew
  clear hP hv hs hW1 hW2 hs1 hs2 hb1 hb12 hb hlb hdb hxl HG hq hw
  generalize Sp.rounds (Sp.behindL q.next) (itf (Sp.fn (Sp.behindL q.next)) d0 a : Nat) (Sp.per (Sp.behindL q.next) d0) = LB at *
  generalize Sp.rounds (Sp.behindL q.next) d0 (Sp.per (Sp.behindL q.next) d0) = LA at *
  generalize itf (Sp.fn (Sp.behindL q.next)) d0 a = xa at *
  generalize Sp.per (Sp.behindL q.next) d0 = p at *
  go_enter Try.func42, Try.ntmps42
  go_upto_region 1 with fail
  rw [← unhide HW2]
  go_cut [7] (fun s7 wx => ∃ rv, s7 = rv ∧ Hid (Ints wx rv LA ∧ Below (w.heap.size + 2) W2 wx))
  case first =>
    refine wp_region_G (fun w' => w'.cell? ⟨w.heap.size, 0, none⟩ = some (.int .i64 q.n) ∧ w'.cell? ⟨w.heap.size, 1, none⟩ = some (.slice ta q.tail.length tc) ∧ w'.cell? ⟨w.heap.size, 2, none⟩ = some (.slice na q.next.length nc) ∧ w'.cell? ⟨w.heap.size, 3, none⟩ = some (.slice ca q.cap.length cc) ∧ w'.cell? ⟨w.heap.size, 4, none⟩ = some (.slice (some ⟨O, 0, none⟩) q.tail.length q.tail.length)) (fun _ => false) (by kernel_rfl) (unhide HS _ hb0).1 (fun hHeld => ?_)
    generalize W2.drew = W3 at *
    refine wpAnyG_take (v := ?_) 0 (by rfl) (by kernel_rfl) (by kernel_rfl) (by kernel_rfl) (by kernel_rfl) (fun _ _ _ h => h) (Or.inl ⟨by rfl, ?_⟩) (by assumption) ?_
    rotate_left
    · (intro w' hSw; (try dsimp only at hSw); (try simp only [List.getElem_toArray, List.getElem_cons_zero]); go_simp; try (with_reducible rfl))
    simp only [Act.put, List.getElem_toArray, List.getElem_cons_zero, List.setIfInBounds_toArray, List.set_cons_zero, List.set_cons_succ]
    refine wpAnyG_take (v := ?_) 1 (by rfl) (by kernel_rfl) (by kernel_rfl) (by kernel_rfl) (by kernel_rfl) (fun _ _ _ h => h) (Or.inl ⟨by rfl, ?_⟩) (by assumption) ?_
    rotate_left
    · (intro w' hSw; (try dsimp only at hSw); (try simp only [List.getElem_toArray, List.getElem_cons_succ, List.getElem_cons_zero]); go_simp; try (with_reducible rfl))
    simp only [Act.put, List.getElem_toArray, List.getElem_cons_succ, List.getElem_cons_zero, List.setIfInBounds_toArray, List.set_cons_zero, List.set_cons_succ]
    refine wpAnyG_take (v := ?_) 2 (by rfl) (by kernel_rfl) (by kernel_rfl) (by kernel_rfl) (by kernel_rfl) (fun _ _ _ h => h) (Or.inl ⟨by rfl, ?_⟩) (by assumption) ?_
    rotate_left
    · (intro w' hSw; (try dsimp only at hSw); (try simp only [List.getElem_toArray, List.getElem_cons_succ, List.getElem_cons_zero]); go_simp; try (with_reducible rfl))
    simp only [Act.put, List.getElem_toArray, List.getElem_cons_succ, List.getElem_cons_zero, List.setIfInBounds_toArray, List.set_cons_zero, List.set_cons_succ]
    refine wpAnyG_take (v := ?_) 3 (by rfl) (by kernel_rfl) (by kernel_rfl) (by kernel_rfl) (by kernel_rfl) (fun _ _ _ h => h) (Or.inl ⟨by rfl, ?_⟩) (by assumption) ?_
    rotate_left
    · (intro w' hSw; (try dsimp only at hSw); (try simp only [List.getElem_toArray, List.getElem_cons_succ, List.getElem_cons_zero]); go_simp; try (with_reducible rfl))
    simp only [Act.put, List.getElem_toArray, List.getElem_cons_succ, List.getElem_cons_zero, List.setIfInBounds_toArray, List.set_cons_zero, List.set_cons_succ]
    refine wpAnyG_take (v := ?_) 4 (by rfl) (by kernel_rfl) (by kernel_rfl) (by kernel_rfl) (by kernel_rfl) (fun _ _ _ h => h) (Or.inl ⟨by rfl, ?_⟩) (by assumption) ?_
    rotate_left
    · (intro w' hSw; (try dsimp only at hSw); (try simp only [List.getElem_toArray, List.getElem_cons_succ, List.getElem_cons_zero]); go_simp; try (with_reducible rfl))
    simp only [Act.put, List.getElem_toArray, List.getElem_cons_succ, List.getElem_cons_zero, List.setIfInBounds_toArray, List.set_cons_zero, List.set_cons_succ]
    refine wpAnyG_ready [5] (by kernel_rfl) (by simp) ?_
    refine AllReadyG.cons 5 (by rfl) (fun K hK => ?_) ?_
    · simp only [List.getElem_toArray, List.getElem_cons_succ, List.getElem_cons_zero]
      go_simp
      go_at_call 53
      refine (unhide HIx _ hb0).mono ?_
      rintro e w4 ⟨rfl, rfl⟩
      refine hK.out _ _ (unhide HS _ hb0).1 (fun _ => ?_)
      clear hK K
      try simp only [Act.put, List.setIfInBounds_toArray, List.set_cons_zero, List.set_cons_succ]
      refine wpAnyG_ready [6] (by kernel_rfl) (by simp) ?_
      refine AllReadyG.cons 6 (by rfl) (fun K hK => ?_) ?_
      · simp only [List.getElem_toArray, List.getElem_cons_succ, List.getElem_cons_zero]
        go_simp
        go_at_call 52
        refine (unhide HF1 _ hb0).mono ?_
        rintro e w5 ⟨rv, rfl, hr5, hl5⟩
        have hb5 := unhide HTR _ _ hb0 hl5
        refine hK.out _ _ (unhide HS _ hb5).1 (fun _ => ?_)
        clear hK K
        try simp only [Act.put, List.setIfInBounds_toArray, List.set_cons_zero, List.set_cons_succ]
        refine wpAnyG_take (v := ?_) 7 (by rfl) (by kernel_rfl) (by kernel_rfl) (by kernel_rfl) (by kernel_rfl) (fun _ _ _ h => h) (Or.inl ⟨by rfl, ?_⟩) (by assumption) ?_
        rotate_left
        · (intro w' hSw; (try dsimp only at hSw); (try simp only [List.getElem_toArray, List.getElem_cons_succ, List.getElem_cons_zero]); go_simp; try (with_reducible rfl))
        simp only [Act.put, List.getElem_toArray, List.getElem_cons_succ, List.getElem_cons_zero, List.setIfInBounds_toArray, List.set_cons_zero, List.set_cons_succ]
        refine wpAnyG_done (by kernel_rfl) ?_ _
        refine NoPanic.normal ?_
        go_wp2
        go_meet
        exact ⟨_, rfl, hide ⟨hr5.ints, hb5⟩⟩
      exact AllReadyG.nil
    exact AllReadyG.nil
  case rest =>
    obtain ⟨wP, rfl⟩ : ∃ wP, wP = wc := ⟨_, rfl⟩
    obtain ⟨rv, rfl, HL⟩ := hcut
    obtain ⟨lb, lo, lc, hve, -, -⟩ := (unhide HL).1.openP (by rw [unhide HLl]; omega)
    rw [unhide HLl] at hve
    subst hve
    clear hb0
    go_wp2_with fail
    go_at_call 54
    refine (unhide HIF wP _ (unhide HL).2 (unhide HL).1).mono ?_
    rintro e w6 ⟨rfl, hl6⟩
    have hc6 := ((unhide HL).1.below hl6).cellD a (by rw [unhide HLl]; exact hap)
    rw [unhide HGa] at hc6
    have hb6 := unhide HTR _ _ (unhide HL).2 hl6
    have hls6 : lb < w6.heap.size := by
      have h := World.block_lt_of_cell? _ _ hc6
      exact h
    have HS3 : Hid (∀ w', Below w6.heap.size w6 w' → (w'.cell? ⟨w.heap.size, 0, none⟩ = some (.int .i64 q.n) ∧ w'.cell? ⟨w.heap.size, 1, none⟩ = some (.slice ta q.tail.length tc) ∧ w'.cell? ⟨w.heap.size, 2, none⟩ = some (.slice na q.next.length nc) ∧ w'.cell? ⟨w.heap.size, 3, none⟩ = some (.slice ca q.cap.length cc) ∧ w'.cell? ⟨w.heap.size, 4, none⟩ = some (.slice (some ⟨O, 0, none⟩) q.tail.length q.tail.length)) ∧ w'.cell? ⟨lb, lo + a, none⟩ = some (.int .i64 (xa : Int))) := hide fun w' hbb => ⟨(unhide HS w' (unhide HTR _ _ hb6 hbb)).1, (hbb.cell (by exact hls6)).trans hc6⟩
    have hapI : (a : Int) < (p : Int) := by omega
    clear hl6 HL hc6 hls6
    go_upto_region 3 with fail
    have hb6d : Below w6.heap.size w6 w6.drew := (Below.refl _ _).drew
    refine wp_region_G (fun w' => (w'.cell? ⟨w.heap.size, 0, none⟩ = some (.int .i64 q.n) ∧ w'.cell? ⟨w.heap.size, 1, none⟩ = some (.slice ta q.tail.length tc) ∧ w'.cell? ⟨w.heap.size, 2, none⟩ = some (.slice na q.next.length nc) ∧ w'.cell? ⟨w.heap.size, 3, none⟩ = some (.slice ca q.cap.length cc) ∧ w'.cell? ⟨w.heap.size, 4, none⟩ = some (.slice (some ⟨O, 0, none⟩) q.tail.length q.tail.length)) ∧ w'.cell? ⟨lb, lo + a, none⟩ = some (.int .i64 (xa : Int))) (fun _ => false) (by kernel_rfl) (unhide HS3 _ hb6d) (fun hHeld => ?_)
    have hb6' := unhide HTR _ _ hb6 hb6d
    generalize w6.drew = w7 at *
    refine wpAnyG_take (v := ?_) 0 (by rfl) (by kernel_rfl) (by kernel_rfl) (by kernel_rfl) (by kernel_rfl) (fun _ _ _ h => h) (Or.inl ⟨by rfl, ?_⟩) (by assumption) ?_
    rotate_left
    · (intro w' hSw; (try dsimp only at hSw); (try simp only [List.getElem_toArray, List.getElem_cons_zero]); go_simp; try (with_reducible rfl))
    simp only [Act.put, List.getElem_toArray, List.getElem_cons_zero, List.setIfInBounds_toArray, List.set_cons_zero, List.set_cons_succ]
    refine wpAnyG_take (v := ?_) 1 (by rfl) (by kernel_rfl) (by kernel_rfl) (by kernel_rfl) (by kernel_rfl) (fun _ _ _ h => h) (Or.inl ⟨by rfl, ?_⟩) (by assumption) ?_
    rotate_left
    · (intro w' hSw; (try dsimp only at hSw); (try simp only [List.getElem_toArray, List.getElem_cons_succ, List.getElem_cons_zero]); go_simp; try (with_reducible rfl))
    simp only [Act.put, List.getElem_toArray, List.getElem_cons_succ, List.getElem_cons_zero, List.setIfInBounds_toArray, List.set_cons_zero, List.set_cons_succ]
    refine wpAnyG_take (v := ?_) 2 (by rfl) (by kernel_rfl) (by kernel_rfl) (by kernel_rfl) (by kernel_rfl) (fun _ _ _ h => h) (Or.inl ⟨by rfl, ?_⟩) (by assumption) ?_
    rotate_left
    · (intro w' hSw; (try dsimp only at hSw); (try simp only [List.getElem_toArray, List.getElem_cons_succ, List.getElem_cons_zero]); go_simp; try (with_reducible rfl))
    simp only [Act.put, List.getElem_toArray, List.getElem_cons_succ, List.getElem_cons_zero, List.setIfInBounds_toArray, List.set_cons_zero, List.set_cons_succ]
    refine wpAnyG_take (v := ?_) 3 (by rfl) (by kernel_rfl) (by kernel_rfl) (by kernel_rfl) (by kernel_rfl) (fun _ _ _ h => h) (Or.inl ⟨by rfl, ?_⟩) (by assumption) ?_
    rotate_left
    · (intro w' hSw; (try dsimp only at hSw); (try simp only [List.getElem_toArray, List.getElem_cons_succ, List.getElem_cons_zero]); go_simp; try (with_reducible rfl))
    simp only [Act.put, List.getElem_toArray, List.getElem_cons_succ, List.getElem_cons_zero, List.setIfInBounds_toArray, List.set_cons_zero, List.set_cons_succ]
    refine wpAnyG_take (v := ?_) 4 (by rfl) (by kernel_rfl) (by kernel_rfl) (by kernel_rfl) (by kernel_rfl) (fun _ _ _ h => h) (Or.inl ⟨by rfl, ?_⟩) (by assumption) ?_
    rotate_left
    · (intro w' hSw; (try dsimp only at hSw); (try simp only [List.getElem_toArray, List.getElem_cons_succ, List.getElem_cons_zero]); go_simp; try (with_reducible rfl))
    simp only [Act.put, List.getElem_toArray, List.getElem_cons_succ, List.getElem_cons_zero, List.setIfInBounds_toArray, List.set_cons_zero, List.set_cons_succ]
    refine wpAnyG_take (v := ?_) 5 (by rfl) (by kernel_rfl) (by kernel_rfl) (by kernel_rfl) (by kernel_rfl) (fun _ _ _ h => h) (Or.inl ⟨by rfl, ?_⟩) (by assumption) ?_
    rotate_left
    · (intro w' hSw; (try dsimp only at hSw); (try simp only [List.getElem_toArray, List.getElem_cons_succ, List.getElem_cons_zero]); go_simp; try (with_reducible rfl))
    simp only [Act.put, List.getElem_toArray, List.getElem_cons_succ, List.getElem_cons_zero, List.setIfInBounds_toArray, List.set_cons_zero, List.set_cons_succ]
    refine wpAnyG_ready [6] (by kernel_rfl) (by simp) ?_
    refine AllReadyG.cons 6 (by rfl) (fun K hK => ?_) ?_
    · simp only [List.getElem_toArray, List.getElem_cons_succ, List.getElem_cons_zero]
      go_simp
      go_at_call 52
      refine (unhide HF2 _ hb6').mono ?_
      rintro e w8 ⟨rv, rfl, hr8, hl8⟩
      have hb8 := unhide HTR _ _ hb6' hl8
      refine hK.out _ _ (unhide HS3 _ (hb6d.trans (hl8.mono hb6d.size))) (fun _ => ?_)
      clear hK K
      try simp only [Act.put, List.setIfInBounds_toArray, List.set_cons_zero, List.set_cons_succ]
      refine wpAnyG_take (v := ?_) 7 (by rfl) (by kernel_rfl) (by kernel_rfl) (by kernel_rfl) (by kernel_rfl) (fun _ _ _ h => h) (Or.inl ⟨by rfl, ?_⟩) (by assumption) ?_
      rotate_left
      · (intro w' hSw; (try dsimp only at hSw); (try simp only [List.getElem_toArray, List.getElem_cons_succ, List.getElem_cons_zero]); go_simp; try (with_reducible rfl))
      simp only [Act.put, List.getElem_toArray, List.getElem_cons_succ, List.getElem_cons_zero, List.setIfInBounds_toArray, List.set_cons_zero, List.set_cons_succ]
      refine wpAnyG_done (by kernel_rfl) ?_ _
      refine NoPanic.normal ?_
      go_wp2
      rw [unhide HP]
      exact ⟨_, rfl, hr8.base (by have := hb6'.size; have := unhide Hs2; omega), unhide HW _ hb8⟩
    exact AllReadyG.nil
end Go.Proofs.Ytoegjnolccabjab


/- Rows that may be written over; two nets in blocks of their own. -/
namespace Go.Proofs.Ytoegjnolccabjab
open Go Go.RowKit

/-- Cells that may be written. -/
def Open' (w : World) (g o n : Nat) : Prop := ∀ j, j < n → ∃ v, w.cell? ⟨g, o + j, none⟩ = some v ∧ w.frozen? ⟨g, o + j, none⟩ = false
theorem Open'.set {w : World} {g o n : Nat} (h : Open' w g o n) (a : Addr) (x : Value) : Open' (w.setCell a x) g o n := fun j hj => by
  obtain ⟨v, h1, h2⟩ := h j hj
  obtain ⟨v', h3⟩ := cell?_setCell_some (p := a) (x := x) h1
  exact ⟨v', h3, by simpa using h2⟩
theorem Open'.dn {w : World} {g o n : Nat} (h : Open' w g o n) (k : Nat) : Open' (w.drewN k) g o n := fun j hj => h j hj
theorem mine_open {w : World} {B : Nat} {v : Value} {l : List Int} (h : Mine w B v l) (hl : 0 < l.length) : ∃ g o c, v = .slice (some ⟨g, o, none⟩) l.length c ∧ B ≤ g ∧ l.length ≤ c ∧ c ≤ maxLen ∧ Open' w g o l.length := by
  rcases h with ⟨rfl, rfl⟩ | ⟨g, o, c, rfl, hB, hg, hc, hm, hcell⟩
  · simp at hl
  · exact ⟨g, o, c, rfl, hB, hc, hm, fun j hj => ⟨_, (hcell j hj).1, (hcell j hj).2⟩⟩
end Go.Proofs.Ytoegjnolccabjab


