/- What the proof needs, part 22. -/
import Derived.Test.YtoegjnolccabjabL21
/- In a plane net what sums to nothing about each vertex is a rise: of heights of its faces. -/
namespace Go.Proofs.Ytoegjnolccabjab

/-- What sums to nothing about each vertex is a rise of heights that are one about each face. -/
def Sp.Cir (q : Sp.Net) : Prop := ∀ g : Nat → Int, (∀ d, d < q.tail.length → g (Sp.oth d) = - g d) → (∀ v : Int, Sp.sumN (fun d => if q.tail.getD d 0 = v then g d else 0) q.tail.length = 0) →
  ∃ H : Nat → Int, (∀ x, x < q.tail.length → H (Sp.fn (Sp.behindL q.next) x) = H x) ∧ ∀ d, d < q.tail.length → g d = H (Sp.oth d) - H d
/-- Heights that are one about each face: the rise sums to nothing about each vertex. -/
theorem Sp.PlaneQ.vzero {q : Sp.Net} {i : Nat} (hq : Sp.PlaneQ q i) {H : Nat → Int} (h : ∀ x, x < q.tail.length → H (Sp.fn (Sp.behindL q.next) x) = H x) (v : Int) :
    Sp.sumN (fun d => if q.tail.getD d 0 = v then H (Sp.oth d) - H d else 0) q.tail.length = 0 := by
  have e : Sp.sumN (fun d => if q.tail.getD d 0 = v then H (Sp.oth d) - H d else 0) q.tail.length = Sp.sumN (fun d => (if q.tail.getD (Sp.fn q.next d) 0 = v then H (Sp.fn q.next d) else 0) - (if q.tail.getD d 0 = v then H d else 0)) q.tail.length :=
    Sp.sumN_congr _ fun d hd => by
      have ho := oth_lt hd hq.ev
      have h1 := h _ ho
      rw [fn_behind _ _ (by rw [hq.nx]; exact ho), oth_oth] at h1
      have h2 : q.tail.getD (Sp.fn q.next d) 0 = q.tail.getD d 0 := hq.tn d (by rw [hq.nx]; exact hd)
      rw [h2, h1]
      by_cases e : q.tail.getD d 0 = v
      · rw [if_pos e, if_pos e, if_pos e]
      · rw [if_neg e, if_neg e, if_neg e]; rfl
  rw [e, Sp.sumN_sub, Sp.sumN_perm (f := Sp.fn q.next) (g := fun j => if q.tail.getD j 0 = v then H j else 0) hq.mpN (fun i j hi hj e => ?_) (fun j hj => ?_)]
  · omega
  · exact hq.pm.fnP.inj i j (by rw [hq.nx]; exact hi) (by rw [hq.nx]; exact hj) e
  · obtain ⟨i, h1, h2⟩ := Sp.perm_onto hq.pm (d := j) (by rw [hq.nx]; exact hj)
    exact ⟨i, by rw [hq.nx] at h1; exact h1, h2⟩
theorem Sp.Cir.loop (c d : Int) : Sp.Cir ⟨1, [0, 0], [1, 0], [c, d]⟩ := by
  intro g ha hv
  have h0 : g 1 = - g 0 := ha 0 (by show 0 < 2; omega)
  refine ⟨fun x => if x = 0 then 0 else g 0, fun x hx => ?_, fun d hd => ?_⟩
  · have hx' : x < 2 := hx
    rcases (show x = 0 ∨ x = 1 by omega) with rfl | rfl
    · rfl
    · rfl
  · have hd' : d < 2 := hd
    rcases (show d = 0 ∨ d = 1 by omega) with rfl | rfl
    · show g 0 = g 0 - 0; omega
    · show g 1 = 0 - g 0; omega
theorem Sp.Cir.edge (c d : Int) : Sp.Cir ⟨2, [0, 1], [0, 1], [c, d]⟩ := by
  intro g ha hv
  have h0 : g 1 = - g 0 := ha 0 (by show 0 < 2; omega)
  have h1 : 0 + g 0 + 0 = 0 := hv 0
  refine ⟨fun _ => 0, fun x hx => rfl, fun d hd => ?_⟩
  have hd' : d < 2 := hd
  rcases (show d = 0 ∨ d = 1 by omega) with rfl | rfl
  · show g 0 = 0 - 0; omega
  · show g 1 = 0 - 0; omega
theorem Sp.Cir.growN {q : Sp.Net} {i : Nat} (hq : Sp.PlaneQ q i) (h : Sp.Cir q) (e : Nat) (he : e < q.tail.length) (c d : Int) : Sp.Cir (Sp.growN q e c d) := by
  intro g ha hv
  have hL : (Sp.growN q e c d).tail.length = q.tail.length + 2 := by simp [Sp.growN]
  have ht : ∀ x, x < q.tail.length + 2 → (Sp.growN q e c d).tail.getD x 0 = if x < q.tail.length then q.tail.getD x 0 else if x = q.tail.length then q.tail.getD e 0 else q.n := fun x hx => app2_get _ _ _ _ hx
  have t0 : (Sp.growN q e c d).tail.getD q.tail.length 0 = q.tail.getD e 0 := by rw [ht _ (by omega), if_neg (by omega), if_pos rfl]
  have t1 : (Sp.growN q e c d).tail.getD (q.tail.length + 1) 0 = q.n := by rw [ht _ (by omega), if_neg (by omega), if_neg (by omega)]
  have hen : e < q.next.length := by rw [hq.nx]; exact he
  have hevn : q.next.length % 2 = 0 := by rw [hq.nx]; exact hq.ev
  have hoe := oth_lt he hq.ev
  have o := oth_new hq.ev
  have htb := hq.tb _ (Sp.getD_mem he)
  rw [hL] at ha hv ⊢
  have hn : g (q.tail.length + 1) = 0 := by
    have h1 := hv q.n
    rw [Sp.sumN, Sp.sumN] at h1
    rw [Sp.sumN_congr q.tail.length (g := fun d_1 => if (Sp.growN q e c d).tail.getD d_1 0 = q.n then g d_1 else 0) (h := fun _ => 0) (fun x hx => by
      show (if (Sp.growN q e c d).tail.getD x 0 = q.n then g x else 0) = 0
      have hb := hq.tb _ (Sp.getD_mem hx)
      rw [ht x (by omega), if_pos hx, if_neg (by omega)]), Sp.sumN_zero, t0, t1, if_pos rfl] at h1
    rw [if_neg (by omega)] at h1
    omega
  have hL0 : g q.tail.length = 0 := by
    have h1 := ha q.tail.length (by omega)
    rw [o.1] at h1
    omega
  obtain ⟨H, h1, h2⟩ := h g (fun d hd => ha d (by omega)) (fun v => by
    have h3 := hv v
    rw [Sp.sumN, Sp.sumN, hL0, hn, ite_self, ite_self] at h3
    rw [← Sp.sumN_congr q.tail.length (g := fun d_1 => if (Sp.growN q e c d).tail.getD d_1 0 = v then g d_1 else 0) (fun x hx => by
      show (if (Sp.growN q e c d).tail.getD x 0 = v then g x else 0) = _
      rw [ht x (by omega), if_pos hx])]
    omega)
  have hbm := hq.pmB.mp
  refine ⟨fun x => if x < q.tail.length then H x else H (Sp.oth e), fun x hx => ?_, fun d' hd => ?_⟩
  · have hB := behind_new hen hevn x (by rw [hq.nx]; exact hx)
    rw [hq.nx] at hB
    have hB' : Sp.fn (Sp.behindL (Sp.growN q e c d).next) x = insF (q.tail.length + 1) q.tail.length (insF q.tail.length (Sp.oth e) (Sp.fn (Sp.behindL q.next))) x := hB
    rw [hB']
    unfold insF
    by_cases e1 : x = q.tail.length
    · rw [if_pos e1]
      show (if q.tail.length + 1 < q.tail.length then _ else _) = if x < q.tail.length then _ else _
      rw [if_neg (by omega), if_neg (by omega)]
    · rw [if_neg e1]
      by_cases e2 : x = q.tail.length + 1
      · rw [if_pos e2, if_neg (by omega), if_pos rfl]
        show (if Sp.fn (Sp.behindL q.next) (Sp.oth e) < q.tail.length then _ else _) = if x < q.tail.length then _ else _
        rw [if_pos (hbm _ hoe), if_neg (by omega), h1 _ hoe]
      · rw [if_neg e2]
        have hxl : x < q.tail.length := by omega
        by_cases e3 : x = Sp.oth e
        · rw [if_pos e3]
          show (if q.tail.length < q.tail.length then _ else _) = if x < q.tail.length then _ else _
          rw [if_neg (by omega), if_pos hxl, e3]
        · rw [if_neg e3, if_neg e1]
          show (if Sp.fn (Sp.behindL q.next) x < q.tail.length then _ else _) = if x < q.tail.length then _ else _
          rw [if_pos (hbm _ hxl), if_pos hxl, h1 _ hxl]
  · by_cases e1 : d' < q.tail.length
    · show g d' = (if Sp.oth d' < q.tail.length then _ else _) - if d' < q.tail.length then _ else _
      rw [if_pos (oth_lt e1 hq.ev), if_pos e1]
      exact h2 d' e1
    · show g d' = (if Sp.oth d' < q.tail.length then _ else _) - if d' < q.tail.length then _ else _
      rcases (show d' = q.tail.length ∨ d' = q.tail.length + 1 by omega) with rfl | rfl
      · rw [o.1, if_neg (by omega), if_neg (by omega), hL0]; omega
      · rw [o.2, if_neg (by omega), if_neg (by omega), hn]; omega
theorem Sp.Cir.growF {q : Sp.Net} {i : Nat} (hq : Sp.PlaneQ q i) (hp : Sp.Plain q) (h : Sp.Cir q) (e g : Nat) (he : e < q.tail.length) (hg : g < q.tail.length) (c d : Int) (hcc : 0 ≤ c ∧ c ≤ 2147483648) (hdd : 0 ≤ d ∧ d ≤ 2147483648)
    (hs : (Sp.faces2 q).1.getD (q.next.getD g 0).toNat 0 = (Sp.faces2 q).1.getD (q.next.getD e 0).toNat 0) : Sp.Cir (Sp.growF q e g c d) := by
  intro k ha hv
  have hq' := hq.growF e g he hg c d hcc hdd
  have hL : (Sp.growF q e g c d).tail.length = q.tail.length + 2 := by simp [Sp.growF]
  have ht : ∀ x, x < q.tail.length + 2 → (Sp.growF q e g c d).tail.getD x 0 = if x < q.tail.length then q.tail.getD x 0 else if x = q.tail.length then q.tail.getD e 0 else q.tail.getD g 0 := fun x hx => app2_get _ _ _ _ hx
  have t0 : (Sp.growF q e g c d).tail.getD q.tail.length 0 = q.tail.getD e 0 := by rw [ht _ (by omega), if_neg (by omega), if_pos rfl]
  have t1 : (Sp.growF q e g c d).tail.getD (q.tail.length + 1) 0 = q.tail.getD g 0 := by rw [ht _ (by omega), if_neg (by omega), if_neg (by omega)]
  have hen : e < q.next.length := by rw [hq.nx]; exact he
  have hgn : g < q.next.length := by rw [hq.nx]; exact hg
  have hevn : q.next.length % 2 = 0 := by rw [hq.nx]; exact hq.ev
  have hoe := oth_lt he hq.ev
  have hog := oth_lt hg hq.ev
  have o := oth_new hq.ev
  have hbm := hq.pmB.mp
  have hk1 := ha q.tail.length (by rw [hL]; omega)
  rw [o.1] at hk1
  by_cases hge : g = e
  · have hnx : (Sp.growF q e g c d).next = Sp.layIn (Sp.layIn (q.next ++ [(q.next.length : Int), ((q.next.length + 1 : Nat) : Int)]) e q.next.length) q.next.length (q.next.length + 1) := by
      unfold Sp.growF
      rw [hq.nx]
      show Sp.layIn _ (if g = e then _ else g) _ = _
      rw [if_pos hge]
    rw [hL] at ha hv ⊢
    obtain ⟨H, h1, h2⟩ := h k (fun d hd => ha d (by omega)) (fun v => by
      have h3 := hv v
      rw [Sp.sumN, Sp.sumN, t0, t1, hge, hk1] at h3
      rw [← Sp.sumN_congr q.tail.length (g := fun d_1 => if (Sp.growF q e g c d).tail.getD d_1 0 = v then k d_1 else 0) (fun x hx => by
        show (if (Sp.growF q e g c d).tail.getD x 0 = v then k x else 0) = _
        rw [ht x (by omega), if_pos hx])]
      subst hge
      split at h3 <;> omega)
    refine ⟨fun x => if x < q.tail.length then H x else if x = q.tail.length then H (Sp.oth e) else H (Sp.oth e) + k q.tail.length, fun x hx => ?_, fun d' hd => ?_⟩
    · have hB := behind_loop hen hevn x (by rw [hq.nx]; exact hx)
      rw [hnx, hB, hq.nx]
      unfold fixF insF
      show (if (if x = q.tail.length + 1 then _ else _) < q.tail.length then _ else _) = if x < q.tail.length then _ else _
      by_cases e2 : x = q.tail.length + 1
      · rw [if_pos e2, if_neg (by omega), if_neg (by omega), if_neg (by omega), if_neg (by omega)]
      · rw [if_neg e2]
        by_cases e3 : x = Sp.oth e
        · rw [if_pos e3, if_neg (by omega), if_pos rfl, if_pos (by omega), e3]
        · rw [if_neg e3]
          by_cases e1 : x = q.tail.length
          · rw [if_pos e1, if_pos (hbm _ hoe), if_neg (by omega), if_pos e1, h1 _ hoe]
          · have hxl : x < q.tail.length := by omega
            rw [if_neg e1, if_pos (hbm _ hxl), if_pos hxl, h1 _ hxl]
    · show k d' = (if Sp.oth d' < q.tail.length then _ else _) - if d' < q.tail.length then _ else _
      by_cases e1 : d' < q.tail.length
      · rw [if_pos (oth_lt e1 hq.ev), if_pos e1]
        exact h2 d' e1
      · rcases (show d' = q.tail.length ∨ d' = q.tail.length + 1 by omega) with rfl | rfl
        · rw [o.1, if_neg (by omega), if_neg (by omega), if_neg (by omega), if_pos rfl]; omega
        · rw [o.2, if_neg (by omega), if_pos rfl, if_neg (by omega), if_neg (by omega), hk1]; omega
  · have hnx : (Sp.growF q e g c d).next = Sp.layIn (Sp.layIn (q.next ++ [(q.next.length : Int), ((q.next.length + 1 : Nat) : Int)]) e q.next.length) g (q.next.length + 1) := by
      unfold Sp.growF
      rw [hq.nx]
      show Sp.layIn _ (if g = e then _ else g) _ = _
      rw [if_neg hge]
    have hoge : Sp.oth g ≠ Sp.oth e := fun h => hge (oth_inj h)
    have hBf : ∀ x, x < q.tail.length + 2 → Sp.fn (Sp.behindL (Sp.growF q e g c d).next) x = swpF q.tail.length (q.tail.length + 1) (insF (q.tail.length + 1) (Sp.oth g) (insF q.tail.length (Sp.oth e) (Sp.fn (Sp.behindL q.next)))) x := fun x hx => by
      have := behind_across hen hgn hge hevn x (by rw [hq.nx]; exact hx)
      rw [hq.nx] at this
      rw [hnx, hq.nx]
      exact this
    obtain ⟨lab, F, hf, he2⟩ := hp.face
    have hmpB := insF_mp hbm hoe
    have hsame : lab (Sp.oth e) = lab (Sp.oth g) := by
      have hc := (Sp.faces2_st hq.pm hq.nx hq.ev).cls
      rw [Sp.behindL_len, hq.nx] at hc
      have fe : Sp.fn (Sp.behindL q.next) (Sp.oth e) = (q.next.getD e 0).toNat := by rw [fn_behind _ _ (by rw [hq.nx]; exact hoe), oth_oth]; rfl
      have fg : Sp.fn (Sp.behindL q.next) (Sp.oth g) = (q.next.getD g 0).toNat := by rw [fn_behind _ _ (by rw [hq.nx]; exact hog), oth_oth]; rfl
      have a1 := hbm _ hoe
      have a2 := hbm _ hog
      have ho := hc.sep _ _ a1 a2 (by rw [fe, fg, hs])
      have := hf.orb hbm a1 ho
      rw [hf.inv _ hoe, hf.inv _ hog] at this
      exact this
    have hc2 := (hf.ins hbm hoe).ins hmpB (u := Sp.oth g) (by omega)
    have hp2 := insF_perm (insF_perm hq.pmB hoe) (u := Sp.oth g) (by omega)
    have horb := hc2.sep q.tail.length (q.tail.length + 1) (by omega) (by omega) (by
      show (if q.tail.length = q.tail.length + 1 then _ else if q.tail.length = q.tail.length then lab (Sp.oth e) else _) = if q.tail.length + 1 = q.tail.length + 1 then (if Sp.oth g = q.tail.length then lab (Sp.oth e) else lab (Sp.oth g)) else _
      rw [if_neg (by omega), if_pos rfl, if_pos rfl, if_neg (by omega), hsame])
    obtain ⟨lab3, hc3⟩ := hc2.split hp2 (by omega) (by omega) (by omega) horb
    have hp3 := swpF_perm hp2 (u := q.tail.length) (v := q.tail.length + 1) (by omega) (by omega)
    have hne : lab3 q.tail.length ≠ lab3 (q.tail.length + 1) := fun hh => by
      obtain ⟨lab4, hc4⟩ := hc3.split hp3 (by omega) (by omega) (by omega) (hc3.sep _ _ (by omega) (by omega) hh)
      have h5 := hc4.congr (f' := insF (q.tail.length + 1) (Sp.oth g) (insF q.tail.length (Sp.oth e) (Sp.fn (Sp.behindL q.next)))) (swpF_perm hp3 (by omega) (by omega)).mp (fun x _ => by
        generalize insF (q.tail.length + 1) (Sp.oth g) (insF q.tail.length (Sp.oth e) (Sp.fn (Sp.behindL q.next))) = f2
        unfold swpF
        by_cases x1 : x = q.tail.length
        · rw [if_pos x1, if_neg (by omega), if_pos rfl, x1]
        · rw [if_neg x1]
          by_cases x2 : x = q.tail.length + 1
          · rw [if_pos x2, if_pos rfl, x2]
          · rw [if_neg x2, if_neg x1, if_neg x2]) (fun x _ => rfl)
      have := hc2.count hp2.mp h5
      omega
    have hB3 : ∀ x, x < q.tail.length + 2 → lab3 (Sp.fn (Sp.behindL (Sp.growF q e g c d).next) x) = lab3 x := fun x hx => by rw [hBf x hx]; exact hc3.inv x hx
    obtain ⟨R, hR⟩ : ∃ R : Nat → Int, (fun x => if lab3 x = lab3 (q.tail.length + 1) then k q.tail.length else 0) = R := ⟨_, rfl⟩
    have hvz := hq'.vzero (H := R) (fun x hx => by
      rw [← hR]
      show (if lab3 _ = _ then _ else _) = if lab3 x = _ then _ else _
      rw [hB3 x (by omega)])
    rw [hL] at ha hv hvz ⊢
    have hRL : R q.tail.length = 0 := by rw [← hR]; exact if_neg hne
    have hRL1 : R (q.tail.length + 1) = k q.tail.length := by rw [← hR]; exact if_pos rfl
    have hRb : ∀ x, x < q.tail.length + 2 → R (Sp.fn (Sp.behindL (Sp.growF q e g c d).next) x) = R x := fun x hx => by
      rw [← hR]
      show (if lab3 _ = _ then _ else _) = if lab3 x = _ then _ else _
      rw [hB3 x hx]
    obtain ⟨H, h1, h2⟩ := h (fun x => k x - (R (Sp.oth x) - R x)) (fun d hd => by
        show k (Sp.oth d) - (R (Sp.oth (Sp.oth d)) - R (Sp.oth d)) = -(k d - (R (Sp.oth d) - R d))
        have := ha d (by omega)
        rw [oth_oth]
        omega) (fun v => by
      have h3 := hv v
      have h4 := hvz v
      have h5 := Sp.sumN_sub (fun d_1 => if (Sp.growF q e g c d).tail.getD d_1 0 = v then k d_1 else 0) (fun d_1 => if (Sp.growF q e g c d).tail.getD d_1 0 = v then R (Sp.oth d_1) - R d_1 else 0) (q.tail.length + 2)
      rw [h3, h4] at h5
      rw [Sp.sumN, Sp.sumN, o.1, o.2, hRL, hRL1, hk1] at h5
      have e1 : ∀ (p : Prop) [Decidable p], (if p then k q.tail.length else 0) - (if p then k q.tail.length - 0 else 0) = 0 := fun p _ => by split <;> omega
      have e2 : ∀ (p : Prop) [Decidable p], (if p then -k q.tail.length else 0) - (if p then 0 - k q.tail.length else 0) = 0 := fun p _ => by split <;> omega
      rw [e1, e2] at h5
      rw [← Sp.sumN_congr q.tail.length (g := fun d_1 => (if (Sp.growF q e g c d).tail.getD d_1 0 = v then k d_1 else 0) - (if (Sp.growF q e g c d).tail.getD d_1 0 = v then R (Sp.oth d_1) - R d_1 else 0)) (fun x hx => by
        show (if (Sp.growF q e g c d).tail.getD x 0 = v then k x else 0) - (if (Sp.growF q e g c d).tail.getD x 0 = v then R (Sp.oth x) - R x else 0) = _
        rw [ht x (by omega), if_pos hx]
        split <;> omega)]
      omega)
    have hH : ∀ x, x < q.tail.length → ∀ m, itf (Sp.fn (Sp.behindL q.next)) x m < q.tail.length ∧ H (itf (Sp.fn (Sp.behindL q.next)) x m) = H x := fun x hx m => by
      induction m with
      | zero => exact ⟨hx, rfl⟩
      | succ m ih =>
        refine ⟨hbm _ ih.1, ?_⟩
        show H (Sp.fn (Sp.behindL q.next) _) = _
        rw [h1 _ ih.1, ih.2]
    have hHge : H (Sp.oth e) = H (Sp.oth g) := by
      obtain ⟨m, hm⟩ := hf.sep _ _ hoe hog hsame
      rw [← hm, (hH _ hoe m).2]
    refine ⟨fun x => (if x < q.tail.length then H x else H (Sp.oth e)) + R x, fun x hx => ?_, fun d' hd => ?_⟩
    · show (if Sp.fn _ x < q.tail.length then _ else _) + R (Sp.fn _ x) = (if x < q.tail.length then _ else _) + R x
      rw [hRb x hx, hBf x hx]
      congr 1
      have f2L1 : insF (q.tail.length + 1) (Sp.oth g) (insF q.tail.length (Sp.oth e) (Sp.fn (Sp.behindL q.next))) (q.tail.length + 1) = Sp.fn (Sp.behindL q.next) (Sp.oth g) := by
        unfold insF
        rw [if_neg (show ¬ q.tail.length + 1 = Sp.oth g by omega), if_pos rfl, if_neg hoge, if_neg (show ¬ Sp.oth g = q.tail.length by omega)]
      have f2L : insF (q.tail.length + 1) (Sp.oth g) (insF q.tail.length (Sp.oth e) (Sp.fn (Sp.behindL q.next))) q.tail.length = Sp.fn (Sp.behindL q.next) (Sp.oth e) := by
        unfold insF
        rw [if_neg (show ¬ q.tail.length = Sp.oth g by omega), if_neg (show ¬ q.tail.length = q.tail.length + 1 by omega), if_neg (show ¬ q.tail.length = Sp.oth e by omega), if_pos rfl]
      unfold swpF
      by_cases x1 : x = q.tail.length
      · rw [if_pos x1, f2L1, if_pos (hbm _ hog), if_neg (show ¬ x < q.tail.length by omega), h1 _ hog, hHge]
      · rw [if_neg x1]
        by_cases x2 : x = q.tail.length + 1
        · rw [if_pos x2, f2L, if_pos (hbm _ hoe), if_neg (show ¬ x < q.tail.length by omega), h1 _ hoe]
        · have hxl : x < q.tail.length := by omega
          rw [if_neg x2]
          unfold insF
          by_cases x3 : x = Sp.oth g
          · rw [if_pos x3, if_neg (show ¬ q.tail.length + 1 < q.tail.length by omega), if_pos hxl, x3, hHge]
          · rw [if_neg x3]
            by_cases x4 : x = Sp.oth e
            · rw [if_neg x2, if_pos x4, if_neg (show ¬ q.tail.length < q.tail.length by omega), if_pos hxl, x4]
            · rw [if_neg x2, if_neg x4, if_neg x1, if_pos (hbm _ hxl), if_pos hxl, h1 _ hxl]
    · show k d' = ((if Sp.oth d' < q.tail.length then _ else _) + R (Sp.oth d')) - ((if d' < q.tail.length then _ else _) + R d')
      by_cases e1 : d' < q.tail.length
      · rw [if_pos (oth_lt e1 hq.ev), if_pos e1]
        have h3 : k d' - (R (Sp.oth d') - R d') = H (Sp.oth d') - H d' := h2 d' e1
        omega
      · rcases (show d' = q.tail.length ∨ d' = q.tail.length + 1 by omega) with rfl | rfl
        · rw [o.1, if_neg (by omega), if_neg (by omega), hRL, hRL1]; omega
        · rw [o.2, if_neg (by omega), if_neg (by omega), hRL, hRL1, hk1]; omega
end Go.Proofs.Ytoegjnolccabjab


/- What RimFalls asks of the rise: no more than the darts hold; both ends' sums. -/
namespace Go.Proofs.Ytoegjnolccabjab

theorem Sp.rowD {D : Nat → Int} {k x : Nat} (hx : x < k) : ((List.range k).map D).getD x 0 = D x := by
  rw [List.getD_eq_getElem?_getD, List.getElem?_map, List.getElem?_range hx]
  rfl
theorem Sp.rise_oth (F P : List Int) (d : Nat) : Sp.rise F P (Sp.oth d) = - Sp.rise F P d := by
  unfold Sp.rise
  rw [oth_oth]
  omega
theorem Sp.RimQ.rise_le {q : Sp.Net} (h : Sp.RimQ q) {s t : Int} {f d0 a jb : Nat} (hs : Sp.SplitQ q s t f d0 a jb) {D : Nat → Int} (hD : Sp.Short 1152921504606846976 (Sp.rimR (Sp.splitL q f d0 a jb) q.cap q.tail.length) f (Sp.landK q + 1) D) (hb : ∀ v, v < Sp.landK q + 1 → D v ≠ 1152921504606846976 → D v < 1152921504606846976) {d : Nat} (hd : d < q.tail.length) :
    Sp.rise (Sp.splitL q f d0 a jb) ((List.range (Sp.landK q + 1)).map D) d ≤ q.cap.getD d 0 := by
  have r1 := h.rng hs hd
  have r2 := h.rng hs (oth_lt hd h.link.ev)
  have hx : ((Sp.splitL q f d0 a jb).getD d 0).toNat < Sp.landK q + 1 := by omega
  have hy : ((Sp.splitL q f d0 a jb).getD (Sp.oth d) 0).toNat < Sp.landK q + 1 := by omega
  unfold Sp.rise
  rw [Sp.rowD hx, Sp.rowD hy]
  have hc := (h.capd d).1
  by_cases e : D ((Sp.splitL q f d0 a jb).getD d 0).toNat = 1152921504606846976
  · have : D ((Sp.splitL q f d0 a jb).getD (Sp.oth d) 0).toNat ≤ 1152921504606846976 := by
      by_cases e2 : D ((Sp.splitL q f d0 a jb).getD (Sp.oth d) 0).toNat = 1152921504606846976
      · omega
      · have := hb _ hy e2; omega
    omega
  · have h3 := (hD.arc (Sp.rimA (Sp.splitL q f d0 a jb) q.cap d) (Sp.mem_rimR.2 ⟨d, hd, rfl⟩) e).2
    have h4 : D ((Sp.splitL q f d0 a jb).getD (Sp.oth d) 0).toNat ≤ D ((Sp.splitL q f d0 a jb).getD d 0).toNat + q.cap.getD d 0 := h3
    omega
theorem Sp.DualQ.value {q : Sp.Net} (h : Sp.DualQ q) {s t : Int} {f d0 a jb : Nat} (hs : Sp.SplitQ q s t f d0 a jb) (hst : s ≠ t) (hf : f < Sp.landK q) {D : Nat → Int} (h0 : D f = 0) :
    Sp.sumN (fun d => if q.tail.getD d 0 = s then Sp.rise (Sp.splitL q f d0 a jb) ((List.range (Sp.landK q + 1)).map D) d else 0) q.tail.length = D (Sp.landK q) ∧
    Sp.sumN (fun d => if q.tail.getD d 0 = t then Sp.rise (Sp.splitL q f d0 a jb) ((List.range (Sp.landK q + 1)).map D) d else 0) q.tail.length = - D (Sp.landK q) := by
  have hk : max (Sp.faces2 q).2 1 = Sp.landK q := rfl
  constructor
  · rw [h.vsum hs, hk, if_neg (fun e => hst e.symm), if_pos rfl, Sp.rowD (Nat.lt_succ_self _), Sp.rowD (by omega), h0]
    omega
  · rw [h.vsum hs, hk, if_pos rfl, if_neg hst, Sp.rowD (Nat.lt_succ_self _), Sp.rowD (by omega), h0]
    omega
end Go.Proofs.Ytoegjnolccabjab


/- No height is far: the split dual hangs together. -/
namespace Go.Proofs.Ytoegjnolccabjab

theorem Sp.DualQ.near {q : Sp.Net} (h : Sp.DualQ q) (hr : Sp.RimQ q) {s t : Int} {f d0 a jb : Nat} (hs : Sp.SplitQ q s t f d0 a jb) (hst : s ≠ t) {D : Nat → Int} (hD : Sp.Short 1152921504606846976 (Sp.rimR (Sp.splitL q f d0 a jb) q.cap q.tail.length) f (Sp.landK q + 1) D) :
    ∀ v, v < Sp.landK q + 1 → D v ≠ 1152921504606846976 := by
  have hv := h.halves hs
  have hk : max (Sp.faces2 q).2 1 = Sp.landK q := rfl
  have ev := h.link.ev
  have hstep : ∀ d, d < q.tail.length → D ((Sp.splitL q f d0 a jb).getD d 0).toNat ≠ 1152921504606846976 → D ((Sp.splitL q f d0 a jb).getD (Sp.oth d) 0).toNat ≠ 1152921504606846976 := fun d hd hn =>
    (hD.arc (Sp.rimA (Sp.splitL q f d0 a jb) q.cap d) (Sp.mem_rimR.2 ⟨d, hd, rfl⟩) hn).1
  have hf0 : D f ≠ 1152921504606846976 := by rw [hD.src]; decide
  have hfk := hr.flt hs
  -- b is reached: else the row of what is far would be a rise of nothing
  have hK : D (Sp.landK q) ≠ 1152921504606846976 := by
    have hz := h.vsum hs ((List.range (Sp.landK q + 1)).map fun v => if D v = 1152921504606846976 then 1 else 0) s
    rw [hk, if_neg (fun e => hst e.symm), if_pos rfl, Sp.rowD (Nat.lt_succ_self _), Sp.rowD (by omega), if_neg hf0] at hz
    have e0 : Sp.sumN (fun d => if q.tail.getD d 0 = s then Sp.rise (Sp.splitL q f d0 a jb) ((List.range (Sp.landK q + 1)).map fun v => if D v = 1152921504606846976 then 1 else 0) d else 0) q.tail.length = 0 := by
      refine (Sp.sumN_congr _ fun d hd => ?_).trans (Sp.sumN_zero q.tail.length)
      have r1 := hr.rng hs hd
      have r2 := hr.rng hs (oth_lt hd ev)
      have h1 := hstep d hd
      have h2 := hstep (Sp.oth d) (oth_lt hd ev)
      rw [oth_oth] at h2
      have e : Sp.rise (Sp.splitL q f d0 a jb) ((List.range (Sp.landK q + 1)).map fun v => if D v = 1152921504606846976 then 1 else 0) d = 0 := by
        unfold Sp.rise
        rw [Sp.rowD (by omega), Sp.rowD (by omega)]
        by_cases g : D ((Sp.splitL q f d0 a jb).getD d 0).toNat = 1152921504606846976
        · rw [if_pos g, if_pos (Classical.byContradiction fun g2 => h2 g2 g)]; rfl
        · rw [if_neg g, if_neg (h1 g)]; rfl
      rw [e]
      split <;> rfl
    rw [e0] at hz
    intro g
    rw [if_pos g] at hz
    omega
  -- and so is every other face
  have hp := h.plain.conn
  have hnear : ∀ d, d < q.tail.length → D ((Sp.faces2 q).1.getD d 0).toNat ≠ 1152921504606846976 → D ((Sp.faces2 q).1.getD (Sp.oth d) 0).toNat ≠ 1152921504606846976 := fun d hd hn => by
    have ho := oth_lt hd ev
    have h1 : D ((Sp.splitL q f d0 a jb).getD d 0).toNat ≠ 1152921504606846976 := by
      by_cases g : (Sp.faces2 q).1.getD d 0 = (f : Int)
      · rcases hv.inn d hd g with e | e
        · rw [e, Int.toNat_natCast]; exact hf0
        · rw [e, Int.toNat_natCast]; exact hK
      · rw [hv.out d hd g]; exact hn
    have h2 := hstep d hd h1
    by_cases g : (Sp.faces2 q).1.getD (Sp.oth d) 0 = (f : Int)
    · rw [g, Int.toNat_natCast]; exact hf0
    · rw [hv.out _ ho g] at h2; exact h2
  have hlen : (Sp.faces2 q).1.length = q.tail.length := Sp.faces2_len q
  have hall : ∀ u v : Int, Sp.Reach (Sp.faces2 q).1 u v → D u.toNat ≠ 1152921504606846976 → D v.toNat ≠ 1152921504606846976 := fun u v hR hu =>
    Sp.Reach.ind (p := fun v => D v.toNat ≠ 1152921504606846976) hu (fun d hd _ hn => hnear d (by rw [← hlen]; exact hd) hn) hR
  intro v hv2
  by_cases e : v = Sp.landK q
  · rw [e]; exact hK
  · have hvK : v < Sp.landK q := by omega
    have c1 : Sp.Reach (Sp.faces2 q).1 0 (v : Int) := hp (v : Int) (by omega) (by show (v : Int) < ((max (Sp.faces2 q).2 1 : Nat) : Int); rw [hk]; omega)
    have c2 : Sp.Reach (Sp.faces2 q).1 0 (f : Int) := hp (f : Int) (by omega) (by show (f : Int) < ((max (Sp.faces2 q).2 1 : Nat) : Int); rw [hk]; omega)
    have c3 := (c2.symm (by rw [hlen]; exact ev)).trans c1
    have := hall _ _ c3 (by rw [Int.toNat_natCast]; exact hf0)
    rwa [Int.toNat_natCast] at this
end Go.Proofs.Ytoegjnolccabjab


/- Heights that rise no more than is held are no bound above the shortest ways; with more held they are no lower. -/
namespace Go.Proofs.Ytoegjnolccabjab

theorem Sp.wk_ub {L : List Sp.Arc} {s : Nat} {P : Nat → Int} (hp : ∀ a ∈ L, P a.t ≤ P a.f + a.l) : ∀ m v x, Sp.Wk L s m v x → P v ≤ P s + x
  | 0, v, x, hw => by
    obtain ⟨rfl, rfl⟩ := hw
    omega
  | m + 1, v, x, ⟨a, ha, e, hw⟩ => by
    have h1 := Sp.wk_ub hp m a.f _ hw
    have h2 := hp a ha
    rw [e] at h2
    omega
/-- A row of heights whose rises are no more than the darts hold: b lies no higher over a than the shortest way is long. -/
theorem Sp.rise_ub {F C : List Int} {m s n : Nat} {D P : Nat → Int} (hD : Sp.Short 1152921504606846976 (Sp.rimR F C m) s n D) (hp : ∀ d, d < m → P (F.getD (Sp.oth d) 0).toNat - P (F.getD d 0).toNat ≤ C.getD d 0) {v : Nat} (hv : v < n) (hn : D v ≠ 1152921504606846976) : P v - P s ≤ D v := by
  obtain ⟨k, hk⟩ := hD.att v hv hn
  have h := Sp.wk_ub (P := P) (fun a ha => by
    obtain ⟨d, hd, rfl⟩ := Sp.mem_rimR.1 ha
    have := hp d hd
    show P (F.getD (Sp.oth d) 0).toNat ≤ P (F.getD d 0).toNat + C.getD d 0
    omega) k v _ hk
  omega
end Go.Proofs.Ytoegjnolccabjab


/- Every flow of two that share a face is a rise. -/
namespace Go.Proofs.Ytoegjnolccabjab

theorem Sp.DualQ.flow_rise {q : Sp.Net} (h : Sp.DualQ q) (hr : Sp.RimQ q) (hc : Sp.Cir q) {s t : Int} {f d0 a jb : Nat} (hs : Sp.SplitQ q s t f d0 a jb) (hst : s ≠ t) {g : Nat → Int} {x : Int} (ha : ∀ d, d < q.tail.length → g (Sp.oth d) = - g d)
    (hv : ∀ u, u ≠ s → u ≠ t → Sp.sumN (fun d => if q.tail.getD d 0 = u then g d else 0) q.tail.length = 0)
    (hx : Sp.sumN (fun d => if q.tail.getD d 0 = s then g d else 0) q.tail.length = x) (hy : Sp.sumN (fun d => if q.tail.getD d 0 = t then g d else 0) q.tail.length = -x) :
    ∃ P : Nat → Int, P (Sp.landK q) - P f = x ∧ ∀ d, d < q.tail.length → g d = P ((Sp.splitL q f d0 a jb).getD (Sp.oth d) 0).toNat - P ((Sp.splitL q f d0 a jb).getD d 0).toNat := by
  have hh := h.halves hs
  have hev := h.link.ev
  have hkk : max (Sp.faces2 q).2 1 = Sp.landK q := rfl
  have hfK : f < Sp.landK q := by rw [← hkk]; exact hh.fK
  have hbm := (h.fp).fnP.mp
  rw [h.bl] at hbm
  have hvs := fun u => h.vsum hs ((List.range (Sp.landK q + 1)).map fun c => if c = Sp.landK q then x else 0) u
  rw [hkk] at hvs
  have e1 : ((List.range (Sp.landK q + 1)).map fun c => if c = Sp.landK q then x else 0).getD f 0 = 0 := by
    rw [Sp.rowD (D := fun c => if c = Sp.landK q then x else 0) (by omega), if_neg (by omega)]
  have e2 : ((List.range (Sp.landK q + 1)).map fun c => if c = Sp.landK q then x else 0).getD (Sp.landK q) 0 = x := by
    rw [Sp.rowD (D := fun c => if c = Sp.landK q then x else 0) (by omega), if_pos rfl]
  simp only [e1, e2] at hvs
  obtain ⟨H, h1, h2⟩ := hc (fun d => g d - Sp.rise (Sp.splitL q f d0 a jb) ((List.range (Sp.landK q + 1)).map fun c => if c = Sp.landK q then x else 0) d) (fun d hd => by
      show g (Sp.oth d) - Sp.rise _ _ (Sp.oth d) = -(g d - Sp.rise _ _ d)
      rw [Sp.rise_oth, ha d hd]
      omega) (fun u => by
      have e : Sp.sumN (fun d => if q.tail.getD d 0 = u then g d - Sp.rise (Sp.splitL q f d0 a jb) ((List.range (Sp.landK q + 1)).map fun c => if c = Sp.landK q then x else 0) d else 0) q.tail.length = Sp.sumN (fun d => (if q.tail.getD d 0 = u then g d else 0) - (if q.tail.getD d 0 = u then Sp.rise (Sp.splitL q f d0 a jb) ((List.range (Sp.landK q + 1)).map fun c => if c = Sp.landK q then x else 0) d else 0)) q.tail.length :=
        Sp.sumN_congr _ fun d _ => by
          by_cases e : q.tail.getD d 0 = u
          · rw [if_pos e, if_pos e, if_pos e]
          · rw [if_neg e, if_neg e, if_neg e]; rfl
      show Sp.sumN (fun d => if q.tail.getD d 0 = u then g d - Sp.rise (Sp.splitL q f d0 a jb) ((List.range (Sp.landK q + 1)).map fun c => if c = Sp.landK q then x else 0) d else 0) q.tail.length = 0
      rw [e, Sp.sumN_sub, hvs u]
      by_cases es : s = u
      · subst es
        rw [hx, if_neg (fun k => hst k.symm), if_pos rfl]
        omega
      · by_cases et : t = u
        · subst et
          rw [hy, if_pos rfl, if_neg es]
          omega
        · rw [hv u (fun k => es k.symm) (fun k => et k.symm), if_neg et, if_neg es]
          rfl)
  have hFl : ∀ d, d < q.tail.length → 0 ≤ (Sp.faces2 q).1.getD d 0 := fun d hd => (hr.fb d hd).1
  have hH : ∀ y, y < q.tail.length → ∀ m, itf (Sp.fn (Sp.behindL q.next)) y m < q.tail.length ∧ H (itf (Sp.fn (Sp.behindL q.next)) y m) = H y := fun y hy m => by
    induction m with
    | zero => exact ⟨hy, rfl⟩
    | succ m ih =>
      refine ⟨hbm _ ih.1, ?_⟩
      show H (Sp.fn (Sp.behindL q.next) _) = _
      rw [h1 _ ih.1, ih.2]
  have hHf : ∀ i j, i < q.tail.length → j < q.tail.length → (Sp.faces2 q).1.getD i 0 = (Sp.faces2 q).1.getD j 0 → H i = H j := fun i j hi hj e => by
    obtain ⟨m, hm⟩ := h.cls.sep i j hi hj (by rw [e])
    rw [← hm, (hH i hi m).2]
  have hF2 : ∀ i j, i < q.tail.length → j < q.tail.length → (Sp.splitL q f d0 a jb).getD i 0 = (Sp.splitL q f d0 a jb).getD j 0 → (Sp.faces2 q).1.getD i 0 = (Sp.faces2 q).1.getD j 0 := fun i j hi hj e => by
    have l1 := hh.lt i hi
    have l2 := hh.lt j hj
    by_cases fi : (Sp.faces2 q).1.getD i 0 = (f : Int)
    · by_cases fj : (Sp.faces2 q).1.getD j 0 = (f : Int)
      · omega
      · have o2 := hh.out j hj fj
        rcases hh.inn i hi fi with o1 | o1 <;> omega
    · have o1 := hh.out i hi fi
      by_cases fj : (Sp.faces2 q).1.getD j 0 = (f : Int)
      · rcases hh.inn j hj fj with o2 | o2 <;> omega
      · have o2 := hh.out j hj fj
        omega
  have hex : ∀ c : Nat, ∃ y : Int, ∀ d, d < q.tail.length → (Sp.splitL q f d0 a jb).getD d 0 = (c : Int) → y = H d := fun c => by
    by_cases hh : ∃ d, d < q.tail.length ∧ (Sp.splitL q f d0 a jb).getD d 0 = (c : Int)
    · obtain ⟨d, hd, e⟩ := hh
      exact ⟨H d, fun d' hd' e' => hHf d d' hd hd' (hF2 d d' hd hd' (by rw [e, e']))⟩
    · exact ⟨0, fun d hd e => absurd ⟨d, hd, e⟩ hh⟩
  obtain ⟨P2, hP2⟩ := Classical.axiomOfChoice hex
  have hPd : ∀ d, d < q.tail.length → P2 ((Sp.splitL q f d0 a jb).getD d 0).toNat = H d := fun d hd => by
    have := hr.rng hs hd
    exact hP2 _ d hd (by omega)
  refine ⟨fun c => (if c = Sp.landK q then x else 0) + P2 c, ?_, fun d hd => ?_⟩
  · obtain ⟨i, hi, ei⟩ := hh.has1
    obtain ⟨j, hj, ej⟩ := hh.has2
    rw [hkk] at ej
    have p1 := hP2 f i hi ei
    have p2 := hP2 (Sp.landK q) j hj ej
    have l1 := hh.lt i hi
    have l2 := hh.lt j hj
    rw [hkk] at l1 l2
    have fi : (Sp.faces2 q).1.getD i 0 = (f : Int) := by
      by_cases fi : (Sp.faces2 q).1.getD i 0 = (f : Int)
      · exact fi
      · have := hh.out i hi fi; omega
    have fj : (Sp.faces2 q).1.getD j 0 = (f : Int) := by
      by_cases fj : (Sp.faces2 q).1.getD j 0 = (f : Int)
      · exact fj
      · have := hh.out j hj fj; omega
    have := hHf i j hi hj (by rw [fi, fj])
    show (if Sp.landK q = Sp.landK q then x else 0) + P2 (Sp.landK q) - ((if f = Sp.landK q then x else 0) + P2 f) = x
    rw [if_pos rfl, if_neg (by omega)]
    omega
  · have h3 : g d - Sp.rise (Sp.splitL q f d0 a jb) ((List.range (Sp.landK q + 1)).map fun c => if c = Sp.landK q then x else 0) d = H (Sp.oth d) - H d := h2 d hd
    have ho := oth_lt hd hev
    have r1 := hr.rng hs hd
    have r2 := hr.rng hs ho
    have h4 : Sp.rise (Sp.splitL q f d0 a jb) ((List.range (Sp.landK q + 1)).map fun c => if c = Sp.landK q then x else 0) d = (if ((Sp.splitL q f d0 a jb).getD (Sp.oth d) 0).toNat = Sp.landK q then x else 0) - (if ((Sp.splitL q f d0 a jb).getD d 0).toNat = Sp.landK q then x else 0) := by
      unfold Sp.rise
      rw [Sp.rowD (D := fun c => if c = Sp.landK q then x else 0) (by omega), Sp.rowD (D := fun c => if c = Sp.landK q then x else 0) (by omega)]
    show g d = (if ((Sp.splitL q f d0 a jb).getD (Sp.oth d) 0).toNat = Sp.landK q then x else 0) + P2 ((Sp.splitL q f d0 a jb).getD (Sp.oth d) 0).toNat - ((if ((Sp.splitL q f d0 a jb).getD d 0).toNat = Sp.landK q then x else 0) + P2 ((Sp.splitL q f d0 a jb).getD d 0).toNat)
    rw [hPd d hd, hPd _ ho]
    omega
/-- So no flow within what the darts hold has more value than b is high. -/
theorem Sp.DualQ.flow_ub {q : Sp.Net} (h : Sp.DualQ q) (hr : Sp.RimQ q) (hc : Sp.Cir q) {s t : Int} {f d0 a jb : Nat} (hs : Sp.SplitQ q s t f d0 a jb) (hst : s ≠ t) {D : Nat → Int} (hD : Sp.Short 1152921504606846976 (Sp.rimR (Sp.splitL q f d0 a jb) q.cap q.tail.length) f (Sp.landK q + 1) D) {g : Nat → Int} {x : Int} (ha : ∀ d, d < q.tail.length → g (Sp.oth d) = - g d)
    (hg : ∀ d, d < q.tail.length → g d ≤ q.cap.getD d 0)
    (hv : ∀ u, u ≠ s → u ≠ t → Sp.sumN (fun d => if q.tail.getD d 0 = u then g d else 0) q.tail.length = 0)
    (hx : Sp.sumN (fun d => if q.tail.getD d 0 = s then g d else 0) q.tail.length = x) (hy : Sp.sumN (fun d => if q.tail.getD d 0 = t then g d else 0) q.tail.length = -x) : x ≤ D (Sp.landK q) := by
  obtain ⟨P, h1, h2⟩ := h.flow_rise hr hc hs hst ha hv hx hy
  have h3 := Sp.rise_ub (P := P) hD (fun d hd => by rw [← h2 d hd]; exact hg d hd) (v := Sp.landK q) (by omega) (h.near hr hs hst hD _ (by omega))
  omega
end Go.Proofs.Ytoegjnolccabjab


/- The reference's Value (chapter 9): the sum over a vertex' darts, wrapped about. -/
namespace Go.Proofs.Ytoegjnolccabjab
open Go Go.RowKit

theorem wrap_add (a b : Int) : IntKind.i64.wrap (IntKind.i64.wrap a + b) = IntKind.i64.wrap (a + b) := by
  rw [IntKind.wrap_i64, IntKind.wrap_i64, IntKind.wrap_i64]
  omega
set_option maxRecDepth 100000 in
set_option maxHeartbeats 4000000 in
theorem rvalue9_any (q : Sp.Net) (v tv nv cv fv : Value) (s : Int) (R : List Int) (w : World) (hv : NetI w v q tv nv cv) (hR : Ints w fv R) (hl : R.length = q.tail.length) (hle : q.tail.length ≤ 60) :
    Calls Try.prog 13 #[v, .int .i64 s, fv] w fun e w' => e = .returned (.int .i64 (IntKind.i64.wrap (Sp.sumN (fun d => if q.tail.getD d 0 = s then R.getD d 0 else 0) q.tail.length))) ∧ Below w.heap.size w w' := by
  obtain ⟨rfl, h1, h2, h3⟩ := hv
  obtain ⟨ta, tc, rfl, -, -, HTa⟩ := h1.allA
  obtain ⟨na, nc, rfl, -, -⟩ := h2.form
  obtain ⟨ca, cc, rfl, -, -⟩ := h3.form
  obtain ⟨fa, fc, hfe, -, -, HFa⟩ := hR.allA
  rw [hl] at hfe HFa
  subst hfe
  obtain ⟨W1, hW1⟩ : ∃ W1, W1 = w.alloc (.cells #[.int .i64 q.n, .slice ta q.tail.length tc, .slice na q.next.length nc, .slice ca q.cap.length cc] 26) := ⟨_, rfl⟩
  have HB : Hid (Below w.heap.size w W1) := hide (by rw [hW1]; exact (Below.refl _ w).alloc (Nat.le_refl _) _)
  have e1 : W1.heap[w.heap.size]? = some (.cells #[.int .i64 q.n, .slice ta q.tail.length tc, .slice na q.next.length nc, .slice ca q.cap.length cc] 26) := by rw [hW1]; exact heap_alloc_new _ _
  have x1 : W1.cell? ⟨w.heap.size, 1, none⟩ = some (.slice ta q.tail.length tc) := by rw [cell_of_row _ _ _ _ _ _ e1]; rfl
  have HS : Hid (∀ d, Sp.sumN (fun d => if q.tail.getD d 0 = s then R.getD d 0 else 0) (d + 1) = Sp.sumN (fun d => if q.tail.getD d 0 = s then R.getD d 0 else 0) d + if q.tail.getD d 0 = s then R.getD d 0 else 0) := hide fun d => rfl
  have HS0 : Hid (Sp.sumN (fun d => if q.tail.getD d 0 = s then R.getD d 0 else 0) 0 = 0) := hide rfl
  obtain ⟨S, hS⟩ : ∃ S : Nat → Int, (fun d => Sp.sumN (fun d => if q.tail.getD d 0 = s then R.getD d 0 else 0) d) = S := ⟨_, rfl⟩
  have HSS : Hid (∀ d, Sp.sumN (fun d => if q.tail.getD d 0 = s then R.getD d 0 else 0) d = S d) := hide fun d => by rw [← hS]
  have HS1 : Hid (∀ d, S (d + 1) = S d + if q.tail.getD d 0 = s then R.getD d 0 else 0) := hide fun d => by rw [← unhide HSS, ← unhide HSS]; exact unhide HS d
  have HSz : Hid (S 0 = 0) := hide (by rw [← unhide HSS]; exact unhide HS0)
  rw [unhide HSS]
  obtain ⟨P, hP⟩ : ∃ P : Ending → World → Prop, P = fun e w' => e = .returned (.int .i64 (IntKind.i64.wrap (S q.tail.length))) ∧ Below w.heap.size w w' := ⟨_, rfl⟩
  rw [← hP]
  have HP := hide hP
  clear hP hS HSS HS HS0 e1 h1 h2 h3 hR hl
  go_enter Try.func13, Try.ntmps13
  go_upto_region 1 with fail
  rw [← hW1]
  clear hW1
  go_wp2
  go_loopg [7, 8] q.tail.length (fun g s7 s8 wr => ∃ d : Nat, d + g = q.tail.length ∧ s8 = .int .i64 (d : Int) ∧ s7 = .int .i64 (IntKind.i64.wrap (S d)) ∧ wr = W1)
  case atStart => exact ⟨0, by omega, rfl, by rw [unhide HSz]; rfl, rfl⟩
  case round =>
    obtain ⟨d, hdg, rfl, rfl, hwr⟩ := hrel
    subst hwr
    cases gk with
    | succ g' =>
      have hd : d < q.tail.length := by omega
      have hdI : (d : Int) < (q.tail.length : Int) := by omega
      obtain ⟨b1, o1, rfl, -, hc1⟩ := unhide HTa d hd
      obtain ⟨b2, o2, rfl, -, hc2⟩ := unhide HFa d hd
      have c1 := hc1 _ (unhide HB)
      have c2 := hc2 _ (unhide HB)
      have hs1 := unhide HS1 d
      obtain ⟨a, ha⟩ : ∃ a, q.tail.getD d 0 = a := ⟨_, rfl⟩
      obtain ⟨r, hr⟩ : ∃ r, R.getD d 0 = r := ⟨_, rfl⟩
      rw [ha, hr] at hs1
      rw [ha] at c1
      rw [hr] at c2
      obtain ⟨z, hz⟩ : ∃ z, S d = z := ⟨_, rfl⟩
      rw [hz] at hs1 ⊢
      clear hc1 hc2 ha hr hz
      by_cases e : a = s
      · subst e
        rw [if_pos rfl] at hs1
        have HE : Hid (wrap64 (IntKind.i64.wrap z + r) = IntKind.i64.wrap (S (d + 1))) := hide (by rw [← IntWalk.i64_left, wrap_add, hs1])
        clear hs1
        obtain ⟨y, hy⟩ : ∃ y, IntKind.i64.wrap z = y := ⟨_, rfl⟩
        rw [hy] at HE ⊢
        clear hy
        have hab : (a == a) = true := beq_self_eq_true a
        go_wp2
        go_roundg g'
        case rel => exact ⟨d + 1, by omega, by go_num, congrArg (Value.int .i64) (unhide HE), rfl⟩
        case measure => omega
      · rw [if_neg e, Int.add_zero] at hs1
        have HE : Hid (IntKind.i64.wrap z = IntKind.i64.wrap (S (d + 1))) := hide (by rw [hs1])
        clear hs1
        obtain ⟨y, hy⟩ : ∃ y, IntKind.i64.wrap z = y := ⟨_, rfl⟩
        rw [hy] at HE ⊢
        clear hy
        have hab : (a == s) = false := beq_eq_false_iff_ne.2 e
        go_wp2
        go_roundg g'
        case rel => exact ⟨d + 1, by omega, by go_num, congrArg (Value.int .i64) (unhide HE), rfl⟩
        case measure => omega
    | zero =>
      obtain rfl : d = q.tail.length := by omega
      have hnn : ¬ (q.tail.length : Int) < (q.tail.length : Int) := by omega
      go_wp2
      rw [unhide HP]
      exact ⟨rfl, unhide HB⟩
end Go.Proofs.Ytoegjnolccabjab


/- A flow (W4); what rim tells is one. -/
namespace Go.Proofs.Ytoegjnolccabjab
open Go Go.RowKit

/-- What runs from s to t: x comes out of s, x comes to t, elsewhere nothing is left; no dart has more than it holds. -/
structure Sp.FlowQ (q : Sp.Net) (s t : Int) (L : List Int) (x : Int) : Prop where
  len : L.length = q.tail.length
  op : ∀ d, d < q.tail.length → L.getD (Sp.oth d) 0 = - L.getD d 0
  le : ∀ d, d < q.tail.length → L.getD d 0 ≤ q.cap.getD d 0
  src : Sp.sumN (fun d => if q.tail.getD d 0 = s then L.getD d 0 else 0) q.tail.length = x
  snk : Sp.sumN (fun d => if q.tail.getD d 0 = t then L.getD d 0 else 0) q.tail.length = -x
  mid : ∀ u, u ≠ s → u ≠ t → Sp.sumN (fun d => if q.tail.getD d 0 = u then L.getD d 0 else 0) q.tail.length = 0
theorem Sp.dualQ_pos (ns : List Int) : 0 < (Sp.plane ns).tail.length → Sp.DualQ (Sp.plane ns) := fun h => by
  rcases Sp.dualQ_plane ns with e | e
  · rw [e] at h; exact absurd h (Nat.not_lt_zero _)
  · exact e
theorem Sp.RimIs.flow {q : Sp.Net} (hd : 0 < q.tail.length → Sp.DualQ q) (hq : Sp.RimQ q) {s t : Int} {P L : List Int} {x : Int} (h : Sp.RimIs q s t P L x) (h0 : Sp.rimE q s t = 0) :
    Sp.FlowQ q s t L x ∧ 0 ≤ x ∧ x < 1152921504606846976 := by
  rcases h with ⟨he, -⟩ | ⟨-, h0, h1, hst, hE, f, d0, a, jb, D, hs, hD, rfl, rfl, rfl⟩
  · exact absurd h0 he
  · have hq2 := hd (by have := hs.d0l; omega)
    have hkk : max (Sp.faces2 q).2 1 = Sp.landK q := rfl
    have hfK : f < Sp.landK q := by rw [← hkk]; exact (hq2.halves hs).fK
    have hL : ∀ d, d < q.tail.length → ((List.range q.tail.length).map (Sp.rise (Sp.splitL q f d0 a jb) ((List.range (Sp.landK q + 1)).map D))).getD d 0 = Sp.rise (Sp.splitL q f d0 a jb) ((List.range (Sp.landK q + 1)).map D) d := fun d h => Sp.rowD (D := Sp.rise (Sp.splitL q f d0 a jb) ((List.range (Sp.landK q + 1)).map D)) h
    have hS : ∀ u, Sp.sumN (fun d => if q.tail.getD d 0 = u then ((List.range q.tail.length).map (Sp.rise (Sp.splitL q f d0 a jb) ((List.range (Sp.landK q + 1)).map D))).getD d 0 else 0) q.tail.length = Sp.sumN (fun d => if q.tail.getD d 0 = u then Sp.rise (Sp.splitL q f d0 a jb) ((List.range (Sp.landK q + 1)).map D) d else 0) q.tail.length := fun u => Sp.sumN_congr _ fun d hdl => by rw [hL d hdl]
    have hV := hq2.value hs hst hfK (D := D) hD.1.src
    have hN := hq2.near hq hs hst hD.1
    refine ⟨⟨by rw [List.length_map, List.length_range], fun d hdl => ?_, fun d hdl => ?_, ?_, ?_, fun u us ut => ?_⟩, Sp.short_nn hD.1 (hq.posR _ _) (by omega), hD.2 _ (by omega) (hN _ (by omega))⟩
    · rw [hL d hdl, hL _ (oth_lt hdl hq.link.ev), Sp.rise_oth]
    · rw [hL d hdl]
      exact hq.rise_le hs hD.1 hD.2 hdl
    · rw [hS, hV.1]
    · rw [hS, hV.2]
    · rw [hS, hq2.vsum hs _ u, if_neg (fun e => ut e.symm), if_neg (fun e => us e.symm)]
      rfl
/-- No dart has less than its other's hold, below 0. -/
theorem Sp.FlowQ.ge {q : Sp.Net} {s t : Int} {L : List Int} {x : Int} (h : Sp.FlowQ q s t L x) (hev : q.tail.length % 2 = 0) {d : Nat} (hd : d < q.tail.length) : - q.cap.getD (Sp.oth d) 0 ≤ L.getD d 0 := by
  have h1 := h.le _ (oth_lt hd hev)
  rw [h.op d hd] at h1
  omega
theorem rvalue9_is (q : Sp.Net) (v tv nv cv fv : Value) (s : Int) (R : List Int) (x : Int) (w : World) (hv : NetI w v q tv nv cv) (hR : Ints w fv R) (hl : R.length = q.tail.length) (hle : q.tail.length ≤ 60)
    (hx : Sp.sumN (fun d => if q.tail.getD d 0 = s then R.getD d 0 else 0) q.tail.length = x) (h0 : -4611686018427387904 ≤ x) (h1 : x ≤ 4611686018427387904) :
    Calls Try.prog 13 #[v, .int .i64 s, fv] w fun e w' => e = .returned (.int .i64 x) ∧ Below w.heap.size w w' := by
  refine (rvalue9_any q v tv nv cv fv s R w hv hR hl hle).mono ?_
  rintro e w' ⟨rfl, hb⟩
  have hw : IntKind.i64.wrap x = x := by rw [IntKind.wrap_i64]; omega
  rw [hx, hw]
  exact ⟨rfl, hb⟩
end Go.Proofs.Ytoegjnolccabjab


/- What rim tells is the greatest; along an edge runs what it holds. -/
namespace Go.Proofs.Ytoegjnolccabjab
open Go Go.RowKit

theorem Sp.RimIs.most {q : Sp.Net} (hd : 0 < q.tail.length → Sp.DualQ q) (hq : Sp.RimQ q) (hc : Sp.Cir q) {s t : Int} {P L : List Int} {x : Int} (h : Sp.RimIs q s t P L x) (h0 : Sp.rimE q s t = 0) {L' : List Int} {x' : Int} (hF : Sp.FlowQ q s t L' x') : x' ≤ x := by
  rcases h with ⟨he, -⟩ | ⟨-, h0, h1, hst, hE, f, d0, a, jb, D, hs, hD, rfl, rfl, rfl⟩
  · exact absurd h0 he
  · exact (hd (by have := hs.d0l; omega)).flow_ub hq hc hs hst hD.1 (g := fun d => L'.getD d 0) hF.op hF.le hF.mid hF.src hF.snk
/-- What runs along one edge alone. -/
def Sp.edgeL (m x : Nat) (c : Int) : List Int := (List.range m).map fun d => if d = x then c else if d = Sp.oth x then -c else 0
theorem Sp.oth_ne (x : Nat) : Sp.oth x ≠ x := by
  unfold Sp.oth
  split <;> omega
theorem Sp.FlowQ.edge {q : Sp.Net} (hev : q.tail.length % 2 = 0) (hcb : ∀ d, d < q.tail.length → 0 ≤ q.cap.getD d 0) {x : Nat} (hx : x < q.tail.length) (hn : q.tail.getD x 0 ≠ q.tail.getD (Sp.oth x) 0) :
    Sp.FlowQ q (q.tail.getD x 0) (q.tail.getD (Sp.oth x) 0) (Sp.edgeL q.tail.length x (q.cap.getD x 0)) (q.cap.getD x 0) := by
  have ho := oth_lt hx hev
  have hne := Sp.oth_ne x
  have hL : ∀ d, d < q.tail.length → (Sp.edgeL q.tail.length x (q.cap.getD x 0)).getD d 0 = if d = x then q.cap.getD x 0 else if d = Sp.oth x then -q.cap.getD x 0 else 0 := fun d hd => Sp.rowD (D := fun d => if d = x then q.cap.getD x 0 else if d = Sp.oth x then -q.cap.getD x 0 else 0) hd
  have hS : ∀ u, Sp.sumN (fun d => if q.tail.getD d 0 = u then (Sp.edgeL q.tail.length x (q.cap.getD x 0)).getD d 0 else 0) q.tail.length = (if q.tail.getD x 0 = u then q.cap.getD x 0 else 0) + (if q.tail.getD (Sp.oth x) 0 = u then -q.cap.getD x 0 else 0) := fun u => by
    have e : Sp.sumN (fun d => if q.tail.getD d 0 = u then (Sp.edgeL q.tail.length x (q.cap.getD x 0)).getD d 0 else 0) q.tail.length = Sp.sumN (fun d => (if d = x then (if q.tail.getD x 0 = u then q.cap.getD x 0 else 0) else 0) + (if d = Sp.oth x then (if q.tail.getD (Sp.oth x) 0 = u then -q.cap.getD x 0 else 0) else 0)) q.tail.length :=
      Sp.sumN_congr _ fun d hd => by
        rw [hL d hd]
        by_cases e1 : d = x
        · subst e1
          rw [if_pos rfl, if_pos rfl, if_neg (show ¬ d = Sp.oth d from fun k => hne k.symm)]
          omega
        · by_cases e2 : d = Sp.oth x
          · subst e2
            rw [if_neg (show ¬ Sp.oth x = x from hne), if_pos rfl, if_neg (show ¬ Sp.oth x = x from hne), if_pos rfl]
            omega
          · rw [if_neg e1, if_neg e2, if_neg e1, if_neg e2, ite_self]
            omega
    rw [e, Sp.sumN_add, Sp.sumN_one, Sp.sumN_one, if_pos hx, if_pos ho]
  refine ⟨by unfold Sp.edgeL; rw [List.length_map, List.length_range], fun d hd => ?_, fun d hd => ?_, ?_, ?_, fun u us ut => ?_⟩
  · rw [hL d hd, hL _ (oth_lt hd hev)]
    by_cases e1 : d = x
    · subst e1
      rw [if_neg hne, if_pos rfl, if_pos rfl]
    · by_cases e2 : d = Sp.oth x
      · subst e2
        rw [oth_oth, if_pos rfl, if_neg hne, if_pos rfl]
        omega
      · have e3 : Sp.oth d ≠ x := fun k => e2 (by rw [← k, oth_oth])
        have e4 : Sp.oth d ≠ Sp.oth x := fun k => e1 (oth_inj k)
        rw [if_neg e3, if_neg e4, if_neg e1, if_neg e2]
        rfl
  · rw [hL d hd]
    have h1 := hcb d hd
    have h2 := hcb x hx
    by_cases e1 : d = x
    · subst e1; rw [if_pos rfl]; omega
    · rw [if_neg e1]
      split <;> omega
  · rw [hS, if_pos rfl, if_neg (fun k => hn k.symm)]
    omega
  · rw [hS, if_neg hn, if_pos rfl]
    omega
  · rw [hS, if_neg (fun k => us k.symm), if_neg (fun k => ut k.symm)]
    rfl
/-- The cells of a row. -/
theorem Ints.at_ {w : World} {a : Option Addr} {n c : Nat} {l : List Int} (h : Ints w (.slice a n c) l) : ∀ k, k < l.length → ∃ b o, a = some ⟨b, o, none⟩ ∧ b < w.heap.size ∧ ∀ w', Below w.heap.size w w' → w'.cell? ⟨b, o + k, none⟩ = some (.int .i64 (l.getD k 0)) := fun k hk => by
  obtain ⟨a', c', e, -, -, hA⟩ := h.allA
  injection e with e1 e2 e3
  subst e1
  exact unhide hA k hk
theorem Ints.at2 {w : World} {a : Option Addr} {n c : Nat} {l : List Int} (h : Ints w (.slice a n c) l) {j k : Nat} (hj : j < l.length) (hk : k < l.length) : ∃ b o, a = some ⟨b, o, none⟩ ∧ b < w.heap.size ∧ ∀ w', Below w.heap.size w w' → w'.cell? ⟨b, o + j, none⟩ = some (.int .i64 (l.getD j 0)) ∧ w'.cell? ⟨b, o + k, none⟩ = some (.int .i64 (l.getD k 0)) := by
  obtain ⟨b, o, e1, e2, e3⟩ := h.at_ j hj
  obtain ⟨b', o', f1, f2, f3⟩ := h.at_ k hk
  rw [e1] at f1
  injection f1 with f1
  injection f1 with f4 f5
  subst f4 f5
  exact ⟨b, o, e1, e2, fun w' hb => ⟨e3 w' hb, f3 w' hb⟩⟩
end Go.Proofs.Ytoegjnolccabjab


