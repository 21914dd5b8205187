/- What the proof needs, part 5. -/
import Derived.Test.YtenffkplneimlabL4
/- The law RotHeads, walked. -/
namespace Go.Proofs.Ytenffkplneimlab
open Go Go.RowKit

theorem Sp.plane_ok (ns : List Int) : Sp.PlaneQ (Sp.plane ns) 24 := by
  have h := Sp.planeN_ok ns (min ns.length 24)
  exact ⟨h.ev, by have := h.le; unfold Sp.plane; omega, h.n0, by have := h.n1; unfold Sp.plane; omega, h.nx, h.cp, h.pm, h.tb, h.cb, h.tn⟩
theorem Ints.allD {w : World} {v : Value} {l : List Int} (h : Ints w v l) : ∃ (a : Option Addr) (c : Nat), v = .slice a l.length c ∧ l.length ≤ c ∧ c ≤ maxLen ∧ Hid (∀ k, k < l.length → ∃ b o, a = some ⟨b, o, none⟩ ∧ b < w.heap.size ∧ ∀ w', Below w.heap.size w w' → w'.cell? ⟨b, o + k, none⟩ = some (.int .i64 (l.getD k 0))) := by
  obtain ⟨a, c, e, h1, h2, h3⟩ := h.all
  refine ⟨a, c, e, h1, h2, hide fun k hk => ?_⟩
  obtain ⟨b, o, e1, e2, e3⟩ := unhide h3 k hk
  exact ⟨b, o, e1, e2, fun w' hb => by rw [Sp.getD_eq _ _ hk]; exact e3 w' hb⟩
end Go.Proofs.Ytenffkplneimlab


/- Rounds of a function, by labels: how many there are; what a new place, and two images exchanged, do to them. -/
namespace Go.Proofs.Ytenffkplneimlab
open Go Go.RowKit

def itf (f : Nat → Nat) (i : Nat) : Nat → Nat
  | 0 => i
  | m + 1 => f (itf f i m)
theorem itf_add (f : Nat → Nat) (i m : Nat) : ∀ n, itf f i (m + n) = itf f (itf f i m) n
  | 0 => rfl
  | n + 1 => by show f (itf f i (m + n)) = f (itf f (itf f i m) n); rw [itf_add f i m n]
theorem itf_one (f : Nat → Nat) (i n : Nat) : itf f i (n + 1) = itf f (f i) n := by
  rw [Nat.add_comm, itf_add]; rfl
def OrbF (f : Nat → Nat) (i j : Nat) : Prop := ∃ m, itf f i m = j
theorem OrbF.refl (f : Nat → Nat) (i : Nat) : OrbF f i i := ⟨0, rfl⟩
theorem OrbF.trans {f : Nat → Nat} {i j k : Nat} (h1 : OrbF f i j) (h2 : OrbF f j k) : OrbF f i k := by
  obtain ⟨a, rfl⟩ := h1
  obtain ⟨b, rfl⟩ := h2
  exact ⟨a + b, itf_add f i a b⟩
theorem OrbF.one (f : Nat → Nat) (i : Nat) : OrbF f i (f i) := ⟨1, rfl⟩
structure PermF (L : Nat) (f : Nat → Nat) : Prop where
  mp : ∀ i, i < L → f i < L
  inj : ∀ i j, i < L → j < L → f i = f j → i = j
theorem PermF.it {L : Nat} {f : Nat → Nat} (h : PermF L f) {i : Nat} (hi : i < L) : ∀ m, itf f i m < L
  | 0 => hi
  | m + 1 => h.mp _ (h.it hi m)
/-- Labels that tell a function's rounds apart, k of them. -/
structure Cls (L : Nat) (f lab : Nat → Nat) (k : Nat) : Prop where
  lt : ∀ i, i < L → lab i < k
  on : ∀ c, c < k → ∃ i, i < L ∧ lab i = c
  inv : ∀ i, i < L → lab (f i) = lab i
  sep : ∀ i j, i < L → j < L → lab i = lab j → OrbF f i j
theorem Cls.along {L : Nat} {f lab : Nat → Nat} {k : Nat} (h : Cls L f lab k) (hp : ∀ i, i < L → f i < L) {i : Nat} (hi : i < L) : ∀ m, itf f i m < L ∧ lab (itf f i m) = lab i
  | 0 => ⟨hi, rfl⟩
  | m + 1 => by
    obtain ⟨h1, h2⟩ := h.along hp hi m
    exact ⟨hp _ h1, by show lab (f (itf f i m)) = _; rw [h.inv _ h1, h2]⟩
theorem Cls.orb {L : Nat} {f lab : Nat → Nat} {k : Nat} (h : Cls L f lab k) (hp : ∀ i, i < L → f i < L) {i j : Nat} (hi : i < L) (ho : OrbF f i j) : lab i = lab j := by
  obtain ⟨m, rfl⟩ := ho
  exact (h.along hp hi m).2.symm
theorem Cls.le {L : Nat} {f lab lab' : Nat → Nat} {k k' : Nat} (hp : ∀ i, i < L → f i < L) (h : Cls L f lab k) (h' : Cls L f lab' k') : k ≤ k' := by
  have hc : ∀ c, ∃ i, c < k → i < L ∧ lab i = c := fun c => by
    by_cases h0 : c < k
    · obtain ⟨i, h1⟩ := h.on c h0
      exact ⟨i, fun _ => h1⟩
    · exact ⟨0, fun h1 => absurd h1 h0⟩
  obtain ⟨g, hg⟩ := Classical.axiomOfChoice hc
  have := nodup_le k' ((List.range k).map fun c => ((lab' (g c) : Nat) : Int)) (by
    unfold List.Nodup
    rw [List.pairwise_map, List.pairwise_iff_getElem]
    intro i j hi hj hij e
    rw [List.length_range] at hi hj
    rw [List.getElem_range, List.getElem_range] at e
    obtain ⟨a1, a2⟩ := hg i hi
    obtain ⟨b1, b2⟩ := hg j hj
    have h3 := h.orb hp a1 (h'.sep _ _ a1 b1 (by omega))
    omega) (fun x hx => by
    obtain ⟨c, h1, rfl⟩ := List.mem_map.1 hx
    have h2 := h'.lt _ (hg c (List.mem_range.1 h1)).1
    exact ⟨by omega, by omega⟩)
  rw [List.length_map, List.length_range] at this
  exact this
theorem Cls.count {L : Nat} {f lab lab' : Nat → Nat} {k k' : Nat} (hp : ∀ i, i < L → f i < L) (h : Cls L f lab k) (h' : Cls L f lab' k') : k = k' := Nat.le_antisymm (h.le hp h') (h'.le hp h)
theorem Cls.congr {L : Nat} {f f' lab lab' : Nat → Nat} {k : Nat} (h : Cls L f lab k) (hp : ∀ i, i < L → f i < L) (hf : ∀ i, i < L → f' i = f i) (hl : ∀ i, i < L → lab' i = lab i) : Cls L f' lab' k := by
  refine ⟨fun i hi => by rw [hl i hi]; exact h.lt i hi, fun c hc => ?_, fun i hi => by rw [hf i hi, hl i hi, hl _ (hp i hi)]; exact h.inv i hi, fun i j hi hj e => ?_⟩
  · obtain ⟨i, h1, h2⟩ := h.on c hc
    exact ⟨i, h1, by rw [hl i h1]; exact h2⟩
  · rw [hl i hi, hl j hj] at e
    obtain ⟨m, hm⟩ := h.sep i j hi hj e
    refine ⟨m, ?_⟩
    rw [← hm]
    clear hm
    induction m with
    | zero => rfl
    | succ m ih =>
      show f' (itf f' i m) = f (itf f i m)
      rw [ih]
      exact hf _ (h.along hp hi m).1
/-- A new place behind u. -/
def insF (L u : Nat) (f : Nat → Nat) (x : Nat) : Nat := if x = u then L else if x = L then f u else f x
theorem insF_perm {L u : Nat} {f : Nat → Nat} (h : PermF L f) (hu : u < L) : PermF (L + 1) (insF L u f) := by
  refine ⟨fun i hi => ?_, fun i j hi hj e => ?_⟩
  · unfold insF
    have := h.mp u hu
    split
    · omega
    · split
      · omega
      · have := h.mp i (by omega); omega
  · unfold insF at e
    have h0 := h.mp u hu
    by_cases h1 : i = u <;> by_cases h2 : j = u
    · omega
    · rw [if_pos h1, if_neg h2] at e
      by_cases h3 : j = L
      · rw [if_pos h3] at e; omega
      · rw [if_neg h3] at e; have := h.mp j (by omega); omega
    · rw [if_neg h1, if_pos h2] at e
      by_cases h3 : i = L
      · rw [if_pos h3] at e; omega
      · rw [if_neg h3] at e; have := h.mp i (by omega); omega
    · rw [if_neg h1, if_neg h2] at e
      by_cases h3 : i = L <;> by_cases h4 : j = L
      · omega
      · rw [if_pos h3, if_neg h4] at e; have := h.inj u j hu (by omega) e; omega
      · rw [if_neg h3, if_pos h4] at e; have := h.inj i u (by omega) hu e; omega
      · rw [if_neg h3, if_neg h4] at e; exact h.inj i j (by omega) (by omega) e
theorem insF_orb {L u : Nat} {f : Nat → Nat} (hp : ∀ i, i < L → f i < L) (hu : u < L) {i : Nat} (hi : i < L) : ∀ m, OrbF (insF L u f) i (itf f i m)
  | 0 => OrbF.refl _ _
  | m + 1 => by
    refine (insF_orb hp hu hi m).trans ?_
    have hb : itf f i m < L := by
      induction m with
      | zero => exact hi
      | succ m ih => exact hp _ ih
    show OrbF _ _ (f (itf f i m))
    generalize itf f i m = x at *
    by_cases hx : x = u
    · refine ⟨2, ?_⟩
      show insF L u f (insF L u f x) = f x
      have e1 : insF L u f x = L := by unfold insF; rw [if_pos hx]
      rw [e1]
      unfold insF
      rw [if_neg (by omega), if_pos rfl, hx]
    · refine ⟨1, ?_⟩
      show insF L u f x = f x
      unfold insF
      rw [if_neg hx, if_neg (by omega)]
theorem Cls.ins {L u : Nat} {f lab : Nat → Nat} {k : Nat} (h : Cls L f lab k) (hp : ∀ i, i < L → f i < L) (hu : u < L) : Cls (L + 1) (insF L u f) (fun x => if x = L then lab u else lab x) k := by
  have hlab : ∀ x, x < L → (if x = L then lab u else lab x) = lab x := fun x hx => if_neg (by omega)
  have o1 : ∀ i j, i < L → j < L → lab i = lab j → OrbF (insF L u f) i j := fun i j hi hj e => by
    obtain ⟨m, rfl⟩ := h.sep i j hi hj e
    exact insF_orb hp hu hi m
  have oL : OrbF (insF L u f) L (f u) := ⟨1, by show insF L u f L = _; unfold insF; rw [if_neg (by omega), if_pos rfl]⟩
  have ou : OrbF (insF L u f) u L := ⟨1, by show insF L u f u = _; unfold insF; rw [if_pos rfl]⟩
  have hfu := hp u hu
  refine ⟨fun i hi => ?_, fun c hc => ?_, fun i hi => ?_, fun i j hi hj e => ?_⟩
  · show (if i = L then lab u else lab i) < k
    split
    · exact h.lt u hu
    · exact h.lt i (by omega)
  · obtain ⟨i, h1, h2⟩ := h.on c hc
    exact ⟨i, by omega, (hlab i h1).trans h2⟩
  · show (if insF L u f i = L then lab u else lab (insF L u f i)) = if i = L then lab u else lab i
    by_cases h1 : i = u
    · have e1 : insF L u f i = L := by unfold insF; rw [if_pos h1]
      rw [e1, if_pos rfl, if_neg (by omega), h1]
    · by_cases h2 : i = L
      · have e1 : insF L u f i = f u := by unfold insF; rw [if_neg h1, if_pos h2]
        rw [e1, if_neg (by omega), if_pos h2, h.inv u hu]
      · have e1 : insF L u f i = f i := by unfold insF; rw [if_neg h1, if_neg h2]
        have := hp i (by omega)
        rw [e1, if_neg (by omega), if_neg h2, h.inv i (by omega)]
  · have e' : (if i = L then lab u else lab i) = if j = L then lab u else lab j := e
    by_cases h1 : i = L <;> by_cases h2 : j = L
    · rw [h1, h2]; exact OrbF.refl _ _
    · rw [if_pos h1, if_neg h2] at e'
      rw [h1]
      exact oL.trans (o1 _ _ hfu (by omega) (by rw [h.inv u hu]; exact e'))
    · rw [if_neg h1, if_pos h2] at e'
      rw [h2]
      exact (o1 _ _ (by omega) hu e').trans ou
    · rw [if_neg h1, if_neg h2] at e'
      exact o1 _ _ (by omega) (by omega) e'
/-- A new place that is its own next one. -/
def fixF (L : Nat) (f : Nat → Nat) (x : Nat) : Nat := if x = L then L else f x
theorem Cls.fix {L : Nat} {f lab : Nat → Nat} {k : Nat} (h : Cls L f lab k) (hp : ∀ i, i < L → f i < L) : Cls (L + 1) (fixF L f) (fun x => if x = L then k else lab x) (k + 1) := by
  have it : ∀ i, i < L → ∀ m, itf (fixF L f) i m = itf f i m := by
    intro i hi m
    induction m with
    | zero => rfl
    | succ m ih =>
      show fixF L f (itf (fixF L f) i m) = f (itf f i m)
      rw [ih]
      unfold fixF
      rw [if_neg (by have := (h.along hp hi m).1; omega)]
  refine ⟨fun i hi => ?_, fun c hc => ?_, fun i hi => ?_, fun i j hi hj e => ?_⟩
  · show (if i = L then k else lab i) < k + 1
    split
    · omega
    · have := h.lt i (by omega); omega
  · by_cases hk : c = k
    · exact ⟨L, by omega, by show (if L = L then k else lab L) = c; rw [if_pos rfl, hk]⟩
    · obtain ⟨i, h1, h2⟩ := h.on c (by omega)
      exact ⟨i, by omega, by show (if i = L then k else lab i) = c; rw [if_neg (by omega)]; exact h2⟩
  · show (if fixF L f i = L then k else lab (fixF L f i)) = if i = L then k else lab i
    by_cases h2 : i = L
    · have e1 : fixF L f i = L := by unfold fixF; rw [if_pos h2]
      rw [e1, if_pos rfl, if_pos h2]
    · have e1 : fixF L f i = f i := by unfold fixF; rw [if_neg h2]
      have := hp i (by omega)
      rw [e1, if_neg (by omega), if_neg h2, h.inv i (by omega)]
  · have e' : (if i = L then k else lab i) = if j = L then k else lab j := e
    by_cases h1 : i = L <;> by_cases h2 : j = L
    · rw [h1, h2]; exact OrbF.refl _ _
    · rw [if_pos h1, if_neg h2] at e'; have := h.lt j (by omega); omega
    · rw [if_neg h1, if_pos h2] at e'; have := h.lt i (by omega); omega
    · rw [if_neg h1, if_neg h2] at e'
      obtain ⟨m, hm⟩ := h.sep i j (by omega) (by omega) e'
      exact ⟨m, by rw [it i (by omega)]; exact hm⟩
end Go.Proofs.Ytenffkplneimlab


/- Two images of one round exchanged: the round falls in two. -/
namespace Go.Proofs.Ytenffkplneimlab
open Go Go.RowKit

def swpF (u v : Nat) (f : Nat → Nat) (x : Nat) : Nat := if x = u then f v else if x = v then f u else f x
theorem swpF_perm {L u v : Nat} {f : Nat → Nat} (h : PermF L f) (hu : u < L) (hv : v < L) : PermF L (swpF u v f) := by
  have key : ∀ x, swpF u v f x = f (if x = u then v else if x = v then u else x) := fun x => by
    unfold swpF
    by_cases h1 : x = u
    · rw [if_pos h1, if_pos h1]
    · rw [if_neg h1, if_neg h1]
      by_cases h2 : x = v
      · rw [if_pos h2, if_pos h2]
      · rw [if_neg h2, if_neg h2]
  have kb : ∀ x, x < L → (if x = u then v else if x = v then u else x) < L := fun x hx => by split <;> (try split) <;> assumption
  refine ⟨fun i hi => by rw [key]; exact h.mp _ (kb i hi), fun i j hi hj e => ?_⟩
  rw [key, key] at e
  have := h.inj _ _ (kb i hi) (kb j hj) e
  split at this <;> split at this <;> (try split at this) <;> (try split at this) <;> omega
theorem Cls.split {L u v : Nat} {f lab : Nat → Nat} {k : Nat} (h : Cls L f lab k) (hp : PermF L f) (hu : u < L) (hv : v < L) (huv : u ≠ v) (ho : OrbF f u v) :
    ∃ lab', Cls L (swpF u v f) lab' (k + 1) := by
  obtain ⟨m, hm⟩ := ho
  obtain ⟨m1, hm1⟩ : ∃ m1, itf f (f u) m1 = v := by
    cases m with
    | zero => exact absurd hm huv
    | succ m => exact ⟨m, by rw [← itf_one]; exact hm⟩
  obtain ⟨m0, h0, hmin⟩ := least_of (p := fun m => itf f (f u) m = v) ⟨m1, hm1⟩
  clear hm hm1 m m1
  have hfu := hp.mp u hu
  have hfv := hp.mp v hv
  -- u is not on the way
  have huB : ∀ m, m ≤ m0 → itf f (f u) m ≠ u := fun m hm e => by
    have hlt : m < m0 := by
      rcases Nat.lt_or_ge m m0 with h1 | h1
      · exact h1
      · have : m = m0 := by omega
        rw [this, h0] at e; omega
    have e2 : itf f (f u) (m + 1) = f u := by show f (itf f (f u) m) = _; rw [e]
    have e3 : itf f (f u) (m0 - m - 1) = v := by
      rw [← h0]
      have : m0 = (m + 1) + (m0 - m - 1) := by omega
      conv => rhs; rw [this, itf_add, e2]
    have := hmin _ e3
    omega
  have hvB : ∀ m, m < m0 → itf f (f u) m ≠ v := fun m hm e => by have := hmin _ e; omega
  let B : Nat → Prop := fun x => ∃ m, m ≤ m0 ∧ itf f (f u) m = x
  have bu : ¬ B u := fun ⟨m, h1, h2⟩ => huB m h1 h2
  have bv : B v := ⟨m0, Nat.le_refl _, h0⟩
  have bfu : B (f u) := ⟨0, Nat.zero_le _, rfl⟩
  have bL : ∀ x, B x → x < L := fun x ⟨m, _, h2⟩ => by rw [← h2]; exact hp.it hfu m
  have bfwd : ∀ x, B x → x ≠ v → B (f x) := fun x ⟨m, h1, h2⟩ hx => by
    have : m ≠ m0 := fun e => by rw [e, h0] at h2; exact hx h2.symm
    exact ⟨m + 1, by omega, by show f (itf f (f u) m) = _; rw [h2]⟩
  have bback : ∀ x, x < L → x ≠ u → B (f x) → B x ∧ x ≠ v := fun x hx hxu ⟨m, h1, h2⟩ => by
    cases m with
    | zero => exact absurd (hp.inj x u hx hu h2.symm) hxu
    | succ m =>
      have e : itf f (f u) m = x := hp.inj _ _ (hp.it hfu m) hx h2
      exact ⟨⟨m, by omega, e⟩, fun ex => hvB m (by omega) (by rw [e, ex])⟩
  have bfv : ¬ B (f v) := fun hb => (bback v hv huv.symm hb).2 rfl
  have blab : ∀ x, B x → lab x = lab u := fun x ⟨m, _, h2⟩ => by
    rw [← h2, (h.along hp.mp hfu m).2, h.inv u hu]
  have su : swpF u v f u = f v := by unfold swpF; rw [if_pos rfl]
  have sv : swpF u v f v = f u := by unfold swpF; rw [if_neg huv.symm, if_pos rfl]
  have so : ∀ x, x ≠ u → x ≠ v → swpF u v f x = f x := fun x h1 h2 => by unfold swpF; rw [if_neg h1, if_neg h2]
  -- along B the two functions go the same way
  have same : ∀ m, m ≤ m0 → itf (swpF u v f) (f u) m = itf f (f u) m := by
    intro m
    induction m with
    | zero => intro _; rfl
    | succ m ih =>
      intro hm
      show swpF u v f (itf (swpF u v f) (f u) m) = f (itf f (f u) m)
      rw [ih (by omega)]
      exact so _ (huB m (by omega)) (hvB m (by omega))
  have inB : ∀ x y, B x → B y → OrbF (swpF u v f) x y := fun x y ⟨a, ha, hx⟩ ⟨b, hb, hy⟩ => by
    have o1 : OrbF (swpF u v f) x v := ⟨m0 - a, by
      have e1 : itf (swpF u v f) (f u) a = x := by rw [same a ha, hx]
      rw [← e1, ← itf_add, show a + (m0 - a) = m0 by omega, same m0 (Nat.le_refl _), h0]⟩
    have o2 : OrbF (swpF u v f) v (f u) := ⟨1, sv⟩
    have o3 : OrbF (swpF u v f) (f u) y := ⟨b, by rw [same b hb, hy]⟩
    exact (o1.trans o2).trans o3
  have outB : ∀ n x, x < L → ¬ B x → ¬ B (itf f x n) → OrbF (swpF u v f) x (itf f x n) := by
    intro n
    induction n using Nat.strongRecOn with
    | _ n ih =>
      intro x hx hbx hbn
      cases n with
      | zero => exact OrbF.refl _ _
      | succ n =>
        rw [itf_one] at hbn ⊢
        have hxv : x ≠ v := fun e => hbx (e ▸ bv)
        by_cases hxu : x = u
        · subst hxu
          have hn : m0 < n := by
            rcases Nat.lt_or_ge m0 n with h1 | h1
            · exact h1
            · exact absurd ⟨n, h1, rfl⟩ hbn
          have e1 : itf f (f x) n = itf f (f v) (n - m0 - 1) := by
            have : n = (m0 + 1) + (n - m0 - 1) := by omega
            conv => lhs; rw [this, itf_add]
            show itf f (f (itf f (f x) m0)) (n - m0 - 1) = _
            rw [h0]
          rw [e1] at hbn ⊢
          exact OrbF.trans ⟨1, su⟩ (ih (n - m0 - 1) (by omega) (f v) hfv bfv hbn)
        · have hbf : ¬ B (f x) := fun hb => hbx (bback x hx hxu hb).1
          exact OrbF.trans ⟨1, so x hxu hxv⟩ (ih n (by omega) (f x) (hp.mp x hx) hbf hbn)
  classical
  refine ⟨fun x => if B x then k else lab x, fun i hi => ?_, fun c hc => ?_, fun i hi => ?_, fun i j hi hj e => ?_⟩
  · show (if B i then k else lab i) < k + 1
    split
    · omega
    · have := h.lt i hi; omega
  · by_cases hk : c = k
    · exact ⟨v, hv, by show (if B v then k else lab v) = c; rw [if_pos bv, hk]⟩
    · obtain ⟨i, h1, h2⟩ := h.on c (by omega)
      by_cases hb : B i
      · exact ⟨u, hu, by show (if B u then k else lab u) = c; rw [if_neg bu, ← blab i hb]; exact h2⟩
      · exact ⟨i, h1, by show (if B i then k else lab i) = c; rw [if_neg hb]; exact h2⟩
  · show (if B (swpF u v f i) then k else lab (swpF u v f i)) = if B i then k else lab i
    by_cases h1 : i = u
    · rw [h1, su, if_neg bfv, if_neg bu, h.inv v hv, blab v bv]
    · by_cases h2 : i = v
      · rw [h2, sv, if_pos bfu, if_pos bv]
      · rw [so i h1 h2]
        by_cases hb : B i
        · rw [if_pos hb, if_pos (bfwd i hb h2)]
        · rw [if_neg hb, if_neg (fun hb' => hb (bback i hi h1 hb').1), h.inv i hi]
  · have e' : (if B i then k else lab i) = if B j then k else lab j := e
    by_cases h1 : B i <;> by_cases h2 : B j
    · exact inB i j h1 h2
    · rw [if_pos h1, if_neg h2] at e'; have := h.lt j hj; omega
    · rw [if_neg h1, if_pos h2] at e'; have := h.lt i hi; omega
    · rw [if_neg h1, if_neg h2] at e'
      obtain ⟨n, rfl⟩ := h.sep i j hi hj e'
      exact outB n i hi h1 h2
end Go.Proofs.Ytenffkplneimlab


/- Rows of labels numbered by their first ones; the rounds of a row of next ones; what the reference's Faces tells. -/
namespace Go.Proofs.Ytenffkplneimlab
open Go Go.RowKit

/-- Labels from 0 on, each new one behind all lesser ones. -/
structure Sp.RG (l : List Int) : Prop where
  nn : ∀ i, i < l.length → 0 ≤ l.getD i 0
  sm : ∀ i, i < l.length → ∀ c, 0 ≤ c → c < l.getD i 0 → ∃ j, j < i ∧ l.getD j 0 = c
structure Sp.Num (l : List Int) (k : Nat) : Prop where
  rg : Sp.RG l
  lt : ∀ i, i < l.length → l.getD i 0 < (k : Int)
  on : ∀ c : Nat, c < k → ∃ i, i < l.length ∧ l.getD i 0 = (c : Int)
theorem Sp.Num.count {l : List Int} {k k' : Nat} (h : Sp.Num l k) (h' : Sp.Num l k') : k = k' := by
  rcases Nat.lt_trichotomy k k' with h1 | h1 | h1
  · obtain ⟨i, a, b⟩ := h'.on k h1
    have := h.lt i a
    omega
  · exact h1
  · obtain ⟨i, a, b⟩ := h.on k' h1
    have := h'.lt i a
    omega
/-- A row of next ones as a function. -/
def Sp.fn (st : List Int) (i : Nat) : Nat := (st.getD i 0).toNat
theorem Sp.Perm.fnP {st : List Int} (h : Sp.Perm st) : PermF st.length (Sp.fn st) := by
  have hb : ∀ i, i < st.length → 0 ≤ st.getD i 0 ∧ st.getD i 0 < (st.length : Int) := fun i hi => h.bd _ (Sp.getD_mem hi)
  refine ⟨fun i hi => ?_, fun i j hi hj e => ?_⟩
  · have := hb i hi
    unfold Sp.fn
    omega
  · have h1 := hb i hi
    have h2 := hb j hj
    unfold Sp.fn at e
    exact h.inj i j hi hj (by omega)
theorem Sp.Perm.nth_it {st : List Int} (h : Sp.Perm st) {i : Nat} (hi : i < st.length) : ∀ m, Sp.nth st i m = ((itf (Sp.fn st) i m : Nat) : Int)
  | 0 => rfl
  | m + 1 => by
    have h1 := h.nth_it hi m
    have h2 := h.fnP.it hi m
    show st.getD (Sp.nth st i m).toNat 0 = ((Sp.fn st (itf (Sp.fn st) i m) : Nat) : Int)
    rw [h1, Int.toNat_natCast]
    have := h.bd _ (Sp.getD_mem h2)
    show _ = (((st.getD (itf (Sp.fn st) i m) 0).toNat : Nat) : Int)
    omega
theorem Sp.Perm.mem_rounds {st : List Int} (h : Sp.Perm st) {d : Nat} (hd : d < st.length) (x : Int) : x ∈ Sp.rounds st d (Sp.per st d) ↔ ∃ j : Nat, x = (j : Int) ∧ OrbF (Sp.fn st) d j := by
  obtain ⟨p1, p2, p3, p4⟩ := h.per hd
  have hper : itf (Sp.fn st) d (Sp.per st d) = d := by have := h.nth_it hd (Sp.per st d); omega
  constructor
  · intro hx
    obtain ⟨m, hm, rfl⟩ := List.mem_map.1 hx
    exact ⟨_, h.nth_it hd m, m, rfl⟩
  · rintro ⟨j, rfl, m, rfl⟩
    have hm : ∀ m, ∃ m', m' < Sp.per st d ∧ itf (Sp.fn st) d m = itf (Sp.fn st) d m' := by
      intro m
      induction m using Nat.strongRecOn with
      | _ m ih =>
        rcases Nat.lt_or_ge m (Sp.per st d) with h1 | h1
        · exact ⟨m, h1, rfl⟩
        · obtain ⟨m', h2, h3⟩ := ih (m - Sp.per st d) (by omega)
          refine ⟨m', h2, ?_⟩
          rw [← h3]
          conv => lhs; rw [show m = Sp.per st d + (m - Sp.per st d) by omega, itf_add, hper]
    obtain ⟨m', h1, h2⟩ := hm m
    rw [h2]
    exact List.mem_map.2 ⟨m', List.mem_range.2 h1, h.nth_it hd m'⟩
theorem PermF.back {L : Nat} {f : Nat → Nat} (h : PermF L f) {st : List Int} (hs : Sp.Perm st) (hL : st.length = L) (hf : f = Sp.fn st) {i j : Nat} (hi : i < L) (ho : OrbF f i j) : OrbF f j i := by
  subst hf
  obtain ⟨m, rfl⟩ := ho
  obtain ⟨p1, p2, p3, p4⟩ := hs.per (d := i) (by omega)
  have hper : itf (Sp.fn st) i (Sp.per st i) = i := by have := hs.nth_it (i := i) (by omega) (Sp.per st i); omega
  have hmul : ∀ n, itf (Sp.fn st) i (n * Sp.per st i) = i := by
    intro n
    induction n with
    | zero => rw [Nat.zero_mul]; rfl
    | succ n ih => rw [Nat.succ_mul, itf_add, ih, hper]
  refine ⟨m * Sp.per st i - m, ?_⟩
  have hle : m ≤ m * Sp.per st i := Nat.le_mul_of_pos_right m p1
  rw [← itf_add, show m + (m * Sp.per st i - m) = m * Sp.per st i by omega, hmul]
theorem Sp.Perm.sym {st : List Int} (h : Sp.Perm st) {i j : Nat} (hi : i < st.length) (ho : OrbF (Sp.fn st) i j) : OrbF (Sp.fn st) j i := PermF.back h.fnP h rfl rfl hi ho
theorem Sp.paint_get (k : Int) : ∀ (ds of : List Int) (i : Nat), (∀ x ∈ ds, 0 ≤ x) → i < of.length → (Sp.paint k of ds).getD i 0 = if (i : Int) ∈ ds then k else of.getD i 0
  | [], of, i, _, _ => by rw [if_neg (by simp)]; rfl
  | d :: r, of, i, h, hi => by
    show (Sp.paint k (of.set d.toNat k) r).getD i 0 = _
    rw [Sp.paint_get k r (of.set d.toNat k) i (fun x hx => h x (by simp [hx])) (by rw [List.length_set]; exact hi)]
    have hd := h d (by simp)
    by_cases h1 : (i : Int) ∈ r
    · rw [if_pos h1, if_pos (List.mem_cons_of_mem _ h1)]
    · rw [if_neg h1]
      by_cases h2 : d.toNat < of.length
      · rw [getD_set_eq of i d.toNat k h2]
        by_cases h3 : i = d.toNat
        · rw [if_pos h3, if_pos (by rw [show (i : Int) = d by omega]; simp)]
        · rw [if_neg h3, if_neg (by
            intro hm
            rcases List.mem_cons.1 hm with e | e
            · omega
            · exact h1 e)]
      · rw [List.set_eq_of_length_le (by omega), if_neg (by
          intro hm
          rcases List.mem_cons.1 hm with e | e
          · omega
          · exact h1 e)]
/-- What Faces has laid so far. -/
structure Sp.FSt (st : List Int) (d : Nat) (of : List Int) (k : Nat) : Prop where
  len : of.length = st.length
  bd : ∀ i, i < st.length → of.getD i 0 = -1 ∨ (0 ≤ of.getD i 0 ∧ of.getD i 0 < (k : Int))
  done : ∀ i, i < d → 0 ≤ of.getD i 0
  inv : ∀ i, i < st.length → of.getD (Sp.fn st i) 0 = of.getD i 0
  sep : ∀ i j, i < st.length → j < st.length → 0 ≤ of.getD i 0 → of.getD i 0 = of.getD j 0 → OrbF (Sp.fn st) i j
  rg : ∀ i, i < d → ∀ c, 0 ≤ c → c < of.getD i 0 → ∃ j, j < i ∧ of.getD j 0 = c
  on : ∀ c : Nat, c < k → ∃ i, i < d ∧ of.getD i 0 = (c : Int)
theorem getD_rep (n i : Nat) (x : Int) (h : i < n) : (List.replicate n x).getD i 0 = x := by
  rw [List.getD_eq_getElem?_getD, List.getElem?_replicate, if_pos h]; rfl
theorem Sp.FSt.first (st : List Int) (hp : Sp.Perm st) : Sp.FSt st 0 (List.replicate st.length (-1)) 0 := by
  refine ⟨by simp, fun i hi => .inl (getD_rep _ _ _ hi), fun i hi => by omega, fun i hi => by rw [getD_rep _ _ _ hi, getD_rep _ _ _ (hp.fnP.mp i hi)], fun i j hi hj h => ?_, fun i hi => by omega, fun c hc => by omega⟩
  rw [getD_rep _ _ _ hi] at h
  omega
theorem Sp.FSt.old {st : List Int} {d k : Nat} {of : List Int} (h : Sp.FSt st d of k) (hd : d < st.length) (h0 : 0 ≤ of.getD d 0) : Sp.FSt st (d + 1) of k := by
  refine ⟨h.len, h.bd, fun i hi => ?_, h.inv, h.sep, fun i hi c c0 c1 => ?_, fun c hc => ?_⟩
  · rcases Nat.lt_or_ge i d with h1 | h1
    · exact h.done i h1
    · rw [show i = d by omega]; exact h0
  · rcases Nat.lt_or_ge i d with h1 | h1
    · exact h.rg i h1 c c0 c1
    · rw [show i = d by omega] at c1 ⊢
      have hk : of.getD d 0 < (k : Int) := by rcases h.bd d hd with e | e <;> omega
      obtain ⟨j, h2, h3⟩ := h.on c.toNat (by omega)
      exact ⟨j, h2, by rw [h3]; omega⟩
  · obtain ⟨i, h1, h2⟩ := h.on c hc
    exact ⟨i, by omega, h2⟩
theorem Sp.FSt.orb {st : List Int} {d k : Nat} {of : List Int} (h : Sp.FSt st d of k) (hp : Sp.Perm st) {i : Nat} (hi : i < st.length) : ∀ m, of.getD (itf (Sp.fn st) i m) 0 = of.getD i 0
  | 0 => rfl
  | m + 1 => by
    show of.getD (Sp.fn st (itf (Sp.fn st) i m)) 0 = _
    rw [h.inv _ (hp.fnP.it hi m), h.orb hp hi m]
theorem Sp.FSt.new {st : List Int} {d k : Nat} {of : List Int} (h : Sp.FSt st d of k) (hp : Sp.Perm st) (hd : d < st.length) (h0 : ¬ 0 ≤ of.getD d 0) : Sp.FSt st (d + 1) (Sp.paint k of (Sp.rounds st d (Sp.per st d))) (k + 1) := by
  have hpos : ∀ x ∈ Sp.rounds st d (Sp.per st d), 0 ≤ x := fun x hx => by
    obtain ⟨j, rfl, -⟩ := (hp.mem_rounds hd x).1 hx
    omega
  have hget : ∀ i, i < st.length → (OrbF (Sp.fn st) d i ∧ (Sp.paint k of (Sp.rounds st d (Sp.per st d))).getD i 0 = (k : Int) ∧ of.getD i 0 = -1) ∨ (¬ OrbF (Sp.fn st) d i ∧ (Sp.paint k of (Sp.rounds st d (Sp.per st d))).getD i 0 = of.getD i 0) := by
    intro i hi
    rw [Sp.paint_get k _ of i hpos (by rw [h.len]; exact hi)]
    by_cases ho : OrbF (Sp.fn st) d i
    · left
      refine ⟨ho, ?_, ?_⟩
      · rw [if_pos ((hp.mem_rounds hd _).2 ⟨i, rfl, ho⟩)]
      · have e : of.getD i 0 = of.getD d 0 := by obtain ⟨m, rfl⟩ := ho; exact h.orb hp hd m
        rcases h.bd d hd with e1 | e1
        · rw [e, e1]
        · omega
    · right
      refine ⟨ho, ?_⟩
      rw [if_neg (fun hm => by
        obtain ⟨j, e, o⟩ := (hp.mem_rounds hd _).1 hm
        have : i = j := by omega
        exact ho (this ▸ o))]
  have hdd := hget d hd
  have hdk : (Sp.paint k of (Sp.rounds st d (Sp.per st d))).getD d 0 = (k : Int) := by
    rcases hdd with e | e
    · exact e.2.1
    · exact absurd (OrbF.refl _ _) e.1
  refine ⟨by rw [Sp.paint_len]; exact h.len, fun i hi => ?_, fun i hi => ?_, fun i hi => ?_, fun i j hi hj hn e => ?_, fun i hi c c0 c1 => ?_, fun c hc => ?_⟩
  · rcases hget i hi with ⟨-, e, -⟩ | ⟨-, e⟩
    · right; rw [e]; omega
    · rw [e]; rcases h.bd i hi with e1 | e1
      · exact .inl e1
      · exact .inr ⟨e1.1, by omega⟩
  · rcases Nat.lt_or_ge i d with h1 | h1
    · rcases hget i (by omega) with ⟨-, e, -⟩ | ⟨-, e⟩
      · rw [e]; omega
      · rw [e]; exact h.done i h1
    · rw [show i = d by omega, hdk]; omega
  · have hfi := hp.fnP.mp i hi
    rcases hget i hi with ⟨o, e, -⟩ | ⟨o, e⟩
    · rcases hget _ hfi with ⟨-, e', -⟩ | ⟨o', -⟩
      · rw [e, e']
      · exact absurd (o.trans (OrbF.one _ i)) o'
    · rcases hget _ hfi with ⟨o', -, -⟩ | ⟨-, e'⟩
      · exact absurd (o'.trans (hp.sym hi (OrbF.one _ i))) o
      · rw [e, e']; exact h.inv i hi
  · rcases hget i hi with ⟨o, e1, -⟩ | ⟨o, e1⟩ <;> rcases hget j hj with ⟨o', e2, -⟩ | ⟨o', e2⟩
    · exact (hp.sym hd o).trans o'
    · rw [e1, e2] at e
      rcases h.bd j hj with e3 | e3 <;> omega
    · rw [e1, e2] at e
      rcases h.bd i hi with e3 | e3 <;> omega
    · rw [e1, e2] at e
      rw [e1] at hn
      exact h.sep i j hi hj hn e
  · rcases Nat.lt_or_ge i d with h1 | h1
    · rcases hget i (by omega) with ⟨-, -, e⟩ | ⟨-, e⟩
      · have := h.done i h1; omega
      · rw [e] at c1
        obtain ⟨j, h2, h3⟩ := h.rg i h1 c c0 c1
        refine ⟨j, h2, ?_⟩
        rcases hget j (by omega) with ⟨-, -, e'⟩ | ⟨-, e'⟩
        · omega
        · rw [e', h3]
    · rw [show i = d by omega] at c1 ⊢
      rw [hdk] at c1
      obtain ⟨j, h2, h3⟩ := h.on c.toNat (by omega)
      refine ⟨j, h2, ?_⟩
      rcases hget j (by omega) with ⟨-, -, e'⟩ | ⟨-, e'⟩
      · omega
      · rw [e', h3]; omega
  · by_cases hk : c = k
    · exact ⟨d, by omega, by rw [hdk, hk]⟩
    · obtain ⟨i, h1, h2⟩ := h.on c (by omega)
      refine ⟨i, by omega, ?_⟩
      rcases hget i (by omega) with ⟨-, -, e'⟩ | ⟨-, e'⟩
      · omega
      · rw [e', h2]
theorem Sp.faces2Go_st {st : List Int} (hp : Sp.Perm st) : ∀ f d of k, d + f = st.length → Sp.FSt st d of k → Sp.FSt st st.length (Sp.faces2Go st f d of k).1 (Sp.faces2Go st f d of k).2
  | 0, d, of, k, hd, h => by rw [show st.length = d by omega] ; exact h
  | f + 1, d, of, k, hd, h => by
    rw [Sp.faces2Go]
    by_cases h0 : 0 ≤ of.getD d 0
    · rw [if_pos h0]
      exact Sp.faces2Go_st hp f (d + 1) of k (by omega) (h.old (by omega) h0)
    · rw [if_neg h0]
      exact Sp.faces2Go_st hp f (d + 1) _ (k + 1) (by omega) (h.new hp (by omega) h0)
/-- What the reference's Faces tells: labels numbered by their first ones, that tell the rounds apart. -/
theorem Sp.faces2_st {q : Sp.Net} (hp : Sp.Perm q.next) (hl : q.next.length = q.tail.length) (hev : q.tail.length % 2 = 0) : Sp.FSt (Sp.behindL q.next) (Sp.behindL q.next).length (Sp.faces2 q).1 (Sp.faces2 q).2 := by
  have hb := hp.behind (by rw [hl]; exact hev)
  have hlb : (Sp.behindL q.next).length = q.tail.length := by rw [Sp.behindL_len, hl]
  unfold Sp.faces2
  refine Sp.faces2Go_st hb _ 0 _ 0 (by rw [hlb]; omega) ?_
  rw [← hlb]
  exact Sp.FSt.first _ hb
theorem Sp.FSt.cls {st : List Int} {of : List Int} {k : Nat} (h : Sp.FSt st st.length of k) : Cls st.length (Sp.fn st) (fun i => (of.getD i 0).toNat) k := by
  have hb : ∀ i, i < st.length → 0 ≤ of.getD i 0 ∧ of.getD i 0 < (k : Int) := fun i hi => by
    have := h.done i hi
    rcases h.bd i hi with e | e <;> omega
  refine ⟨fun i hi => ?_, fun c hc => ?_, fun i hi => ?_, fun i j hi hj e => ?_⟩
  · have := hb i hi
    show (of.getD i 0).toNat < k
    omega
  · obtain ⟨i, h1, h2⟩ := h.on c hc
    exact ⟨i, h1, by show (of.getD i 0).toNat = c; omega⟩
  · show (of.getD (Sp.fn st i) 0).toNat = (of.getD i 0).toNat
    rw [h.inv i hi]
  · have e' : (of.getD i 0).toNat = (of.getD j 0).toNat := e
    have h1 := hb i hi
    have h2 := hb j hj
    exact h.sep i j hi hj h1.1 (by omega)
end Go.Proofs.Ytenffkplneimlab


/- The program's rounds, faces, a dart's round: as the reference's. -/
namespace Go.Proofs.Ytenffkplneimlab
open Go Go.RowKit

/-- Closed under next ones. -/
def Sp.Shut (st row : List Int) : Prop := ∀ i, i < st.length → (i : Int) ∈ row → ((Sp.fn st i : Nat) : Int) ∈ row
theorem Sp.Shut.orb {st row : List Int} (hp : Sp.Perm st) (h : Sp.Shut st row) {i j : Nat} (hi : i < st.length) (hm : (i : Int) ∈ row) (ho : OrbF (Sp.fn st) i j) : (j : Int) ∈ row := by
  obtain ⟨m, rfl⟩ := ho
  induction m with
  | zero => exact hm
  | succ m ih => exact h _ (hp.fnP.it hi m) ih
theorem Sp.Shut.add {st row : List Int} (hp : Sp.Perm st) (h : Sp.Shut st row) {d : Nat} (hd : d < st.length) : Sp.Shut st (row ++ Sp.rounds st d (Sp.per st d)) := by
  intro i hi hm
  rcases List.mem_append.1 hm with h1 | h1
  · exact List.mem_append_left _ (h i hi h1)
  · refine List.mem_append_right _ ?_
    obtain ⟨j, e, o⟩ := (hp.mem_rounds hd _).1 h1
    have : i = j := by omega
    subst this
    exact (hp.mem_rounds hd _).2 ⟨_, rfl, o.trans (OrbF.one _ _)⟩
end Go.Proofs.Ytenffkplneimlab


/- Nets that were grown in a plane are plane: their vertices' rounds, their faces, all in one piece. -/
namespace Go.Proofs.Ytenffkplneimlab
open Go Go.RowKit

theorem layIn_get (l : List Int) (bh d x : Nat) (hb : bh < l.length) (hd : d < l.length) : (Sp.layIn l bh d).getD x 0 = if x = bh then (d : Int) else if x = d then l.getD bh 0 else l.getD x 0 := by
  unfold Sp.layIn
  rw [getD_set_eq _ _ _ _ (by rw [List.length_set]; exact hb), getD_set_eq _ _ _ _ hd]
theorem fn_lay (l : List Int) (bh d x : Nat) (hb : bh < l.length) (hd : d < l.length) : Sp.fn (Sp.layIn l bh d) x = if x = bh then d else if x = d then Sp.fn l bh else Sp.fn l x := by
  unfold Sp.fn
  rw [layIn_get l bh d x hb hd]
  by_cases h1 : x = bh
  · rw [if_pos h1, if_pos h1]; omega
  · rw [if_neg h1, if_neg h1]
    by_cases h2 : x = d
    · rw [if_pos h2, if_pos h2]
    · rw [if_neg h2, if_neg h2]
theorem fn_app (l : List Int) (x : Nat) (hx : x < l.length + 2) : Sp.fn (l ++ [(l.length : Int), ((l.length + 1 : Nat) : Int)]) x = if x < l.length then Sp.fn l x else x := by
  unfold Sp.fn
  rw [List.getD_eq_getElem?_getD]
  by_cases h1 : x < l.length
  · rw [if_pos h1, List.getElem?_append_left h1, ← List.getD_eq_getElem?_getD]
  · rw [if_neg h1, List.getElem?_append_right (by omega)]
    have : x = l.length ∨ x = l.length + 1 := by omega
    rcases this with rfl | rfl
    · simp
    · simp
theorem fn_behind (l : List Int) (x : Nat) (hx : x < l.length) : Sp.fn (Sp.behindL l) x = Sp.fn l (Sp.oth x) := by
  unfold Sp.fn
  rw [Sp.behindL_get l x hx]
theorem oth_new {L : Nat} (h : L % 2 = 0) : Sp.oth L = L + 1 ∧ Sp.oth (L + 1) = L := by
  unfold Sp.oth
  constructor
  · rw [if_pos h]
  · rw [if_neg (by omega)]; omega
theorem oth_ne_iff {x e : Nat} : Sp.oth x = e ↔ x = Sp.oth e := ⟨fun h => by rw [← h, oth_oth], fun h => by rw [h, oth_oth]⟩
/-- The next ones behind a new edge to a new vertex; across a face; a loop. -/
theorem next_new {nx : List Int} {e : Nat} (he : e < nx.length) (x : Nat) (hx : x < nx.length + 2) :
    Sp.fn (Sp.layIn (nx ++ [(nx.length : Int), ((nx.length + 1 : Nat) : Int)]) e nx.length) x = fixF (nx.length + 1) (insF nx.length e (Sp.fn nx)) x := by
  rw [fn_lay _ _ _ _ (by simp; omega) (by simp)]
  unfold fixF insF
  by_cases h1 : x = e
  · rw [if_pos h1, if_neg (by omega), if_pos h1]
  · rw [if_neg h1]
    by_cases h2 : x = nx.length
    · rw [if_pos h2, if_neg (by omega), if_neg h1, if_pos h2, fn_app _ _ (by omega), if_pos he]
    · rw [if_neg h2, fn_app _ _ hx]
      by_cases h3 : x = nx.length + 1
      · rw [if_pos h3, if_neg (by omega)]; exact h3
      · rw [if_neg h3, if_neg h1, if_neg h2, if_pos (by omega)]
theorem next_across {nx : List Int} {e g : Nat} (he : e < nx.length) (hg : g < nx.length) (_hne : g ≠ e) (x : Nat) (hx : x < nx.length + 2) :
    Sp.fn (Sp.layIn (Sp.layIn (nx ++ [(nx.length : Int), ((nx.length + 1 : Nat) : Int)]) e nx.length) g (nx.length + 1)) x = insF (nx.length + 1) g (insF nx.length e (Sp.fn nx)) x := by
  have hl : (nx ++ [(nx.length : Int), ((nx.length + 1 : Nat) : Int)]).length = nx.length + 2 := by simp
  rw [fn_lay _ _ _ _ (by rw [Sp.layIn_len, hl]; omega) (by rw [Sp.layIn_len, hl]; omega)]
  unfold insF
  by_cases h1 : x = g
  · rw [if_pos h1, if_pos h1]
  · rw [if_neg h1, if_neg h1]
    by_cases h2 : x = nx.length + 1
    · rw [if_pos h2, if_pos h2, next_new he g (by omega)]
      unfold fixF insF
      rw [if_neg (by omega)]
    · rw [if_neg h2, if_neg h2, next_new he x hx]
      unfold fixF insF
      rw [if_neg h2]
theorem next_loop {nx : List Int} {e : Nat} (he : e < nx.length) (x : Nat) (hx : x < nx.length + 2) :
    Sp.fn (Sp.layIn (Sp.layIn (nx ++ [(nx.length : Int), ((nx.length + 1 : Nat) : Int)]) e nx.length) nx.length (nx.length + 1)) x = insF (nx.length + 1) nx.length (insF nx.length e (Sp.fn nx)) x := by
  have hl : (nx ++ [(nx.length : Int), ((nx.length + 1 : Nat) : Int)]).length = nx.length + 2 := by simp
  rw [fn_lay _ _ _ _ (by rw [Sp.layIn_len, hl]; omega) (by rw [Sp.layIn_len, hl]; omega)]
  unfold insF
  by_cases h1 : x = nx.length
  · rw [if_pos h1, if_pos h1]
  · rw [if_neg h1, if_neg h1]
    by_cases h2 : x = nx.length + 1
    · rw [if_pos h2, if_pos h2, next_new he nx.length (by omega)]
      unfold fixF insF
      rw [if_neg (by omega)]
    · rw [if_neg h2, if_neg h2, next_new he x hx]
      unfold fixF insF
      rw [if_neg h2]
/-- The ones behind about the faces. -/
theorem behind_new {nx : List Int} {e : Nat} (he : e < nx.length) (hev : nx.length % 2 = 0) (x : Nat) (hx : x < nx.length + 2) :
    Sp.fn (Sp.behindL (Sp.layIn (nx ++ [(nx.length : Int), ((nx.length + 1 : Nat) : Int)]) e nx.length)) x = insF (nx.length + 1) nx.length (insF nx.length (Sp.oth e) (Sp.fn (Sp.behindL nx))) x := by
  have hoe := oth_lt he hev
  obtain ⟨o1, o2⟩ := oth_new hev
  have hox : Sp.oth x < nx.length + 2 := oth_lt hx (by omega)
  rw [fn_behind _ _ (by rw [Sp.layIn_len]; simpa using hx), next_new he _ hox]
  unfold fixF insF
  by_cases h1 : x = nx.length
  · rw [if_pos h1, h1, o1, if_pos rfl]
  · rw [if_neg h1]
    by_cases h2 : x = nx.length + 1
    · rw [if_pos h2, h2, o2, if_neg (by omega), if_neg (by omega), if_pos rfl, if_neg (by omega), if_pos rfl, fn_behind _ _ hoe, oth_oth]
    · have hxl : x < nx.length := by omega
      have hox' := oth_lt hxl hev
      rw [if_neg h2, if_neg (by omega)]
      by_cases h3 : x = Sp.oth e
      · rw [if_pos h3, if_pos (by rw [h3, oth_oth])]
      · rw [if_neg h3, if_neg (fun h => h3 (oth_ne_iff.1 h)), if_neg (by omega), if_neg (by omega), fn_behind _ _ hxl]
theorem behind_across {nx : List Int} {e g : Nat} (he : e < nx.length) (hg : g < nx.length) (hne : g ≠ e) (hev : nx.length % 2 = 0) (x : Nat) (hx : x < nx.length + 2) :
    Sp.fn (Sp.behindL (Sp.layIn (Sp.layIn (nx ++ [(nx.length : Int), ((nx.length + 1 : Nat) : Int)]) e nx.length) g (nx.length + 1))) x = swpF nx.length (nx.length + 1) (insF (nx.length + 1) (Sp.oth g) (insF nx.length (Sp.oth e) (Sp.fn (Sp.behindL nx)))) x := by
  have hoe := oth_lt he hev
  have hog := oth_lt hg hev
  have hoge : Sp.oth g ≠ Sp.oth e := fun h => hne (oth_inj h)
  obtain ⟨o1, o2⟩ := oth_new hev
  have hox : Sp.oth x < nx.length + 2 := oth_lt hx (by omega)
  rw [fn_behind _ _ (by rw [Sp.layIn_len, Sp.layIn_len]; simpa using hx), next_across he hg hne _ hox]
  unfold swpF insF
  by_cases h1 : x = nx.length
  · rw [if_pos h1, h1, o1, if_neg (by omega), if_pos rfl, if_neg hne, if_neg (by omega), if_neg (by omega), if_pos rfl, if_neg hoge, if_neg (by omega), fn_behind _ _ hog, oth_oth]
  · rw [if_neg h1]
    by_cases h2 : x = nx.length + 1
    · rw [if_pos h2, h2, o2, if_neg (by omega), if_neg (by omega), if_neg (by omega), if_pos rfl, if_neg (by omega), if_neg (by omega), if_neg (by omega), if_pos rfl, fn_behind _ _ hoe, oth_oth]
    · have hxl : x < nx.length := by omega
      have hox' := oth_lt hxl hev
      rw [if_neg h2]
      by_cases h4 : x = Sp.oth g
      · rw [if_pos h4, if_pos (by rw [h4, oth_oth])]
      · rw [if_neg h4, if_neg (fun h => h4 (oth_ne_iff.1 h)), if_neg (by omega), if_neg h2]
        by_cases h3 : x = Sp.oth e
        · rw [if_pos h3, if_pos (by rw [h3, oth_oth])]
        · rw [if_neg h3, if_neg (fun h => h3 (oth_ne_iff.1 h)), if_neg (by omega), if_neg h1, fn_behind _ _ hxl]
theorem behind_loop {nx : List Int} {e : Nat} (he : e < nx.length) (hev : nx.length % 2 = 0) (x : Nat) (hx : x < nx.length + 2) :
    Sp.fn (Sp.behindL (Sp.layIn (Sp.layIn (nx ++ [(nx.length : Int), ((nx.length + 1 : Nat) : Int)]) e nx.length) nx.length (nx.length + 1))) x = fixF (nx.length + 1) (insF nx.length (Sp.oth e) (Sp.fn (Sp.behindL nx))) x := by
  have hoe := oth_lt he hev
  obtain ⟨o1, o2⟩ := oth_new hev
  have hox : Sp.oth x < nx.length + 2 := oth_lt hx (by omega)
  rw [fn_behind _ _ (by rw [Sp.layIn_len, Sp.layIn_len]; simpa using hx), next_loop he _ hox]
  unfold fixF insF
  by_cases h1 : x = nx.length
  · rw [h1, o1, if_neg (by omega), if_pos rfl, if_neg (by omega), if_pos rfl, if_neg (by omega), if_neg (by omega), if_pos rfl, fn_behind _ _ hoe, oth_oth]
  · by_cases h2 : x = nx.length + 1
    · rw [if_pos h2, h2, o2, if_pos rfl]
    · have hxl : x < nx.length := by omega
      have hox' := oth_lt hxl hev
      rw [if_neg h2, if_neg (by omega), if_neg (by omega)]
      by_cases h3 : x = Sp.oth e
      · rw [if_pos h3, if_pos (by rw [h3, oth_oth])]
      · rw [if_neg h3, if_neg (fun h => h3 (oth_ne_iff.1 h)), if_neg (by omega), if_neg h1, fn_behind _ _ hxl]
/-- Which vertices darts lead to, in so many steps. -/
def Sp.reachN (tl : List Int) (u : Int) : Nat → Int → Prop
  | 0, v => u = v
  | n + 1, v => ∃ d, d < tl.length ∧ Sp.reachN tl u n (tl.getD d 0) ∧ tl.getD (Sp.oth d) 0 = v
def Sp.Reach (tl : List Int) (u v : Int) : Prop := ∃ n, Sp.reachN tl u n v
theorem Sp.Reach.refl {tl : List Int} (v : Int) : Sp.Reach tl v v := ⟨0, rfl⟩
theorem Sp.Reach.step {tl : List Int} {u : Int} {d : Nat} (h : Sp.Reach tl u (tl.getD d 0)) (hd : d < tl.length) : Sp.Reach tl u (tl.getD (Sp.oth d) 0) := by
  obtain ⟨n, hn⟩ := h
  exact ⟨n + 1, d, hd, hn, rfl⟩
theorem Sp.Reach.ind {tl : List Int} {u : Int} {p : Int → Prop} (h0 : p u) (h1 : ∀ d, d < tl.length → Sp.Reach tl u (tl.getD d 0) → p (tl.getD d 0) → p (tl.getD (Sp.oth d) 0)) {v : Int} (h : Sp.Reach tl u v) : p v := by
  obtain ⟨n, hn⟩ := h
  induction n generalizing v with
  | zero => exact (show u = v from hn) ▸ h0
  | succ n ih =>
    obtain ⟨d, hd, h2, h3⟩ := hn
    rw [← h3]
    exact h1 d hd ⟨n, h2⟩ (ih h2)
theorem app2_get (tl : List Int) (a b : Int) (x : Nat) (hx : x < tl.length + 2) : (tl ++ [a, b]).getD x 0 = if x < tl.length then tl.getD x 0 else if x = tl.length then a else b := by
  rw [List.getD_eq_getElem?_getD]
  by_cases h1 : x < tl.length
  · rw [if_pos h1, List.getElem?_append_left h1, ← List.getD_eq_getElem?_getD]
  · rw [if_neg h1, List.getElem?_append_right (by omega)]
    have : x = tl.length ∨ x = tl.length + 1 := by omega
    rcases this with rfl | rfl
    · simp
    · rw [if_neg (by omega), show tl.length + 1 - tl.length = 1 by omega]; rfl
theorem Sp.Reach.app {tl : List Int} (hev : tl.length % 2 = 0) (a b : Int) {u v : Int} (h : Sp.Reach tl u v) : Sp.Reach (tl ++ [a, b]) u v := by
  refine h.ind (p := fun v => Sp.Reach (tl ++ [a, b]) u v) (.refl _) (fun d hd _ ih => ?_)
  have ho := oth_lt hd hev
  have e1 : (tl ++ [a, b]).getD d 0 = tl.getD d 0 := by rw [app2_get _ _ _ _ (by omega), if_pos hd]
  have e2 : (tl ++ [a, b]).getD (Sp.oth d) 0 = tl.getD (Sp.oth d) 0 := by rw [app2_get _ _ _ _ (by omega), if_pos ho]
  rw [← e2]
  refine .step ?_ (by simp; omega)
  rw [e1]
  exact ih
/-- A plane net that has darts. -/
structure Sp.Plain (q : Sp.Net) : Prop where
  vert : Cls q.tail.length (Sp.fn q.next) (fun i => (q.tail.getD i 0).toNat) q.n.toNat
  face : ∃ lab F, Cls q.tail.length (Sp.fn (Sp.behindL q.next)) lab F ∧ q.n - ((q.tail.length / 2 : Nat) : Int) + ((F : Nat) : Int) = 2
  conn : ∀ v, 0 ≤ v → v < q.n → Sp.Reach q.tail 0 v
theorem Sp.PlaneQ.mpN {q : Sp.Net} {i : Nat} (h : Sp.PlaneQ q i) : ∀ x, x < q.tail.length → Sp.fn q.next x < q.tail.length := fun x hx => by
  have := h.pm.fnP.mp x (by rw [h.nx]; exact hx)
  rw [h.nx] at this; exact this
theorem Sp.PlaneQ.pmB {q : Sp.Net} {i : Nat} (h : Sp.PlaneQ q i) : PermF q.tail.length (Sp.fn (Sp.behindL q.next)) := by
  have := (h.pm.behind (by rw [h.nx]; exact h.ev)).fnP
  rw [Sp.behindL_len, h.nx] at this; exact this
theorem insF_mp {L u : Nat} {f : Nat → Nat} (h : ∀ i, i < L → f i < L) (hu : u < L) : ∀ i, i < L + 1 → insF L u f i < L + 1 := fun i hi => by
  unfold insF
  have := h u hu
  split
  · omega
  · split
    · omega
    · have := h i (by omega); omega
theorem fixF_mp {L : Nat} {f : Nat → Nat} (h : ∀ i, i < L → f i < L) : ∀ i, i < L + 1 → fixF L f i < L + 1 := fun i hi => by
  unfold fixF
  split
  · omega
  · have := h i (by omega); omega
theorem Sp.Plain.growN {q : Sp.Net} {i : Nat} (hq : Sp.PlaneQ q i) (h : Sp.Plain q) (e : Nat) (he : e < q.tail.length) (c d : Int) : Sp.Plain (Sp.growN q e c d) := by
  have hn0 := hq.n0
  have hL : (Sp.growN q e c d).tail.length = q.tail.length + 2 := by simp [Sp.growN]
  have hen : e < q.next.length := by rw [hq.nx]; exact he
  have hevn : q.next.length % 2 = 0 := by rw [hq.nx]; exact hq.ev
  have hoe := oth_lt he hq.ev
  have hmp1 := insF_mp hq.mpN he
  have hmpB := insF_mp hq.pmB.mp hoe
  refine ⟨?_, ?_, ?_⟩
  · rw [hL]
    have h1 := (h.vert.ins hq.mpN he).fix hmp1
    have hk : (Sp.growN q e c d).n.toNat = q.n.toNat + 1 := by show (q.n + 1).toNat = _; omega
    rw [hk]
    refine h1.congr (fixF_mp hmp1) (fun x hx => ?_) (fun x hx => ?_)
    · have := next_new hen x (by rw [hq.nx]; exact hx)
      rw [hq.nx] at this
      exact this
    · show ((q.tail ++ [q.tail.getD e 0, q.n]).getD x 0).toNat = if x = q.tail.length + 1 then q.n.toNat else if x = q.tail.length then (q.tail.getD e 0).toNat else (q.tail.getD x 0).toNat
      rw [app2_get _ _ _ _ hx]
      by_cases h2 : x < q.tail.length
      · rw [if_pos h2, if_neg (by omega), if_neg (by omega)]
      · rw [if_neg h2]
        by_cases h3 : x = q.tail.length
        · rw [if_pos h3, if_neg (by omega), if_pos h3]
        · rw [if_neg h3, if_pos (by omega)]
  · obtain ⟨lab, F, hf, he2⟩ := h.face
    refine ⟨fun x => if x = q.tail.length + 1 then (if q.tail.length = q.tail.length then lab (Sp.oth e) else lab q.tail.length) else if x = q.tail.length then lab (Sp.oth e) else lab x, F, ?_, ?_⟩
    · rw [hL]
      refine ((hf.ins hq.pmB.mp hoe).ins hmpB (u := q.tail.length) (by omega)).congr (insF_mp hmpB (by omega)) (fun x hx => ?_) (fun x hx => rfl)
      have := behind_new hen hevn x (by rw [hq.nx]; exact hx)
      rw [hq.nx] at this
      exact this
    · rw [hL]
      show q.n + 1 - (((q.tail.length + 2) / 2 : Nat) : Int) + (F : Int) = 2
      omega
  · intro v h0 h1
    have h1' : v < q.n + 1 := h1
    show Sp.Reach (q.tail ++ [q.tail.getD e 0, q.n]) 0 v
    rcases Int.lt_or_le v q.n with h2 | h2
    · exact (h.conn v h0 h2).app hq.ev _ _
    · have hv : v = q.n := by omega
      have o := oth_new hq.ev
      have e1 : (q.tail ++ [q.tail.getD e 0, q.n]).getD (Sp.oth q.tail.length) 0 = v := by rw [o.1, app2_get _ _ _ _ (by omega), if_neg (by omega), if_neg (by omega), hv]
      rw [← e1]
      refine .step ?_ (by simp)
      rw [app2_get _ _ _ _ (by omega), if_neg (by omega), if_pos rfl]
      have htb := hq.tb _ (Sp.getD_mem he)
      exact (h.conn _ htb.1 htb.2).app hq.ev _ _
theorem Sp.Plain.growF {q : Sp.Net} {i : Nat} (hq : Sp.PlaneQ q i) (h : Sp.Plain q) (e g : Nat) (he : e < q.tail.length) (hg : g < q.tail.length) (c d : Int)
    (hs : (Sp.faces2 q).1.getD (q.next.getD g 0).toNat 0 = (Sp.faces2 q).1.getD (q.next.getD e 0).toNat 0) : Sp.Plain (Sp.growF q e g c d) := by
  have hL : (Sp.growF q e g c d).tail.length = q.tail.length + 2 := by simp [Sp.growF]
  have hen : e < q.next.length := by rw [hq.nx]; exact he
  have hgn : g < q.next.length := by rw [hq.nx]; exact hg
  have hevn : q.next.length % 2 = 0 := by rw [hq.nx]; exact hq.ev
  have hoe := oth_lt he hq.ev
  have hog := oth_lt hg hq.ev
  have hmp1 := insF_mp hq.mpN he
  have hmpB := insF_mp hq.pmB.mp hoe
  have hlab : ∀ x, x < q.tail.length + 2 → ((Sp.growF q e g c d).tail.getD x 0).toNat = if x = q.tail.length + 1 then (q.tail.getD g 0).toNat else if x = q.tail.length then (q.tail.getD e 0).toNat else (q.tail.getD x 0).toNat := fun x hx => by
    show ((q.tail ++ [q.tail.getD e 0, q.tail.getD g 0]).getD x 0).toNat = _
    rw [app2_get _ _ _ _ hx]
    by_cases h2 : x < q.tail.length
    · rw [if_pos h2, if_neg (by omega), if_neg (by omega)]
    · rw [if_neg h2]
      by_cases h3 : x = q.tail.length
      · rw [if_pos h3, if_neg (by omega), if_pos h3]
      · rw [if_neg h3, if_pos (by omega)]
  have hconn : ∀ v, 0 ≤ v → v < q.n → Sp.Reach (Sp.growF q e g c d).tail 0 v := fun v h0 h1 => (h.conn v h0 h1).app hq.ev _ _
  obtain ⟨lab, F, hf, he2⟩ := h.face
  by_cases hge : g = e
  · have hnx : (Sp.growF q e g c d).next = Sp.layIn (Sp.layIn (q.next ++ [(q.next.length : Int), ((q.next.length + 1 : Nat) : Int)]) e q.next.length) q.next.length (q.next.length + 1) := by
      unfold Sp.growF
      rw [hq.nx]
      show Sp.layIn _ (if g = e then _ else g) _ = _
      rw [if_pos hge]
    refine ⟨?_, ⟨fun x => if x = q.tail.length + 1 then F else if x = q.tail.length then lab (Sp.oth e) else lab x, F + 1, ?_, ?_⟩, hconn⟩
    · rw [hL, hnx]
      refine ((h.vert.ins hq.mpN he).ins hmp1 (u := q.tail.length) (by omega)).congr (insF_mp hmp1 (by omega)) (fun x hx => ?_) (fun x hx => ?_)
      · have := next_loop hen x (by rw [hq.nx]; exact hx)
        rw [hq.nx] at this ⊢
        exact this
      · show ((Sp.growF q e g c d).tail.getD x 0).toNat = if x = q.tail.length + 1 then (if q.tail.length = q.tail.length then (q.tail.getD e 0).toNat else (q.tail.getD q.tail.length 0).toNat) else if x = q.tail.length then (q.tail.getD e 0).toNat else (q.tail.getD x 0).toNat
        rw [hlab x hx, if_pos (rfl : q.tail.length = q.tail.length), hge]
    · rw [hL, hnx]
      refine ((hf.ins hq.pmB.mp hoe).fix hmpB).congr (fixF_mp hmpB) (fun x hx => ?_) (fun x hx => rfl)
      have := behind_loop hen hevn x (by rw [hq.nx]; exact hx)
      rw [hq.nx] at this ⊢
      exact this
    · rw [hL]
      show q.n - (((q.tail.length + 2) / 2 : Nat) : Int) + ((F + 1 : Nat) : Int) = 2
      omega
  · have hnx : (Sp.growF q e g c d).next = Sp.layIn (Sp.layIn (q.next ++ [(q.next.length : Int), ((q.next.length + 1 : Nat) : Int)]) e q.next.length) g (q.next.length + 1) := by
      unfold Sp.growF
      rw [hq.nx]
      show Sp.layIn _ (if g = e then _ else g) _ = _
      rw [if_neg hge]
    -- both darts leave the same face
    have hsame : lab (Sp.oth e) = lab (Sp.oth g) := by
      have hc := (Sp.faces2_st hq.pm hq.nx hq.ev).cls
      rw [Sp.behindL_len, hq.nx] at hc
      have fe : Sp.fn (Sp.behindL q.next) (Sp.oth e) = (q.next.getD e 0).toNat := by rw [fn_behind _ _ (by rw [hq.nx]; exact hoe), oth_oth]; rfl
      have fg : Sp.fn (Sp.behindL q.next) (Sp.oth g) = (q.next.getD g 0).toNat := by rw [fn_behind _ _ (by rw [hq.nx]; exact hog), oth_oth]; rfl
      have a1 := hq.pmB.mp _ hoe
      have a2 := hq.pmB.mp _ hog
      have ho := hc.sep _ _ a1 a2 (by rw [fe, fg, hs])
      have := hf.orb hq.pmB.mp a1 ho
      rw [hf.inv _ hoe, hf.inv _ hog] at this
      exact this
    have hc2 := (hf.ins hq.pmB.mp hoe).ins hmpB (u := Sp.oth g) (by omega)
    have hp2 := insF_perm (insF_perm hq.pmB hoe) (u := Sp.oth g) (by omega)
    have horb := hc2.sep q.tail.length (q.tail.length + 1) (by omega) (by omega) (by
      show (if q.tail.length = q.tail.length + 1 then _ else if q.tail.length = q.tail.length then lab (Sp.oth e) else _) = if q.tail.length + 1 = q.tail.length + 1 then (if Sp.oth g = q.tail.length then lab (Sp.oth e) else lab (Sp.oth g)) else _
      rw [if_neg (by omega), if_pos rfl, if_pos rfl, if_neg (by omega), hsame])
    obtain ⟨lab3, hc3⟩ := hc2.split hp2 (by omega) (by omega) (by omega) horb
    refine ⟨?_, ⟨lab3, F + 1, ?_, ?_⟩, hconn⟩
    · rw [hL, hnx]
      refine ((h.vert.ins hq.mpN he).ins hmp1 (u := g) (by omega)).congr (insF_mp hmp1 (by omega)) (fun x hx => ?_) (fun x hx => ?_)
      · have := next_across hen hgn hge x (by rw [hq.nx]; exact hx)
        rw [hq.nx] at this ⊢
        exact this
      · show ((Sp.growF q e g c d).tail.getD x 0).toNat = if x = q.tail.length + 1 then (if g = q.tail.length then (q.tail.getD e 0).toNat else (q.tail.getD g 0).toNat) else if x = q.tail.length then (q.tail.getD e 0).toNat else (q.tail.getD x 0).toNat
        rw [hlab x hx, if_neg (show ¬ g = q.tail.length by omega)]
    · rw [hL, hnx]
      refine hc3.congr (swpF_perm hp2 (by omega) (by omega)).mp (fun x hx => ?_) (fun x hx => rfl)
      have := behind_across hen hgn hge hevn x (by rw [hq.nx]; exact hx)
      rw [hq.nx] at this ⊢
      exact this
    · rw [hL]
      show q.n - (((q.tail.length + 2) / 2 : Nat) : Int) + ((F + 1 : Nat) : Int) = 2
      omega
end Go.Proofs.Ytenffkplneimlab


/- The law RotOnes, walked. -/
namespace Go.Proofs.Ytenffkplneimlab
open Go Go.RowKit

/-- A net that lies in a block of its own: what stays so in every world behind. -/
theorem boxed {w0 w3 : World} {q : Sp.Net} {tv nv cv : Value} (hb0 : Below w0.heap.size w0 w3) (h : NetI w3 (.agg #[.int .i64 q.n, tv, nv, cv]) q tv nv cv) (W : World) (hW : W = w3.alloc (.cells #[.int .i64 q.n, tv, nv, cv] 25)) :
    (∀ w', Below (w3.heap.size + 1) W w' → (w'.cell? ⟨w3.heap.size, 0, none⟩ = some (.int .i64 q.n) ∧ w'.cell? ⟨w3.heap.size, 1, none⟩ = some tv ∧ w'.cell? ⟨w3.heap.size, 2, none⟩ = some nv ∧ w'.cell? ⟨w3.heap.size, 3, none⟩ = some cv) ∧ NetI w' (.agg #[.int .i64 q.n, tv, nv, cv]) q tv nv cv ∧ Below w0.heap.size w0 w' ∧ w3.heap.size + 1 ≤ w'.heap.size ∧ Below w3.heap.size w3 w') ∧ W.heap.size = w3.heap.size + 1 ∧ ∀ w2 w5, Below (w3.heap.size + 1) W w2 → Below w2.heap.size w2 w5 → Below (w3.heap.size + 1) W w5 := by
  subst hW
  have hs : (w3.alloc (.cells #[.int .i64 q.n, tv, nv, cv] 25)).heap.size = w3.heap.size + 1 := by simp
  refine ⟨fun w' hb => ?_, hs, fun w2 w5 h2 h5 => h2.trans (h5.mono (by have := h2.size; omega))⟩
  obtain ⟨k0, k1, k2, k3, k4⟩ := box_new w3 q.n tv nv cv w' hb
  have hb3 : Below w3.heap.size w3 w' := ((Below.refl _ w3).alloc (Nat.le_refl _) _).trans (hb.mono (by omega))
  exact ⟨⟨k0, k1, k2, k3⟩, ⟨rfl, h.tail.below hb3, h.next.below hb3, h.cap.below hb3⟩, hb0.trans (hb3.mono hb0.size), k4, hb3⟩
theorem Sp.PlaneQ.walk {q : Sp.Net} {i : Nat} (h : Sp.PlaneQ q i) (hi : i ≤ 50) : Sp.walkB q = true := by
  have h1 := h.le
  have h2 := h.n1
  have h3 := h.n0
  exact walkB_of ⟨by omega, by omega, by omega, h.ev, h.nx, h.cp, fun x hx => h.pm.bd x hx, h.tb⟩
/-- How many labels were met among the first i. -/
structure TopAt (l : List Int) (i top : Nat) : Prop where
  lt : ∀ j, j < i → l.getD j 0 < (top : Int)
  on : ∀ c : Nat, c < top → ∃ j, j < i ∧ l.getD j 0 = (c : Int)
theorem TopAt.le {l : List Int} {i top : Nat} (h : TopAt l i top) (hr : Sp.RG l) (hi : i < l.length) : 0 ≤ l.getD i 0 ∧ l.getD i 0 ≤ (top : Int) := by
  refine ⟨hr.nn i hi, ?_⟩
  rcases Int.lt_or_le (top : Int) (l.getD i 0) with h1 | h1
  · obtain ⟨j, hj, e⟩ := hr.sm i hi top (by omega) h1
    have := h.lt j hj
    omega
  · exact h1
theorem TopAt.same {l : List Int} {i top : Nat} (h : TopAt l i top) (h1 : l.getD i 0 < (top : Int)) : TopAt l (i + 1) top := by
  refine ⟨fun j hj => ?_, fun c hc => ?_⟩
  · rcases Nat.lt_or_ge j i with h2 | h2
    · exact h.lt j h2
    · rw [show j = i by omega]; exact h1
  · obtain ⟨j, h2, h3⟩ := h.on c hc
    exact ⟨j, by omega, h3⟩
theorem TopAt.more {l : List Int} {i top : Nat} (h : TopAt l i top) (h1 : l.getD i 0 = (top : Int)) : TopAt l (i + 1) (top + 1) := by
  refine ⟨fun j hj => ?_, fun c hc => ?_⟩
  · rcases Nat.lt_or_ge j i with h2 | h2
    · have := h.lt j h2; omega
    · rw [show j = i by omega]; omega
  · by_cases hk : c = top
    · exact ⟨i, by omega, by rw [h1, hk]⟩
    · obtain ⟨j, h2, h3⟩ := h.on c (by omega)
      exact ⟨j, by omega, h3⟩
theorem TopAt.last {l : List Int} {n top k : Nat} (h : TopAt l n top) (hn : l.length = n) (hk : Sp.Num l k) : top = k := by
  rcases Nat.lt_trichotomy top k with h1 | h1 | h1
  · obtain ⟨i, a, b⟩ := hk.on top h1
    have := h.lt i (by omega)
    omega
  · exact h1
  · obtain ⟨j, a, b⟩ := h.on k h1
    have := hk.lt j (by omega)
    omega
end Go.Proofs.Ytenffkplneimlab


/- Rows that may be written over; two nets in blocks of their own. -/
namespace Go.Proofs.Ytenffkplneimlab
open Go Go.RowKit

/-- Cells that may be written. -/
def Open' (w : World) (g o n : Nat) : Prop := ∀ j, j < n → ∃ v, w.cell? ⟨g, o + j, none⟩ = some v ∧ w.frozen? ⟨g, o + j, none⟩ = false
theorem Open'.set {w : World} {g o n : Nat} (h : Open' w g o n) (a : Addr) (x : Value) : Open' (w.setCell a x) g o n := fun j hj => by
  obtain ⟨v, h1, h2⟩ := h j hj
  obtain ⟨v', h3⟩ := cell?_setCell_some (p := a) (x := x) h1
  exact ⟨v', h3, by simpa using h2⟩
theorem Open'.dn {w : World} {g o n : Nat} (h : Open' w g o n) (k : Nat) : Open' (w.drewN k) g o n := fun j hj => h j hj
end Go.Proofs.Ytenffkplneimlab


/- What the program's Parts tells: labels numbered by their first ones, that tell the pieces apart. -/
namespace Go.Proofs.Ytenffkplneimlab
open Go Go.RowKit

/-- Labels laid so far, by whatever tells places apart. -/
structure Sp.NSt (L : Nat) (E : Nat → Nat → Prop) (d : Nat) (of : List Int) (k : Nat) : Prop where
  len : of.length = L
  bd : ∀ i, i < L → of.getD i 0 = -1 ∨ (0 ≤ of.getD i 0 ∧ of.getD i 0 < (k : Int))
  done : ∀ i, i < d → 0 ≤ of.getD i 0
  inv : ∀ i j, i < L → j < L → E i j → of.getD i 0 = of.getD j 0
  sep : ∀ i j, i < L → j < L → 0 ≤ of.getD i 0 → of.getD i 0 = of.getD j 0 → E i j
  rg : ∀ i, i < d → ∀ c, 0 ≤ c → c < of.getD i 0 → ∃ j, j < i ∧ of.getD j 0 = c
  on : ∀ c : Nat, c < k → ∃ i, i < d ∧ of.getD i 0 = (c : Int)
theorem Sp.NSt.first (L : Nat) (E : Nat → Nat → Prop) : Sp.NSt L E 0 (List.replicate L (-1)) 0 := by
  refine ⟨by simp, fun i hi => .inl (getD_rep _ _ _ hi), fun i hi => by omega, fun i j hi hj _ => by rw [getD_rep _ _ _ hi, getD_rep _ _ _ hj], fun i j hi hj h => ?_, fun i hi => by omega, fun c hc => by omega⟩
  rw [getD_rep _ _ _ hi] at h
  omega
theorem Sp.NSt.old {L : Nat} {E : Nat → Nat → Prop} {d k : Nat} {of : List Int} (h : Sp.NSt L E d of k) (hd : d < L) (h0 : of.getD d 0 ≠ -1) : Sp.NSt L E (d + 1) of k := by
  have h0' : 0 ≤ of.getD d 0 ∧ of.getD d 0 < (k : Int) := by
    rcases h.bd d hd with e | e
    · exact absurd e h0
    · exact e
  refine ⟨h.len, h.bd, fun i hi => ?_, h.inv, h.sep, fun i hi c c0 c1 => ?_, fun c hc => ?_⟩
  · rcases Nat.lt_or_ge i d with h1 | h1
    · exact h.done i h1
    · rw [show i = d by omega]; exact h0'.1
  · rcases Nat.lt_or_ge i d with h1 | h1
    · exact h.rg i h1 c c0 c1
    · rw [show i = d by omega] at c1 ⊢
      obtain ⟨j, h2, h3⟩ := h.on c.toNat (by omega)
      exact ⟨j, h2, by rw [h3]; omega⟩
  · obtain ⟨i, h1, h2⟩ := h.on c hc
    exact ⟨i, by omega, h2⟩
theorem Sp.NSt.new {L : Nat} {E : Nat → Nat → Prop} {d k : Nat} {of of' : List Int} (h : Sp.NSt L E d of k) (hr : ∀ i, E i i) (hs : ∀ i j, i < L → j < L → E i j → E j i) (ht : ∀ i j l, E i j → E j l → E i l) (hd : d < L) (h0 : of.getD d 0 = -1) (hl : of'.length = L)
    (hE : ∀ i, i < L → E d i → of'.getD i 0 = (k : Int)) (hN : ∀ i, i < L → ¬ E d i → of'.getD i 0 = of.getD i 0) : Sp.NSt L E (d + 1) of' (k + 1) := by
  have hget : ∀ i, i < L → (E d i ∧ of'.getD i 0 = (k : Int) ∧ of.getD i 0 = -1) ∨ (¬ E d i ∧ of'.getD i 0 = of.getD i 0) := by
    intro i hi
    by_cases ho : E d i
    · exact .inl ⟨ho, hE i hi ho, by rw [← h.inv d i hd hi ho]; exact h0⟩
    · exact .inr ⟨ho, hN i hi ho⟩
  have hdk : of'.getD d 0 = (k : Int) := hE d hd (hr d)
  refine ⟨hl, fun i hi => ?_, fun i hi => ?_, fun i j hi hj e => ?_, fun i j hi hj hn e => ?_, fun i hi c c0 c1 => ?_, fun c hc => ?_⟩
  · rcases hget i hi with ⟨-, e, -⟩ | ⟨-, e⟩
    · right; rw [e]; omega
    · rw [e]; rcases h.bd i hi with e1 | e1
      · exact .inl e1
      · exact .inr ⟨e1.1, by omega⟩
  · rcases Nat.lt_or_ge i d with h1 | h1
    · rcases hget i (by omega) with ⟨-, e, -⟩ | ⟨-, e⟩
      · rw [e]; omega
      · rw [e]; exact h.done i h1
    · rw [show i = d by omega, hdk]; omega
  · rcases hget i hi with ⟨o, e1, -⟩ | ⟨o, e1⟩ <;> rcases hget j hj with ⟨o', e2, -⟩ | ⟨o', e2⟩
    · rw [e1, e2]
    · exact absurd (ht _ _ _ o e) o'
    · exact absurd (ht _ _ _ o' (hs i j hi hj e)) o
    · rw [e1, e2]; exact h.inv i j hi hj e
  · rcases hget i hi with ⟨o, e1, -⟩ | ⟨o, e1⟩ <;> rcases hget j hj with ⟨o', e2, -⟩ | ⟨o', e2⟩
    · exact ht _ _ _ (hs d i hd hi o) o'
    · rw [e1, e2] at e
      rcases h.bd j hj with e3 | e3 <;> omega
    · rw [e1, e2] at e
      rcases h.bd i hi with e3 | e3 <;> omega
    · rw [e1, e2] at e
      rw [e1] at hn
      exact h.sep i j hi hj hn e
  · rcases Nat.lt_or_ge i d with h1 | h1
    · rcases hget i (by omega) with ⟨-, -, e⟩ | ⟨-, e⟩
      · have := h.done i h1; omega
      · rw [e] at c1
        obtain ⟨j, h2, h3⟩ := h.rg i h1 c c0 c1
        refine ⟨j, h2, ?_⟩
        rcases hget j (by omega) with ⟨-, -, e'⟩ | ⟨-, e'⟩
        · omega
        · rw [e', h3]
    · rw [show i = d by omega] at c1 ⊢
      rw [hdk] at c1
      obtain ⟨j, h2, h3⟩ := h.on c.toNat (by omega)
      refine ⟨j, h2, ?_⟩
      rcases hget j (by omega) with ⟨-, -, e'⟩ | ⟨-, e'⟩
      · omega
      · rw [e', h3]; omega
  · by_cases hk : c = k
    · exact ⟨d, by omega, by rw [hdk, hk]⟩
    · obtain ⟨i, h1, h2⟩ := h.on c (by omega)
      refine ⟨i, by omega, ?_⟩
      rcases hget i (by omega) with ⟨-, -, e'⟩ | ⟨-, e'⟩
      · omega
      · rw [e', h2]
theorem Sp.Reach.trans {tl : List Int} {u v z : Int} (h : Sp.Reach tl u v) (h' : Sp.Reach tl v z) : Sp.Reach tl u z :=
  h'.ind (p := fun z => Sp.Reach tl u z) h (fun _ hd _ ih => ih.step hd)
theorem Sp.Reach.symm {tl : List Int} (hev : tl.length % 2 = 0) {u v : Int} (h : Sp.Reach tl u v) : Sp.Reach tl v u := by
  refine h.ind (p := fun v => Sp.Reach tl v u) (.refl _) (fun d hd _ ih => ?_)
  have ho := oth_lt hd hev
  have h1 : Sp.Reach tl (tl.getD (Sp.oth d) 0) (tl.getD (Sp.oth (Sp.oth d)) 0) := (Sp.Reach.refl _).step ho
  rw [oth_oth] at h1
  exact h1.trans ih
theorem Sp.Reach.bd {tl : List Int} {n : Int} (ht : ∀ x ∈ tl, 0 ≤ x ∧ x < n) (hev : tl.length % 2 = 0) {u v : Int} (hu : 0 ≤ u ∧ u < n) (h : Sp.Reach tl u v) : 0 ≤ v ∧ v < n :=
  h.ind (p := fun v => 0 ≤ v ∧ v < n) hu (fun _ hd _ _ => ht _ (Sp.getD_mem (oth_lt hd hev)))
/-- One piece on the way: who was found. -/
structure Sp.FI (tl of0 : List Int) (N : Nat) (v p : Int) (of fd : List Int) : Prop where
  len : of.length = N
  fit : RFit N fd
  lab : ∀ w : Nat, w < N → of.getD w 0 = if (w : Int) ∈ fd then p else of0.getD w 0
  rch : ∀ x ∈ fd, Sp.Reach tl v x
theorem Sp.FI.stay {tl of0 : List Int} {N : Nat} {v p : Int} {of fd of' fd' : List Int} (h : Sp.FI tl of0 N v p of fd) (h' : Sp.FI tl of0 N v p of' fd') (hp : p ≠ -1) (hs : ∀ x ∈ fd, x ∈ fd') {w : Nat} (hw : w < N) (hn : of.getD w 0 ≠ -1) : of'.getD w 0 ≠ -1 := by
  rw [h'.lab w hw]
  split
  · exact hp
  · rename_i hm
    rw [h.lab w hw, if_neg (fun h2 => hm (hs _ h2))] at hn
    exact hn
end Go.Proofs.Ytenffkplneimlab


/- A tree by the order in which vertices are found (P401): what Span tells, as a recursion; what stays along it. -/
namespace Go.Proofs.Ytenffkplneimlab
open Go Go.RowKit

/-- The darts from d on, c of them, of the vertex u: what is found by them. -/
def Sp.rowGo (T : List Int) (root u : Int) : Nat → Nat → List Int → List Int → List Int × List Int
  | 0, _, fl, up => (fl, up)
  | c + 1, d, fl, up =>
    if T.getD d 0 = u then
      if T.getD (Sp.oth d) 0 = root ∨ up.getD (T.getD (Sp.oth d) 0).toNat 0 ≠ -1 then Sp.rowGo T root u c (d + 1) fl up
      else Sp.rowGo T root u c (d + 1) (fl ++ [T.getD (Sp.oth d) 0]) (up.set (T.getD (Sp.oth d) 0).toNat ((Sp.oth d : Nat) : Int))
    else Sp.rowGo T root u c (d + 1) fl up
/-- The vertices from the i-th found one on. -/
def Sp.spanGo (T : List Int) (root : Int) : Nat → Nat → List Int → List Int → List Int × List Int
  | 0, _, fl, up => (fl, up)
  | g + 1, i, fl, up => if i < fl.length then Sp.spanGo T root g (i + 1) (Sp.rowGo T root (fl.getD i 0) T.length 0 fl up).1 (Sp.rowGo T root (fl.getD i 0) T.length 0 fl up).2 else (fl, up)
/-- Span (P401). -/
def Sp.span (q : Sp.Net) (root : Int) : List Int := (Sp.spanGo q.tail root q.n.toNat 0 [root] (List.replicate q.n.toNat (-1))).2
/-- What stays along the way. -/
structure Sp.SpSt (T : List Int) (root : Int) (N : Nat) (fl up : List Int) : Prop where
  len : up.length = N
  bd : ∀ x ∈ fl, 0 ≤ x ∧ x < (N : Int)
  nd : fl.Nodup
  hd : ∃ r, fl = root :: r
  rt : up.getD root.toNat 0 = -1
  mem : ∀ v : Nat, v < N → ((v : Int) ∈ fl ↔ (v : Int) = root ∨ up.getD v 0 ≠ -1)
  dart : ∀ v : Nat, v < N → up.getD v 0 ≠ -1 → ∃ d : Nat, d < T.length ∧ up.getD v 0 = (d : Int) ∧ T.getD d 0 = (v : Int) ∧ T.getD (Sp.oth d) 0 ∈ fl
theorem getD_set1 (l : List Int) (i k : Nat) (v : Int) (hi : i < l.length) : (l.set i v).getD k 0 = if i = k then v else l.getD k 0 := by
  rw [List.getD_eq_getElem?_getD, List.getElem?_set, List.getD_eq_getElem?_getD]
  by_cases h : i = k
  · subst h
    rw [if_pos rfl, if_pos hi, if_pos rfl]
    rfl
  · rw [if_neg h, if_neg h]
theorem getD_rep1 (n i : Nat) (x : Int) (h : i < n) : (List.replicate n x).getD i 0 = x := by
  rw [List.getD_eq_getElem?_getD, List.getElem?_replicate, if_pos h]; rfl
theorem Sp.SpSt.first (T : List Int) {root : Int} {N : Nat} (h0 : 0 ≤ root) (h1 : root < (N : Int)) : Sp.SpSt T root N [root] (List.replicate N (-1)) := by
  refine ⟨by simp, fun x hx => ?_, by simp, ⟨[], rfl⟩, getD_rep1 _ _ _ (by omega), fun v hv => ?_, fun v hv e => absurd (getD_rep1 _ _ _ hv) e⟩
  · simp at hx; subst hx; exact ⟨h0, h1⟩
  · rw [getD_rep1 _ _ _ hv]
    simp
/-- A vertex is found. -/
theorem Sp.SpSt.find {T : List Int} {root : Int} {N : Nat} {fl up : List Int} (h : Sp.SpSt T root N fl up) (hT : ∀ x ∈ T, 0 ≤ x ∧ x < (N : Int)) (hev : T.length % 2 = 0) {d : Nat} (hd : d < T.length) (hu : T.getD d 0 ∈ fl) (hn : ¬ (T.getD (Sp.oth d) 0 = root ∨ up.getD (T.getD (Sp.oth d) 0).toNat 0 ≠ -1)) :
    Sp.SpSt T root N (fl ++ [T.getD (Sp.oth d) 0]) (up.set (T.getD (Sp.oth d) 0).toNat ((Sp.oth d : Nat) : Int)) := by
  have ho := oth_lt hd hev
  have hb := hT _ (Sp.getD_mem (l := T) ho)
  have hv : (T.getD (Sp.oth d) 0).toNat < N := by omega
  have hvi : (((T.getD (Sp.oth d) 0).toNat : Nat) : Int) = T.getD (Sp.oth d) 0 := by omega
  have hnm : ¬ T.getD (Sp.oth d) 0 ∈ fl := fun hm => hn (by
    have := (h.mem _ hv).1 (by rw [hvi]; exact hm)
    rw [hvi] at this
    exact this)
  have hnr : T.getD (Sp.oth d) 0 ≠ root := fun e => hn (.inl e)
  obtain ⟨r, hr⟩ := h.hd
  have hrb := h.bd root (by rw [hr]; simp)
  refine ⟨by rw [List.length_set]; exact h.len, fun x hx => ?_, ?_, ⟨r ++ [T.getD (Sp.oth d) 0], by rw [hr]; rfl⟩, ?_, fun v hvN => ?_, fun v hvN e => ?_⟩
  · rcases List.mem_append.1 hx with h1 | h1
    · exact h.bd x h1
    · simp at h1; subst h1; exact hb
  · rw [List.nodup_append]
    refine ⟨h.nd, by simp, fun a ha b hb' e => ?_⟩
    simp at hb'
    subst hb' e
    exact hnm ha
  · rw [getD_set1 _ _ _ _ (by rw [h.len]; exact hv), if_neg (by omega)]
    exact h.rt
  · rw [getD_set1 _ _ _ _ (by rw [h.len]; exact hv), List.mem_append, h.mem v hvN]
    by_cases e : (T.getD (Sp.oth d) 0).toNat = v
    · rw [if_pos e]
      constructor
      · intro _; exact .inr (by omega)
      · intro _; exact .inr (List.mem_singleton.2 (by omega))
    · rw [if_neg e]
      constructor
      · rintro (h1 | h1)
        · exact h1
        · have := List.mem_singleton.1 h1; omega
      · intro h1; exact .inl h1
  · rw [getD_set1 _ _ _ _ (by rw [h.len]; exact hv)] at e ⊢
    by_cases e2 : (T.getD (Sp.oth d) 0).toNat = v
    · rw [if_pos e2]
      exact ⟨Sp.oth d, ho, rfl, by omega, by rw [oth_oth]; exact List.mem_append.2 (.inl hu)⟩
    · rw [if_neg e2] at e ⊢
      obtain ⟨c, c1, c2, c3, c4⟩ := h.dart v hvN e
      exact ⟨c, c1, c2, c3, List.mem_append.2 (.inl c4)⟩
theorem Sp.SpSt.row {T : List Int} {root : Int} {N : Nat} (hT : ∀ x ∈ T, 0 ≤ x ∧ x < (N : Int)) (hev : T.length % 2 = 0) {u : Int} : ∀ c d fl up, d + c = T.length → u ∈ fl → Sp.SpSt T root N fl up → Sp.SpSt T root N (Sp.rowGo T root u c d fl up).1 (Sp.rowGo T root u c d fl up).2 ∧ ∃ r, (Sp.rowGo T root u c d fl up).1 = fl ++ r
  | 0, d, fl, up, _, _, h => ⟨h, [], by simp [Sp.rowGo]⟩
  | c + 1, d, fl, up, hd, hu, h => by
    rw [Sp.rowGo]
    split
    · rename_i e
      split
      · exact Sp.SpSt.row hT hev c (d + 1) fl up (by omega) hu h
      · rename_i hn
        obtain ⟨h1, r, h2⟩ := Sp.SpSt.row hT hev c (d + 1) _ _ (by omega) (List.mem_append.2 (.inl hu)) (h.find hT hev (by omega) (by rw [e]; exact hu) hn)
        exact ⟨h1, [T.getD (Sp.oth d) 0] ++ r, by rw [h2, List.append_assoc]⟩
    · exact Sp.SpSt.row hT hev c (d + 1) fl up (by omega) hu h
/-- As many were found as there are vertices, at most. -/
theorem Sp.SpSt.le {T : List Int} {root : Int} {N : Nat} {fl up : List Int} (h : Sp.SpSt T root N fl up) : fl.length ≤ N := nodup_le N fl h.nd h.bd
end Go.Proofs.Ytenffkplneimlab


