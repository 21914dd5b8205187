/- A scope with several labels; strings.Split at a line's end. -/
import Derived.Test.YtkmcfjkfoafkoaaDoorW9
import Derived.ScopeJumps
import Derived.WalkMore
namespace Go.Proofs.YtkmcfjkfoafkoaaDoor
open Go Go.RowKit

/-- As Q; by a goto to label l: J l. -/
def jumps (J : Nat → Act → World → Prop) (Q : Exit → Act → World → Prop) : Exit → Act → World → Prop
  | .goto l, a, w => J l a w
  | e, a, w => Q e a w
theorem wp_scope_many {P : Program} {a : Act} {w : World} {Q : Exit → Act → World → Prop} {c : Code} (J : Nat → Act → World → Prop) (μ : Nat → Act → World → Nat)
    (first : c.wp P (jumps J Q) a w)
    (pass : ∀ l a w, J l a w → ∃ rest, findLabel c l = some rest ∧ rest.wp P (jumps (fun l' a' w' => J l' a' w' ∧ μ l' a' w' < μ l a w) Q) a w) : (Code.scope c).wp P Q a w := by
  intro b k cs
  have key : ∀ n l a w, μ l a w = n → J l a w → ∃ rest, findLabel c l = some rest ∧ ∃ e a' w', Q e a' w' ∧ Arrives P (lone (b.at a (.code rest :: .inScope c :: k)) cs w) b k cs e a' w' := by
    intro n
    induction n using Nat.strongRecOn with
    | _ n ih =>
      intro l a w hn hJ
      obtain ⟨rest, hf, hw⟩ := pass l a w hJ
      refine ⟨rest, hf, ?_⟩
      obtain ⟨e, a₁, w₁, hq, harr⟩ := hw b (.inScope c :: k) cs
      cases e with
      | normal => exact ⟨.normal, a₁, w₁, hq, Steps.trans harr (.one step_inScope)⟩
      | exit id => exact ⟨.exit id, a₁, w₁, hq, fun k' hk => harr k' (by simp [exitTo, hk])⟩
      | goto l' =>
        obtain ⟨hJ', hlt⟩ := hq
        obtain ⟨rest', hf', e₂, a₂, w₂, hq₂, harr₂⟩ := ih _ (by omega) l' a₁ w₁ rfl hJ'
        have hg : gotoIn l' (.inScope c :: k) = some (.code rest' :: .inScope c :: k) := by simp [gotoIn, hf']
        exact ⟨e₂, a₂, w₂, hq₂, .of_steps (harr _ hg) harr₂⟩
      | ret => exact ⟨_, a₁, w₁, hq, harr⟩
      | panic ch => exact ⟨_, a₁, w₁, hq, harr⟩
      | outgrown => exact ⟨_, a₁, w₁, hq, harr⟩
  obtain ⟨e, a₁, w₁, hq, harr⟩ := first b (.inScope c :: k) cs
  cases e with
  | normal => exact ⟨.normal, a₁, w₁, hq, .head step_scope (Steps.trans harr (.one step_inScope))⟩
  | exit id => exact ⟨.exit id, a₁, w₁, hq, fun k' hk => .head step_scope (harr k' (by simp [exitTo, hk]))⟩
  | goto l' =>
    obtain ⟨rest', hf', e₂, a₂, w₂, hq₂, harr₂⟩ := key _ l' a₁ w₁ rfl hq
    have hg : gotoIn l' (.inScope c :: k) = some (.code rest' :: .inScope c :: k) := by simp [gotoIn, hf']
    exact ⟨e₂, a₂, w₂, hq₂, .of_steps (.head step_scope (harr _ hg)) harr₂⟩
  | ret => exact ⟨_, a₁, w₁, hq, .of_steps (.one step_scope) harr⟩
  | panic ch => exact ⟨_, a₁, w₁, hq, .of_steps (.one step_scope) harr⟩
  | outgrown => exact ⟨_, a₁, w₁, hq, .of_steps (.one step_scope) harr⟩

/-- The same, where the way to the first jump comes to a label by itself: what holds behind each label is at hand there. -/
theorem wp_scope_more {P : Program} {a : Act} {w : World} {Q : Exit → Act → World → Prop} {c : Code} (J : Nat → Act → World → Prop) (μ : Nat → Act → World → Nat)
    (pass : ∀ l a w, J l a w → ∃ rest, findLabel c l = some (Code.skip.seq rest) ∧ rest.wp P (jumps (fun l' a' w' => J l' a' w' ∧ μ l' a' w' < μ l a w) Q) a w)
    (first : (∀ l a w rest, J l a w → findLabel c l = some (Code.skip.seq rest) → rest.wp P (jumps J Q) a w) → c.wp P (jumps J Q) a w) : (Code.scope c).wp P Q a w := by
  refine wp_scope_many J μ (first fun l a w rest hJ hf => ?_) fun l a w hJ => ?_
  · obtain ⟨rest', hf', hw⟩ := pass l a w hJ
    have e : rest' = rest := by
      rw [hf] at hf'
      have := Option.some.inj hf'
      injection this with _ h
      exact h.symm
    subst e
    intro b k cs
    obtain ⟨e, a1, w1, hq, harr⟩ := hw b k cs
    refine ⟨e, a1, w1, ?_, harr⟩
    cases e with
    | goto l' => exact hq.1
    | _ => exact hq
  · obtain ⟨rest, hf, hw⟩ := pass l a w hJ
    exact ⟨_, hf, wp_seq (wp_skip hw)⟩
/-- strings.Split at a byte: the parts lie in a new block. -/
theorem split_any (s : ByteArray) (z : UInt8) (w : World) (hs : s.size ≤ 1000000) (hr : Rt w) :
    Calls Tryd.prog 31 #[.string s, .string ⟨#[z]⟩] w fun e w' => ∃ L : List ByteArray, e = .returned (.slice (some ⟨w.heap.size, 0, none⟩) L.length L.length) ∧ w' = w.alloc (.cells (L.map Value.string).toArray 9) ∧ Hid (bytesOf L = Sp.partsBy z s.data.toList) ∧ L.length ≤ 1000001 ∧ ∀ x ∈ L, x.size ≤ 1000000 := by
  obtain ⟨⟨m, hm⟩, _⟩ := hr
  refine (Tryd.strings_Split s ⟨#[z]⟩ m w (by omega) hm (Nat.le_refl 1)).mono ?_
  rintro e w' ⟨rfl, rfl⟩
  have hb : bytesOf (Lib.splitB ⟨#[z]⟩ 0 (Lib.countB s ⟨#[z]⟩) s) = Sp.partsBy z s.data.toList := by
    unfold bytesOf
    rw [Lib.splitB_data]
    exact Sp.split_parts z _ s.data.toList (Nat.le_refl _)
  have hl := Lib.splitB_all ⟨#[z]⟩ (Nat.le_refl 1) 0 _ s rfl
  refine ⟨Lib.splitB ⟨#[z]⟩ 0 (Lib.countB s ⟨#[z]⟩) s, by rw [hl], rfl, hide hb, ?_, fun x hx => ?_⟩
  · have h1 := Sp.partsBy_len z s.data.toList
    rw [← hb, List.length_map, ← Lib.size_eq] at h1
    omega
  · have h1 := Sp.parts_size z s.data.toList x.data.toList (by rw [← hb]; exact List.mem_map.2 ⟨x, hx, rfl⟩)
    rw [← Lib.size_eq, ← Lib.size_eq] at h1
    omega
theorem trim_any (s : ByteArray) (w : World) (hs : s.size ≤ maxLen) :
    Calls Tryd.prog 32 #[.string s, .string ⟨#[10]⟩] w fun e w' => ∃ t : ByteArray, e = .returned (.string t) ∧ Hid (t.data.toList = Lib.trimSuffix s.data.toList [10]) ∧ t.size ≤ s.size ∧ w' = w := by
  refine (Tryd.strings_TrimSuffix s ⟨#[10]⟩ w (by unfold maxLen at hs; omega)).mono ?_
  rintro e w1 ⟨rfl, rfl⟩
  refine ⟨⟨(Lib.trimSuffix s.data.toList [10]).toArray⟩, rfl, hide (by simp), ?_, rfl⟩
  rw [Lib.size_eq, Lib.size_eq]
  show (Lib.trimSuffix s.data.toList [10]).length ≤ _
  unfold Lib.trimSuffix
  split
  · simp
  · omega
end Go.Proofs.YtkmcfjkfoafkoaaDoor
