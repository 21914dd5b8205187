/- The walk of net.numbers. -/
import Derived.Test.YtkmcfjkfoafkoaaDoorW1
namespace Go.Proofs.YtkmcfjkfoafkoaaDoor
open Go.RowKit
theorem info3 : (Tryd.prog.info? 3).map (fun i => (i.zero, i.size, i.bytes)) = some (some (.int .i64 0), 1, 8) := by kernel_rfl
/-- A slice of integers that the call has made. -/
abbrev OwnI (w : World) (base : Nat) (v : Value) (l : List Int) : Prop := w.ownsRow base 3 1 v l.length (l.map (Value.int .i64))
/-- What package bytealg keeps is an int; strconv's table holds the powers of ten. -/
def Rt (w : World) : Prop := (∃ m, w.cell? ⟨1, 0, none⟩ = some (.int .i64 m)) ∧ Lib.TabIs Tryd.prog w "internal/strconv.uint64pow10" .u64 Lib.pow10Tab
theorem gPow : Tryd.prog.globalNamed "internal/strconv.uint64pow10" = some 0 := by kernel_rfl
theorem Rt.lt {w : World} (h : Rt w) : 0 < w.heap.size := by
  obtain ⟨⟨m, hm⟩, _⟩ := h
  have := World.block_lt_of_cell? w _ hm
  simp at this
  omega
theorem Rt.below {w w' : World} {B : Nat} (h : Rt w) (hb : Below B w w') (hB : w.heap.size ≤ B) : Rt w' := by
  have hl := h.lt
  obtain ⟨⟨m, hm⟩, ht⟩ := h
  exact ⟨⟨m, (hb.cell (Nat.lt_of_lt_of_le (World.block_lt_of_cell? w _ hm) hB)).trans hm⟩, var?_below hb gPow (by omega) ht⟩
theorem below_dn {B : Nat} {a w : World} (h : Below B a w) (n : Nat) : Below B a (w.drewN n) := h.trans ⟨rfl, rfl, rfl, Nat.le_refl _, fun _ _ => rfl⟩
theorem own_dn {w w1 : World} {B : Nat} {v : Value} {l : List Int} (h : OwnI w B v l) (hd : ∃ n, w1 = w.drewN n) : OwnI w1 B v l := by obtain ⟨n, rfl⟩ := hd; exact h
theorem below_dw {B : Nat} {a w w1 : World} (h : Below B a w) (hd : ∃ n, w1 = w.drewN n) : Below B a w1 := by obtain ⟨n, rfl⟩ := hd; exact below_dn h n
theorem own_push {w w2 w3 : World} {B : Nat} {v v' : Value} {o : Obj} {l : List Int} {x : Int} (hown : OwnI w2 B v l) (hb : Below B w w2)
    (hown' : w3.ownsRow B 3 1 v' (l.length + 1) (l.map (Value.int .i64) ++ [.int .i64 x])) (hg : (w2.alloc o).grownBy w3 v.ownBlock) (hB : B ≤ w2.heap.size) : OwnI w3 B v' (l ++ [x]) ∧ Below B w w3 :=
  ⟨by unfold OwnI; simpa using hown', (hb.alloc hB _).grown hg (by simp; omega) fun k hk => (hown.lt k hk).1⟩
/-- strings.Cut at one byte, the parts as texts of their own. -/
theorem cut_any (s : ByteArray) (z : UInt8) (w : World) (hs : s.size ≤ 4294967280) (hr : Rt w) :
    Calls Tryd.prog 42 #[.string s, .string ⟨#[z]⟩] w fun e w' => ∃ a b : ByteArray, ∃ more : Bool, e = .returned (.tuple #[.string a, .string b, .bool more]) ∧ Hid (a.data.toList = (Lib.cut s.data.toList [z]).1 ∧ b.data.toList = (Lib.cut s.data.toList [z]).2.1 ∧ more = (Lib.cut s.data.toList [z]).2.2) ∧ a.size ≤ s.size ∧ b.size ≤ s.size ∧ ∃ n, w' = w.drewN n := by
  obtain ⟨⟨m, hm⟩, _⟩ := hr
  refine (Tryd.strings_Cut s ⟨#[z]⟩ m w (by omega) hm).mono ?_
  rintro e w' ⟨rfl, n, rfl⟩
  have h := Sp.cut_len z s.data.toList
  exact ⟨⟨(Lib.cut s.data.toList [z]).1.toArray⟩, ⟨(Lib.cut s.data.toList [z]).2.1.toArray⟩, _, rfl, hide ⟨by simp, by simp, by simp⟩, by rw [Lib.size_eq, Lib.size_eq]; exact h.1, by rw [Lib.size_eq, Lib.size_eq]; exact h.2, n, rfl⟩
def measN : Value → Value → Nat
  | .bool true, .string r => r.size + 1
  | _, _ => 0
theorem nums_step {more : Bool} {R : Option (List Int)} {r a b : List UInt8} {done : List Int} {m : Bool} (h : R = if more then (Sp.nums (Sp.parts r)).map (done ++ ·) else some done) (hm : more = true)
    (hc : a = (Lib.cut r [32]).1 ∧ b = (Lib.cut r [32]).2.1 ∧ m = (Lib.cut r [32]).2.2) :
    (Sp.number a = none → R = none) ∧ ∀ x, Sp.number a = some x → R = if m then (Sp.nums (Sp.parts b)).map ((done ++ [x]) ++ ·) else some (done ++ [x]) := by
  subst hm
  obtain ⟨rfl, rfl, rfl⟩ := hc
  rw [if_pos rfl] at h
  unfold Sp.parts at *
  rcases Sp.parts_cut 32 r with ⟨h1, h2, h3⟩ | ⟨h1, h2, h3, h4⟩
  · rw [h2, Sp.nums] at h
    refine ⟨fun hn => by rw [h, hn]; rfl, fun x hx => ?_⟩
    rw [h, hx, h1, if_pos rfl]
    cases Sp.nums (Sp.partsBy 32 (Lib.cut r [32]).2.1) <;> simp
  · rw [h2, Sp.nums] at h
    refine ⟨fun hn => by rw [h, hn]; rfl, fun x hx => ?_⟩
    rw [h, hx, h1]
    simp [Sp.nums]
theorem meas_cut {r b : List UInt8} {m : Bool} (hb : b = (Lib.cut r [32]).2.1) (hm : m = (Lib.cut r [32]).2.2) : m = true → b.length < r.length := by
  subst hb hm
  intro h
  rcases Sp.parts_cut 32 r with ⟨_, _, h3⟩ | ⟨h1, _⟩
  · exact h3
  · rw [h1] at h; cases h

set_option maxRecDepth 100000 in
set_option maxHeartbeats 1000000 in
theorem numbers_any (s : ByteArray) (w : World) (hs : s.size ≤ 1000000) (hr : Rt w) :
    Calls Tryd.prog 24 #[.string s] w fun e w' => ∃ v, e = .returned (.tuple #[v, .bool (Sp.numbers s.data.toList).isSome]) ∧ OwnI w' w.heap.size v ((Sp.numbers s.data.toList).getD []) ∧ Below w.heap.size w w' := by
  obtain ⟨i0, hi, hz0, hz1, hz2⟩ := info_parts info3
  have Hi := hide hi; clear hi
  have Hz0 := hide hz0; clear hz0
  have Hz1 := hide hz1; clear hz1
  have Hz2 := hide hz2; clear hz2
  have Hr := hide hr; clear hr
  have h0 : Hid (Sp.numbers s.data.toList = if !s.toList.isEmpty then (Sp.nums (Sp.parts s.data.toList)).map (([] : List Int) ++ ·) else some []) := by
    refine hide ?_
    rw [Lib.toList_data]
    unfold Sp.numbers
    by_cases h : s.data.toList = []
    · rw [if_pos h, h]; rfl
    · have h' : s.data.toList.isEmpty = false := by simpa using h
      rw [if_neg h, h']; simp
  generalize Sp.numbers s.data.toList = R at *
  go_enter Tryd.func24, Tryd.ntmps24
  go_wp2
  go_loopw [0, 4, 5] (fun sv v mv wr => ∃ (r : ByteArray) (more : Bool) (done : List Int), sv = .string r ∧ mv = .bool more ∧ OwnI wr w.heap.size v done ∧ Below w.heap.size w wr ∧ done.length + (if more then r.size + 1 else 0) ≤ s.size + 1 ∧ Hid (R = if more then (Sp.nums (Sp.parts r.data.toList)).map (done ++ ·) else some done)) (fun sv _ mv _ => measN mv sv)
  case atStart => exact ⟨s, _, [], rfl, rfl, World.ownsRow_nil _ _ _ _, Below.refl _ _, by simp; split <;> omega, h0⟩
  case round =>
    clear h0
    obtain ⟨r, more, done, rfl, rfl, hown, hb, hlen, hR⟩ := hrel
    cases more
    · go_wp2
      go_ret2
      have e1 : R = some done := unhide hR
      rw [e1]
      exact ⟨_, rfl, hown, hb⟩
    · have hrs : r.size ≤ 1000000 := by simp at hlen; omega
      go_wp2_with fail
      refine (cut_any r 32 _ (by omega) ((unhide Hr).below hb (Nat.le_refl _))).mono ?_
      rintro e w1 ⟨a, b, more, rfl, hcut, ha, hbs, hdn⟩
      have hown1 := own_dn hown hdn
      have hb1 := below_dw hb hdn
      have HS := hide (nums_step (unhide hR) rfl (unhide hcut))
      have HM := hide (meas_cut (unhide hcut).2.1 (unhide hcut).2.2)
      clear hdn hown hb hR hcut
      go_wp2_with fail
      refine (number_any a _ (by omega)).mono ?_
      rintro e w2 ⟨rfl, rfl⟩
      cases hx : Sp.number a.data.toList with
      | none =>
        have HF := hide ((unhide HS).1 hx)
        clear hx HS HM
        simp only [Option.getD_none, Option.isSome_none]
        go_wp2
        go_ret2
        rw [unhide HF]
        exact ⟨_, rfl, World.ownsRow_nil _ _ _ _, hb1⟩
      | some x =>
        have HF := hide ((unhide HS).2 x hx)
        clear hx HS
        simp only [Option.getD_some, Option.isSome_some]
        have hlen' : done.length ≤ 1000000 := by simp at hlen; omega
        go_wp2_with (first
          | (at_builtin; refine wpList_append_own _ rfl _ _ 22 rfl w.heap.size 3 i0 (.int .i64 0) 1 8 Tryd.underlying22 (unhide Hi) (unhide Hz0) (unhide Hz1) (unhide Hz2) rfl (by decide) _ _ _ rfl (hown1.alloc _) ⟨w2.heap.size, 0, none⟩ 1 1 [.int .i64 x] rfl rfl ?c1 ?c2 ?c3 ?c4 ?c5 ?_)
          | go_in)
        case c1 =>
          intro j u hj
          match j, hj with
          | 0, hj => simp at hj; subst hj; simp [Addr.add]
        case c2 => intro u hu; simp at hu; subst hu; rfl
        case c3 => unfold maxLen; omega
        case c4 => omega
        case c5 => have := hb1.size; simp; omega
        intro v' w3 hown' hgrow _
        have R1 := own_push hown1 hb1 hown' hgrow hb1.size
        clear hown' hgrow hown1 hb1
        go_wp2
        go_roundw
        case rel =>
          refine ⟨b, more, done ++ [x], rfl, rfl, R1.1, R1.2, ?_, HF⟩
          simp at hlen ⊢
          have := unhide HM
          rw [← Lib.size_eq, ← Lib.size_eq] at this
          split
          · have := this ‹_›; omega
          · omega
        case measure =>
          have := unhide HM
          rw [← Lib.size_eq, ← Lib.size_eq] at this
          cases more
          · simp [measN]
          · have := this rfl; simp [measN]; omega
end Go.Proofs.YtkmcfjkfoafkoaaDoor
