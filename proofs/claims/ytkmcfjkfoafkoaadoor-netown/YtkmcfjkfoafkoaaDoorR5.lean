/- The walks of the reference's Split, Numbers, Row. -/
import Derived.Test.YtkmcfjkfoafkoaaDoorR4
import Derived.Test.YtkmcfjkfoafkoaaDoorW13
namespace Go.Proofs.YtkmcfjkfoafkoaaDoor
open Go Go.RowKit

/-- A slice of texts that the call has made. -/
abbrev OwnS (w : World) (base : Nat) (v : Value) (l : List ByteArray) : Prop := w.ownsRow base 9 1 v l.length (l.map Value.string)
theorem OwnS.strs {w : World} {B : Nat} {v : Value} {l : List ByteArray} (h : OwnS w B v l) : Strs w v l := by
  have h' := h
  obtain ⟨_, hv | ⟨g, cap, cur, hv, hb, hg, hc, hm, hs, ht⟩⟩ := h
  · refine ⟨none, 0, by rw [hv.1, hv.2], by omega, by simp [maxLen], fun k hk => by omega⟩
  · refine ⟨some ⟨g, 0, none⟩, cap, hv, hc, hm, fun k hk => ⟨g, 0, rfl, (h'.lt g (by rw [hv]; rfl)).2, ?_⟩⟩
    have := h'.cells (g := g) (by rw [hv]; rfl) k (.string l[k]) (by simp [hk])
    have e : (⟨g, 0, none⟩ : Addr).add k = ⟨g, 0 + k, none⟩ := by unfold Addr.add; split <;> simp_all
    rw [← e]; exact this
theorem ownS_push {w w2 w3 : World} {B : Nat} {v v' : Value} {o : Obj} {l : List ByteArray} {x : ByteArray} (hown : OwnS w2 B v l) (hb : Below B w w2)
    (hown' : w3.ownsRow B 9 1 v' (l.length + 1) (l.map Value.string ++ [.string x])) (hg : (w2.alloc o).grownBy w3 v.ownBlock) (hB : B ≤ w2.heap.size) : OwnS w3 B v' (l ++ [x]) ∧ Below B w w3 :=
  ⟨by unfold OwnS; simpa using hown', (hb.alloc hB _).grown hg (by simp; omega) fun k hk => (hown.lt k hk).1⟩
theorem one_int (a : Int) : ∀ u ∈ [Value.int .i64 a], u.oneCell' = true := by simp [Value.oneCell']
/-- A piece laid ahead of the first part. -/
def glue (seg : List UInt8) : List (List UInt8) → List (List UInt8)
  | [] => [seg]
  | p :: q => (seg ++ p) :: q
theorem glue_nil (z : UInt8) (l : List UInt8) : glue [] (Sp.partsBy z l) = Sp.partsBy z l := by
  cases h : Sp.partsBy z l with
  | nil => exact absurd h (Sp.partsBy_ne z l)
  | cons p q => rfl
theorem glue_end (seg : List UInt8) : glue seg (Sp.partsBy 32 []) = [seg] := by simp [glue, Sp.partsBy]
theorem glue_hit (seg r : List UInt8) : glue seg (Sp.partsBy 32 (32 :: r)) = seg :: Sp.partsBy 32 r := by simp [glue, Sp.partsBy]
theorem glue_miss (seg r : List UInt8) (c : UInt8) (h : c ≠ 32) : glue seg (Sp.partsBy 32 (c :: r)) = glue (seg ++ [c]) (Sp.partsBy 32 r) := by
  rw [Sp.partsBy, if_neg h]
  cases hp : Sp.partsBy 32 r with
  | nil => exact absurd hp (Sp.partsBy_ne 32 r)
  | cons p q => simp [glue]
theorem drop_at (s : ByteArray) (i : Nat) (h : i < s.size) : s.data.toList.drop i = s[i] :: s.data.toList.drop (i + 1) := by
  rw [List.drop_eq_getElem_cons (by rw [← Lib.size_eq]; exact h)]; rfl
theorem seg_snoc (s : ByteArray) (f i : Nat) (h : i < s.size) (hf : f ≤ i) : (s.data.toList.take (i + 1)).drop f = (s.data.toList.take i).drop f ++ [s[i]] := by
  rw [take_snoc s i h, List.drop_append_of_le_length (by rw [List.length_take, ← Lib.size_eq]; omega)]
theorem extract_list (s : ByteArray) (f i : Nat) : (s.extract f i).data.toList = (s.data.toList.take i).drop f := by
  rw [Lib.extract_data, List.drop_take]
theorem split_end {s : ByteArray} {f i : Nat} {out : List ByteArray} (hP : Sp.partsBy 32 s.data.toList = bytesOf out ++ glue ((s.data.toList.take i).drop f) (Sp.partsBy 32 (s.data.toList.drop i))) (hi : i = s.size) :
    Sp.partsBy 32 s.data.toList = bytesOf (out ++ [s.extract f i]) := by
  have hd : s.data.toList.drop i = [] := List.drop_of_length_le (by rw [hi, Lib.size_eq]; exact Nat.le_refl _)
  rw [hP, hd, glue_end, bytesOf, bytesOf, List.map_append, List.map_cons, List.map_nil, extract_list]
theorem split_hit {s : ByteArray} {f i : Nat} {out : List ByteArray} (hP : Sp.partsBy 32 s.data.toList = bytesOf out ++ glue ((s.data.toList.take i).drop f) (Sp.partsBy 32 (s.data.toList.drop i))) (hi : i < s.size) (hc : s[i] = 32) :
    Sp.partsBy 32 s.data.toList = bytesOf (out ++ [s.extract f i]) ++ glue ((s.data.toList.take (i + 1)).drop (i + 1)) (Sp.partsBy 32 (s.data.toList.drop (i + 1))) := by
  have hd : (s.data.toList.take (i + 1)).drop (i + 1) = [] := List.drop_of_length_le (List.length_take_le _ _)
  rw [hd, glue_nil]
  conv => lhs; rw [hP, drop_at s i hi, hc, glue_hit]
  rw [bytesOf, bytesOf, List.map_append, List.map_cons, List.map_nil, extract_list, List.append_assoc]; rfl
theorem split_miss {s : ByteArray} {f i : Nat} {out : List ByteArray} (hP : Sp.partsBy 32 s.data.toList = bytesOf out ++ glue ((s.data.toList.take i).drop f) (Sp.partsBy 32 (s.data.toList.drop i))) (hi : i < s.size) (hf : f ≤ i) (hc : s[i] ≠ 32) :
    Sp.partsBy 32 s.data.toList = bytesOf out ++ glue ((s.data.toList.take (i + 1)).drop f) (Sp.partsBy 32 (s.data.toList.drop (i + 1))) := by
  rw [seg_snoc s f i hi hf]
  conv => lhs; rw [hP, drop_at s i hi, glue_miss _ _ _ hc]
set_option maxRecDepth 100000 in
set_option maxHeartbeats 2000000 in
theorem rsplit_any (s : ByteArray) (w : World) (hs : s.size ≤ 1000000) :
    Calls Tryd.prog 26 #[.string s, .int .u8 32] w fun e w' => ∃ (v : Value) (L : List ByteArray), e = .returned v ∧ OwnS w' w.heap.size v L ∧ Hid (bytesOf L = Sp.partsBy 32 s.data.toList) ∧ Below w.heap.size w w' := by
  obtain ⟨i0, hi, hz0, hz1, hz2⟩ := info_parts infoS
  have Hi := hide hi; clear hi
  have Hz0 := hide hz0; clear hz0
  have Hz1 := hide hz1; clear hz1
  have Hz2 := hide hz2; clear hz2
  go_enter Tryd.func26, Tryd.ntmps26
  go_wp2
  go_loopw [5, 6, 7] (fun ov fv iv wr => ∃ (i f : Nat) (out : List ByteArray), iv = .int .i64 i ∧ fv = .int .i64 f ∧ OwnS wr w.heap.size ov out ∧ Below w.heap.size w wr ∧ i ≤ s.size + 1 ∧ out.length ≤ i ∧ (i ≤ s.size → f ≤ i) ∧ Hid (i ≤ s.size → Sp.partsBy 32 s.data.toList = bytesOf out ++ glue ((s.data.toList.take i).drop f) (Sp.partsBy 32 (s.data.toList.drop i))) ∧ Hid (i = s.size + 1 → Sp.partsBy 32 s.data.toList = bytesOf out)) (fun _ _ i _ => s.size + 1 - (intOf i).toNat)
  case atStart => exact ⟨0, 0, [], rfl, rfl, World.ownsRow_nil _ _ _ _, Below.refl _ _, by omega, by simp, fun _ => Nat.le_refl _, hide fun _ => by simp [glue_nil], hide fun h => by omega⟩
  case round =>
    obtain ⟨i, f, out, rfl, rfl, hown, hb, hi1, hol, hfi, H1, H2⟩ := hrel
    have HO := hide hown; clear hown
    by_cases hle : i ≤ s.size
    · have hf := hfi hle
      clear hfi H2
      have hP := unhide H1 hle
      clear H1
      have HP := hide hP; clear hP
      have HX := hide (extract_list s f i)
      by_cases hend : i = s.size
      · have hend' : ((i : Int) == s.size) = true := beq_iff_eq.2 (by omega)
        have HF := hide (split_end (unhide HP) hend)
        clear HP HX
        have Hend := hide hend; clear hend
        go_wp2_with (first
          | (at_builtin; refine wpList_append_own _ rfl _ _ 29 rfl w.heap.size 9 i0 (.string ⟨#[]⟩) 1 16 Tryd.underlying29 (unhide Hi) (unhide Hz0) (unhide Hz1) (unhide Hz2) rfl (by decide) _ _ _ rfl ((unhide HO).alloc _) ⟨wr.heap.size, 0, none⟩ 1 1 [.string (s.extract f i)] rfl rfl (cell_one_new _ _ _) (one_str _) (by unfold maxLen; omega) (by omega) (by have := hb.size; simp; omega) ?_)
          | go_in)
        intro v' w3 hown' hgrow _
        have R1 := ownS_push (unhide HO) hb hown' hgrow hb.size
        clear hown' hgrow HO hb
        go_wp2
        go_roundw
        case rel => exact ⟨i + 1, i + 1, out ++ [s.extract f i], by go_num, by go_num, R1.1, R1.2, by omega, by simp; omega, fun h => by omega, hide fun h => absurd h (by have := unhide Hend; omega), hide fun _ => unhide HF⟩
        case measure => simp [intOf]; omega
      · have hilt : i < s.size := by omega
        have hend' : ((i : Int) == s.size) = false := beq_eq_false_iff_ne.2 (by omega)
        clear hend
        by_cases hc : s[i] = 32
        · have HF := hide (split_hit (unhide HP) hilt hc)
          have hc' : ((s[i].toNat : Int) == 32) = true := by rw [hc]; rfl
          clear HP HX hc
          go_wp2_with (first
            | (at_builtin; refine wpList_append_own _ rfl _ _ 29 rfl w.heap.size 9 i0 (.string ⟨#[]⟩) 1 16 Tryd.underlying29 (unhide Hi) (unhide Hz0) (unhide Hz1) (unhide Hz2) rfl (by decide) _ _ _ rfl ((unhide HO).alloc _) ⟨wr.heap.size, 0, none⟩ 1 1 [.string (s.extract f i)] rfl rfl (cell_one_new _ _ _) (one_str _) (by unfold maxLen; omega) (by omega) (by have := hb.size; simp; omega) ?_)
            | go_in)
          intro v' w3 hown' hgrow _
          have R1 := ownS_push (unhide HO) hb hown' hgrow hb.size
          clear hown' hgrow HO hb
          go_wp2
          go_roundw
          case rel => exact ⟨i + 1, i + 1, out ++ [s.extract f i], by go_num, by go_num, R1.1, R1.2, by omega, by simp; omega, fun h => by omega, hide fun _ => unhide HF, hide fun h => by omega⟩
          case measure => simp [intOf]; omega
        · have HF := hide (split_miss (unhide HP) hilt hf hc)
          have hc' : ((s[i].toNat : Int) == 32) = false := beq_eq_false_iff_ne.2 fun e => hc (UInt8.toNat_inj.1 (by show s[i].toNat = 32; omega))
          clear HP HX hc
          go_wp2
          go_roundw
          case rel => exact ⟨i + 1, f, out, by go_num, rfl, unhide HO, hb, by omega, by omega, fun h => by omega, hide fun _ => unhide HF, hide fun h => by omega⟩
          case measure => simp [intOf]; omega
    · have HF := hide ((unhide H2) (by omega))
      go_wp2
      go_ret
      exact ⟨_, out, rfl, unhide HO, hide (unhide HF).symm, hb⟩
end Go.Proofs.YtkmcfjkfoafkoaaDoor
