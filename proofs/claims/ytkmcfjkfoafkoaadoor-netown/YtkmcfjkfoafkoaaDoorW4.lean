/- The walk of net.RowText. -/
import Derived.Test.YtkmcfjkfoafkoaaDoorW3
namespace Go.Proofs.YtkmcfjkfoafkoaaDoor
open Go.RowKit

theorem own_below {w w' : World} {base e size n : Nat} {v : Value} {xs : List Value} (h : w.ownsRow base e size v n xs) (hb : Below w.heap.size w w') : w'.ownsRow base e size v n xs := by
  have hlt := h.lt
  obtain ⟨hx, hv | ⟨g, cap, cur, hv, hg, hh, r⟩⟩ := h
  · exact ⟨hx, .inl hv⟩
  · exact ⟨hx, .inr ⟨g, cap, cur, hv, hg, (hb.block g (hlt g (by rw [hv]; rfl)).2).trans hh, r⟩⟩
theorem heap_lt {w : World} {b : Nat} {o : Obj} (h : w.heap[b]? = some o) : b < w.heap.size := by
  rcases Nat.lt_or_ge b w.heap.size with h' | h'
  · exact h'
  · rw [Array.getElem?_eq_none h'] at h; cases h
theorem builder_below {T e B b : Nat} {bs : List Value} {w w' : World} (h : Lib.IsBuilder T e B b bs w) (hb : Below w.heap.size w w') : Lib.IsBuilder T e B b bs w' := by
  rcases h with ⟨hB, v, hh, ho, hn⟩ | ⟨hB, v, hh, ho, hn⟩
  · exact .inl ⟨hB, v, (hb.block b (heap_lt hh)).trans hh, own_below ho hb, hn⟩
  · exact .inr ⟨hB, v, (hb.block b (heap_lt hh)).trans hh, own_below ho hb, hn⟩
theorem builder_new (w : World) : Lib.IsBuilder 48 5 w.heap.size w.heap.size [] (w.alloc (.cells #[.pointer none, .slice none 0 0] 48)) :=
  .inl ⟨Nat.le_refl _, _, heap_alloc_new w _, World.ownsRow_nil _ _ _ _, by simp [Value.ownBlock]⟩
theorem grow_below {w : World} (k : Nat) (os : Array Obj) : Below w.heap.size w (Sort.grow (w.drewN k) os) :=
  ⟨rfl, rfl, rfl, by simp [Sort.grow, World.drewN], fun j hj => by simp [Sort.grow, World.drewN, Array.getElem?_append, hj]⟩
theorem itoa_any (x : Int) (w : World) (h0 : -9223372036854775808 ≤ x) (h1 : x ≤ 9223372036854775807) (hr : Rt w) :
    Calls Tryd.prog 22 #[.int .i64 x] w fun e w' => ∃ s : ByteArray, e = .returned (.string s) ∧ Hid (s.data.toList = Lib.itoa x) ∧ s.size ≤ 21 ∧ Below w.heap.size w w' := by
  refine (Tryd.strconv_Itoa x h0 h1 w hr.2).mono ?_
  rintro e w' ⟨rfl, k, os, rfl⟩
  exact ⟨⟨(Lib.itoa x).toArray⟩, rfl, hide (by simp), by rw [Lib.size_eq]; simpa using Lib.itoa_length_le x h0 h1, grow_below k os⟩
theorem bytes_snoc (l : List UInt8) (c : UInt8) : Lib.byteCells l ++ [.int .u8 (c.toNat : Int)] = Lib.byteCells (l ++ [c]) := by simp [Lib.byteCells]
theorem bytes_str (l : List UInt8) (s : ByteArray) : Lib.byteCells l ++ Lib.strCells s = Lib.byteCells (l ++ s.data.toList) := by simp [Lib.byteCells, Lib.strCells]
theorem bytes_len (l : List UInt8) : (Lib.byteCells l).length = l.length := by simp [Lib.byteCells]
theorem rowText_to (L : List Int) (k : Nat) (h : k < L.length) : Sp.rowText (L.take (k + 1)) = Sp.rowText (L.take k) ++ ((if k = 0 then [] else [32]) ++ Lib.itoa L[k]) := by
  rw [List.take_succ_eq_append_getElem h, Sp.rowText_snoc]
  by_cases hk : k = 0
  · subst hk; simp
  · rw [if_neg hk, if_neg (by simp; exact ⟨hk, by intro e; rw [e] at h; simp at h⟩)]
theorem take_all {L : List Int} {p : Int → Prop} (h : ∀ x ∈ L, p x) (k : Nat) : ∀ x ∈ L.take k, p x := fun x hx => h x (List.mem_of_mem_take hx)

set_option maxRecDepth 100000 in
set_option maxHeartbeats 1000000 in
theorem rowText_any (L : List Int) (v : Value) (w : World) (hv : Ints w v L) (hn : L.length ≤ 1000000) (hx : ∀ x ∈ L, -9223372036854775808 ≤ x ∧ x ≤ 9223372036854775807) (hr : Rt w) :
    Calls Tryd.prog 8 #[v] w fun e w' => ∃ s : ByteArray, e = .returned (.string s) ∧ Hid (s.data.toList = Sp.rowText L) ∧ Below w.heap.size w w' := by
  obtain ⟨a, c, rfl, hc, hm, hcell⟩ := hv
  have Hc := hide hcell; clear hcell
  have Hr := hide hr; clear hr
  have Hx := hide hx; clear hx
  have HN := hide (builder_new w)
  go_enter Tryd.func8, Tryd.ntmps8
  go_wp2
  go_loopw [8] (fun i wr => ∃ k : Nat, k ≤ L.length ∧ i = .int .i64 k ∧ Lib.IsBuilder 48 5 w.heap.size w.heap.size (Lib.byteCells (Sp.rowText (L.take k))) wr ∧ Below w.heap.size w wr) (fun i _ => L.length - (intOf i).toNat)
  case atStart => exact ⟨0, Nat.zero_le _, rfl, unhide HN, (Below.refl _ _).alloc (Nat.le_refl _) _⟩
  case round =>
    clear HN
    obtain ⟨k, hk, rfl, hB, hb⟩ := hrel
    have HB := hide hB; clear hB
    have hbs := hb.size
    by_cases hlt : k < L.length
    · obtain ⟨b, o, rfl, hbl, hcx⟩ := unhide Hc k hlt
      have hcx := (hb.cell (by exact hbl)).trans hcx
      have Ht := hide (rowText_to L k hlt)
      have hxk := unhide Hx L[k] (List.getElem_mem hlt)
      have hlen := Sp.rowText_len (L.take k) (take_all (unhide Hx) k)
      have hlen : (Sp.rowText (L.take k)).length ≤ 22000000 := by rw [List.length_take] at hlen; omega
      generalize L[k] = x at *
      generalize Sp.rowText (L.take k) = T at *
      by_cases hk0 : k = 0
      · subst hk0
        simp only [Nat.add_zero] at hcx
        go_wp2_with fail
        refine (itoa_any x _ hxk.1 hxk.2 ((unhide Hr).below hb (Nat.le_refl _))).mono ?_
        rintro e w1 ⟨s, rfl, hs, hsz, hb1⟩
        have hB1 := builder_below (unhide HB) hb1
        have hb2 := hb.trans (hb1.mono hb.size)
        clear HB hcx
        have HB := hide hB1; clear hB1
        go_wp2_with fail
        refine (Tryd.Builder_WriteString w.heap.size w.heap.size _ s _ (unhide HB) (by rw [bytes_len]; omega) hb2.size).mono ?_
        rintro e w2 ⟨rfl, hB2, hb3⟩
        clear HB
        rw [bytes_str] at hB2
        have HB := hide hB2; clear hB2
        have hb4 := hb2.trans hb3
        clear hb hb1 hb2 hb3
        go_wp2
        go_roundw
        case rel => exact ⟨1, by omega, by go_num, by rw [unhide Ht]; simp only [if_true, List.nil_append]; rw [← unhide hs]; exact .inr (unhide HB), hb4⟩
        case measure => simp [intOf]; omega
      · have hk1 : 0 < (k : Int) := by omega
        rw [if_neg hk0] at Ht
        clear hk0
        go_wp2_with fail
        refine (Tryd.Builder_WriteByte w.heap.size w.heap.size _ 32 _ (unhide HB) (by rw [bytes_len]; omega) hb.size).mono ?_
        rintro e w0 ⟨rfl, hB0, hb0⟩
        clear HB hcx
        have hbz := hb.trans hb0
        clear hb hb0
        rw [show (Value.int .u8 32) = .int .u8 ((32 : UInt8).toNat : Int) from rfl, bytes_snoc] at hB0
        have HB : Hid (Lib.IsBuilder 48 5 w.heap.size w.heap.size (Lib.byteCells (T ++ [32])) w0) := hide (.inr hB0)
        clear hB0
        go_wp2_with fail
        refine (itoa_any x _ hxk.1 hxk.2 ((unhide Hr).below hbz (Nat.le_refl _))).mono ?_
        rintro e w1 ⟨s, rfl, hs, hsz, hb1⟩
        have hB1 := builder_below (unhide HB) hb1
        have hb2 := hbz.trans (hb1.mono hbz.size)
        clear HB
        have HB := hide hB1; clear hB1
        go_wp2_with fail
        refine (Tryd.Builder_WriteString w.heap.size w.heap.size _ s _ (unhide HB) (by rw [bytes_len]; simp; omega) hb2.size).mono ?_
        rintro e w2 ⟨rfl, hB2, hb3⟩
        clear HB
        rw [bytes_str] at hB2
        have HB := hide hB2; clear hB2
        have hb4 := hb2.trans hb3
        clear hbz hb1 hb2 hb3
        go_wp2
        go_roundw
        case rel => exact ⟨k + 1, by omega, by go_num, by rw [unhide Ht, ← unhide hs, ← List.append_assoc]; exact .inr (unhide HB), hb4⟩
        case measure => simp [intOf]; omega
    · rw [List.take_of_length_le (by omega)] at HB
      go_wp2_with fail
      refine (Tryd.Builder_String_any w.heap.size w.heap.size _ _ (unhide HB) hb.size).mono ?_
      rintro e w1 ⟨rfl, hb1⟩
      have hb2 := hb.trans hb1
      clear hb hb1 HB
      go_wp2
      go_ret
      exact ⟨_, rfl, hide (by simp), hb2⟩
end Go.Proofs.YtkmcfjkfoafkoaaDoor
