/- The walk of the law NetEnds. -/
import Derived.Test.YtdbloaigbjfadaaDoorE5
namespace Go.Proofs.YtdbloaigbjfadaaDoor
open Go Go.RowKit

theorem Ints.len {w : World} {v : Value} {l : List Int} (h : Ints w v l) : l.length ≤ 9223372036854775807 := by
  obtain ⟨a, c, -, h1, h2, -⟩ := h
  unfold maxLen at h2
  omega
/-- A net that lies in a block of its own. -/
theorem box_new (w : World) (n : Int) (a b c : Value) (w' : World) (hb : Below (w.heap.size + 1) (w.alloc (.cells #[.int .i64 n, a, b, c] 34)) w') :
    w'.cell? ⟨w.heap.size, 0, none⟩ = some (.int .i64 n) ∧ w'.cell? ⟨w.heap.size, 1, none⟩ = some a ∧ w'.cell? ⟨w.heap.size, 2, none⟩ = some b ∧ w'.cell? ⟨w.heap.size, 3, none⟩ = some c ∧ w.heap.size + 1 ≤ w'.heap.size := by
  obtain ⟨k0, k1, k2, k3⟩ := net_new w (.int .i64 n) a b c 34
  have hs := hb.size
  simp at hs
  exact ⟨(hb.cell (by show w.heap.size < _; omega)).trans k0, (hb.cell (by show w.heap.size < _; omega)).trans k1, (hb.cell (by show w.heap.size < _; omega)).trans k2, (hb.cell (by show w.heap.size < _; omega)).trans k3, hs⟩
set_option maxRecDepth 100000 in
set_option maxHeartbeats 1000000 in
theorem netEnds_any (size : Int) (ns : List Int) (x : Value) (w : World) (hx : Ints w x ns) (hi64 : ∀ y ∈ ns, -9223372036854775808 ≤ y ∧ y ≤ 9223372036854775807) (hr : Rt w) :
    Calls Tryd.prog 7 #[.int .i64 size, x] w fun e w' => e = .returned (.bool true) ∧ Below w.heap.size w w' := by
  have HK := hide (known_any w hr)
  have HMk := hide (fun w' (hb : Below w.heap.size w w') => make_any size ns x w' (hx.below hb) hx.len hi64)
  have Hr := hide hr; clear hr
  obtain ⟨ax, cx, rfl, -, -⟩ := hx.form
  clear hx hi64
  obtain ⟨hwh, hn8, ht40⟩ := Sp.make_whole size ns
  generalize Sp.make size ns = q at *
  have hsh := Sp.text_short q hwh hn8 ht40
  obtain ⟨hp1, hp2⟩ := Sp.text_back q hwh hsh
  have Hp2 := hide hp2
  have Hlen := hide hsh
  have HWh := hide hwh
  have hn0 := hwh.lists.n0
  clear hp1 hp2 hsh hwh
  go_enter Tryd.func7, Tryd.ntmps7
  go_wp2_with fail
  refine (unhide HK).mono ?_
  rintro e w1 ⟨rfl, hb1⟩
  clear HK
  go_wp2_with fail
  refine (unhide HMk _ hb1).mono ?_
  rintro e w2 ⟨v2, tv, nv, cv, rfl, hV, hb2⟩
  clear HMk
  have hb2' : Below w.heap.size w w2 := hb1.trans (hb2.mono hb1.size)
  obtain ⟨rfl, v1, v2, v3, -, -, -⟩ := hV
  have HI := hide (NetI.mk rfl v1.ints v2.ints v3.ints : NetI w2 (.agg #[.int .i64 q.n, tv, nv, cv]) q tv nv cv)
  obtain ⟨ta, tc, rfl, -, -⟩ := v1.ints.form
  obtain ⟨na, nc, rfl, -, -⟩ := v2.ints.form
  obtain ⟨ca, cc, rfl, -, -⟩ := v3.ints.form
  clear v1 v2 v3 hb1 hb2
  have hz2 := hb2'.size
  have hbB : ∀ ob, Below w.heap.size w (w2.alloc ob) := fun ob => hb2'.alloc hz2 ob
  have HTx := hide (fun ob => text_any q _ _ _ _ (w2.alloc ob) ((unhide HI).below ((Below.refl _ _).alloc (Nat.le_refl _) ob)) (unhide HWh).lists (unhide HWh).next ((unhide Hr).below (hbB ob) (Nat.le_refl _)))
  clear hbB
  go_wp2_with fail
  refine (unhide HTx _).mono ?_
  rintro e w3 ⟨s, rfl, hs, hb3⟩
  clear HTx
  have hsz : 1 ≤ s.size ∧ s.size ≤ 8000 := by
    rw [Lib.size_eq, unhide hs]
    exact ⟨List.length_pos_iff.2 (Sp.ended_ne _ (by simp [Sp.linesOf])), unhide Hlen⟩
  obtain ⟨hs1, hs2⟩ := hsz
  have hemp : s.toList.isEmpty = false := by
    rw [Lib.toList_data]
    cases h : s.data.toList with
    | nil => rw [Lib.size_eq, h] at hs1; simp at hs1
    | cons a b => rfl
  obtain ⟨k0, k1, k2, k3, hz3⟩ := box_new w2 q.n _ _ _ w3 (by simpa using hb3)
  have hb3' : Below w.heap.size w w3 := (hb2'.alloc hz2 _).trans (hb3.mono (by simp; omega))
  have HI3 := hide ((unhide HI).below (((Below.refl _ _).alloc (Nat.le_refl _) _).trans (hb3.mono (by simp))))
  have HP := hide (parse_any (s.extract 0 (s.size - 1)) w3 (by rw [ByteArray.size_extract]; unfold maxLen; omega) ((unhide Hr).below hb3' (Nat.le_refl _)))
  have HE : Hid (Sp.parse (s.extract 0 (s.size - 1)).data.toList = (some q, 0, 0)) := by
    refine hide ?_
    rw [extract_list, List.drop_zero, Lib.size_eq, ← List.dropLast_eq_take, unhide hs]
    exact unhide Hp2
  clear hb3 HI hb2' hz2 hs Hlen Hp2
  have hsI : ((s.size : Int) - 1).toNat = s.size - 1 := by omega
  go_wp2_with fail
  refine (unhide HP).mono ?_
  intro e w4 hO
  clear HP
  obtain ⟨ta4, tc4, na4, nc4, ca4, cc4, rfl, o1, o2, o3, hb4⟩ := hO.open (unhide HE)
  clear hO HE
  have HI4 := hide (NetI.mk rfl o1.ints o2.ints o3.ints : NetI w4 (.agg #[.int .i64 q.n, .slice ta4 q.tail.length tc4, .slice na4 q.next.length nc4, .slice ca4 q.cap.length cc4]) q _ _ _)
  have HI5 := hide ((unhide HI3).below hb4)
  have hz4 := hb4.size
  have hb4' : Below w.heap.size w w4 := hb3'.trans (hb4.mono hb3'.size)
  have hlen := (unhide HWh).lists.nl
  have hlen2 := (unhide HWh).lists.cl
  have HSm := hide (fun ob => same_any q q _ _ _ _ _ _ _ _ (w4.alloc ob) ((unhide HI4).below ((Below.refl _ _).alloc (Nat.le_refl _) ob)) ((unhide HI5).below ((Below.refl _ _).alloc (Nat.le_refl _) ob)) (by omega) (by omega))
  have kk : ∀ ob, (w4.alloc ob).cell? ⟨w2.heap.size, 0, none⟩ = some (.int .i64 q.n) ∧ (w4.alloc ob).cell? ⟨w2.heap.size, 1, none⟩ = some (.slice ta q.tail.length tc) ∧ (w4.alloc ob).cell? ⟨w2.heap.size, 2, none⟩ = some (.slice na q.next.length nc) ∧ (w4.alloc ob).cell? ⟨w2.heap.size, 3, none⟩ = some (.slice ca q.cap.length cc) := fun ob => by
    have hb5 : Below w3.heap.size w3 (w4.alloc ob) := hb4.alloc hz4 ob
    exact ⟨(hb5.cell (by show w2.heap.size < _; omega)).trans k0, (hb5.cell (by show w2.heap.size < _; omega)).trans k1, (hb5.cell (by show w2.heap.size < _; omega)).trans k2, (hb5.cell (by show w2.heap.size < _; omega)).trans k3⟩
  have kk0 := fun ob => (kk ob).1
  have kk1 := fun ob => (kk ob).2.1
  have kk2 := fun ob => (kk ob).2.2.1
  have kk3 := fun ob => (kk ob).2.2.2
  have hb5 : ∀ ob, Below w.heap.size w (w4.alloc ob) := fun ob => hb4'.alloc hb4'.size ob
  have HB5 := hide hb5
  rw [netEq_refl] at HSm
  clear kk k0 k1 k2 k3 hb4 o1 o2 o3 hlen hlen2 hb5 hb4' HI3 HI4 HI5 hb3' hs1 hs2 hemp hsI
  go_wp2_with fail
  refine (unhide HSm _).mono ?_
  rintro e w6 ⟨rfl, hb6⟩
  have hb6' := (unhide HB5 _).trans (hb6.mono (unhide HB5 _).size)
  clear HSm HB5 hb6 kk0 kk1 kk2 kk3
  go_wp2
  go_ret
  exact ⟨rfl, hb6'⟩
end Go.Proofs.YtdbloaigbjfadaaDoor
