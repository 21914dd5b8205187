/- The walk of net.Text at a net: the head and the edges' lines. -/
import Derived.Test.YtkmcfjkfoafkoaaDoorT6
import Derived.Test.YtkmcfjkfoafkoaaDoorW13
import Derived.Deep.RegionHeld3
import Derived.Deep.AppendLies
namespace Go.Proofs.YtkmcfjkfoafkoaaDoor
open Go Go.RowKit

theorem ints4_new (X : World) (a b c d : Int) : Ints (X.alloc (.cells #[.int .i64 a, .int .i64 b, .int .i64 c, .int .i64 d] 3)) (.slice (some ⟨X.heap.size, 0, none⟩) 4 4) [a, b, c, d] := by
  refine ⟨_, _, rfl, Nat.le_refl _, by decide, fun k hk => ⟨X.heap.size, 0, rfl, by simp, ?_⟩⟩
  rw [cell_of_row _ _ _ _ _ _ (heap_alloc_new X _)]
  match k, hk with
  | 0, _ => rfl
  | 1, _ => rfl
  | 2, _ => rfl
  | 3, _ => rfl
/-- The text of an edge's four numbers, laid behind the lines: the statement of the loop. -/
theorem Ints.drew {w : World} {v : Value} {l : List Int} (h : Ints w v l) : Ints w.drew v l := h.below (Below.refl _ w).drew
theorem edge_line (y0 y1 y2 y3 : Int) : (⟨#[101, 100, 103, 101, 32]⟩ : ByteArray).data.toList ++ Sp.rowText [y0, y1, y2, y3] = Sp.wEdge ++ 32 :: Sp.rowText [y0, y1, y2, y3] := rfl
/-- The least dart of a vertex, if it has one. -/
def Sp.first (tail : List Int) (v : Int) : Option Nat := (List.range tail.length).find? fun d => decide (tail.getD d 0 = v)
/-- A vertex's darts as its line tells them. -/
def Sp.turnOf (q : Sp.Net) (v : Nat) : List Int := match Sp.first q.tail v with
  | none => []
  | some d => Sp.rounds q.next d (Sp.countOf q.tail v).toNat
/-- A net's text. -/
def Sp.textOf (q : Sp.Net) : List UInt8 := Sp.ended (Sp.linesOf q ((List.range q.n.toNat).map (Sp.turnOf q)))
theorem find_range (p : Nat → Bool) (n d : Nat) (h : d < n) (hp : p d = true) (hb : ∀ i, i < d → p i = false) : (List.range n).find? p = some d := by
  induction n with
  | zero => omega
  | succ n ih =>
    rw [List.range_succ, List.find?_append]
    by_cases hd : d < n
    · rw [ih hd]; rfl
    · obtain rfl : d = n := by omega
      rw [List.find?_eq_none.2]
      · simp [hp]
      · intro x hx
        simp [hb x (List.mem_range.1 hx)]
theorem Sp.turnOf_some (q : Sp.Net) (v d m : Nat) (h : d < q.tail.length) (hp : q.tail.getD d 0 = v) (hb : ∀ i, i < d → q.tail.getD i 0 ≠ v) (hm : Sp.countOf q.tail v = m) : Sp.turnOf q v = Sp.rounds q.next d m := by
  unfold Sp.turnOf Sp.first
  rw [find_range _ _ d h (decide_eq_true hp) fun i hi => decide_eq_false (hb i hi)]
  simp [hm]
theorem Sp.turnOf_none (q : Sp.Net) (v : Nat) (hb : ∀ i, i < q.tail.length → q.tail.getD i 0 ≠ v) : Sp.turnOf q v = [] := by
  unfold Sp.turnOf Sp.first
  rw [List.find?_eq_none.2]
  intro x hx
  simpa using hb x (List.mem_range.1 hx)
theorem Sp.countOf_pos (l : List Int) (d : Nat) (h : d < l.length) : 1 ≤ Sp.countOf l (l.getD d 0) := by
  unfold Sp.countOf
  have : l.getD d 0 ∈ l.filter fun y => decide (y = l.getD d 0) := List.mem_filter.2 ⟨Sp.getD_mem h, by simp⟩
  have := List.length_pos_of_mem this
  omega
theorem joinTail_ended (r : List (List UInt8)) : Lib.joinTail [10] r ++ [10] = 10 :: Sp.ended r := by
  induction r with
  | nil => rfl
  | cons y r ih =>
    have h : Lib.joinTail [10] (y :: r) = 10 :: y ++ Lib.joinTail [10] r := by simp [Lib.joinTail]
    rw [h, List.append_assoc, ih, Sp.ended_cons]; simp
theorem join_ended (ls : List (List UInt8)) (hne : ls ≠ []) : Lib.join ls [10] ++ [10] = Sp.ended ls := by
  cases ls with
  | nil => exact absurd rfl hne
  | cons x r => rw [Lib.join_cons, List.append_assoc, joinTail_ended, Sp.ended_cons]
theorem ended_len (K : Nat) (ls : List (List UInt8)) (h : ∀ p ∈ ls, p.length ≤ K) : (Sp.ended ls).length ≤ ls.length * (K + 1) := by
  induction ls with
  | nil => simp [Sp.ended]
  | cons x r ih =>
    have h1 := h x (by simp)
    have h2 := ih fun p hp => h p (by simp [hp])
    rw [Sp.ended_cons]
    simp only [List.length_append, List.length_cons, Nat.add_mul]
    omega
theorem Sp.turnOf_bd (q : Sp.Net) (hq : Sp.Lists q) (hx : ∀ x ∈ q.next, 0 ≤ x ∧ x < q.tail.length) (v : Nat) : (Sp.turnOf q v).length ≤ 240 ∧ ∀ x ∈ Sp.turnOf q v, 0 ≤ x ∧ x < q.tail.length := by
  unfold Sp.turnOf
  split
  · simp
  · rename_i d hd
    have hd2 := List.mem_of_find?_eq_some hd
    have hd3 := List.mem_range.1 hd2
    refine ⟨?_, ?_⟩
    · rw [Sp.rounds_len]
      have := (Sp.countOf_bd q.tail v).2
      have := hq.tl
      omega
    · intro x hm
      obtain ⟨i, -, rfl⟩ := List.mem_map.1 hm
      exact Sp.nth_bd hq.nl hx (by omega) (by omega) i
theorem lines_short (q : Sp.Net) (hq : Sp.Lists q) (hx : ∀ x ∈ q.next, 0 ≤ x ∧ x < q.tail.length) (n : Nat) : ∀ p ∈ Sp.linesOf q ((List.range n).map (Sp.turnOf q)), p.length ≤ 5300 := by
  have n0 := hq.n0
  have n1 := hq.n1
  have htl := hq.tl
  intro p hp
  unfold Sp.linesOf at hp
  rcases List.mem_cons.1 hp with rfl | hp
  · have := Sp.rowText_len [q.n] (by intro x hx; simp at hx; subst hx; omega)
    simp [Sp.headLine, Sp.wNet] at this ⊢
    omega
  · rcases List.mem_append.1 hp with hp | hp
    · obtain ⟨e, he, rfl⟩ := List.mem_map.1 hp
      have := Sp.rowText_len (Sp.edgeRow q e) (by intro x hx; have := Sp.edgeRow_bd q hq e (List.mem_range.1 he) x hx; omega)
      have h4 : (Sp.edgeRow q e).length = 4 := rfl
      simp [Sp.edgeLine, Sp.wEdge]
      omega
    · obtain ⟨l, hl, rfl⟩ := List.mem_map.1 hp
      obtain ⟨v, -, rfl⟩ := List.mem_map.1 hl
      obtain ⟨b1, b2⟩ := Sp.turnOf_bd q hq hx v
      have := Sp.rowText_len (Sp.turnOf q v) (by intro x hx; have := b2 x hx; omega)
      unfold Sp.turnLine
      split
      · decide
      · simp [Sp.wTurn]
        omega
set_option maxRecDepth 100000 in
set_option maxHeartbeats 600000 in
theorem text_any (q : Sp.Net) (v tv nv cv : Value) (w : World) (hv : NetI w v q tv nv cv) (hq : Sp.Lists q) (hx : ∀ x ∈ q.next, 0 ≤ x ∧ x < q.tail.length) (hr : Rt w) :
    Calls Tryd.prog 19 #[v] w fun e w' => ∃ s : ByteArray, e = .returned (.string s) ∧ Hid (s.data.toList = Sp.textOf q) ∧ Below w.heap.size w w' := by
  have HWK := hide (fun w' (hb : Below w.heap.size w w') => walkable_any q v tv nv cv w' (hv.below hb) hq hx)
  obtain ⟨rfl, h1, h2, h3⟩ := hv
  have hn0 := hq.n0
  have hn1 := hq.n1
  have htl := hq.tl
  have hnl := hq.nl
  have hcl := hq.cl
  have hev := hq.ev
  have Hq := hide hq
  have Hx := hide hx
  have HV := hide h1
  have HNI : Hid (∀ w' : World, Below w.heap.size w w' → NetI w' (.agg #[.int .i64 q.n, tv, nv, cv]) q tv nv cv) := hide fun w' hb => ⟨rfl, h1.below hb, h2.below hb, h3.below hb⟩
  have HCE : Hid (0 < q.tail.length → ∃ b o b2 o2 c c2, tv = .slice (some ⟨b, o, none⟩) q.tail.length c ∧ cv = .slice (some ⟨b2, o2, none⟩) q.tail.length c2 ∧ ∀ w' : World, Below w.heap.size w w' → ∀ k, k < q.tail.length → w'.cell? ⟨b, o + k, none⟩ = some (.int .i64 (q.tail.getD k 0)) ∧ w'.cell? ⟨b2, o2 + k, none⟩ = some (.int .i64 (q.cap.getD k 0))) := by
    refine hide fun h0 => ?_
    obtain ⟨b, o, c, e1, -, -, hl1, f1⟩ := h1.at h0
    obtain ⟨b2, o2, c2, e2, -, -, hl2, f2⟩ := h3.at (by omega)
    refine ⟨b, o, b2, o2, c, c2, e1, by rw [e2, hcl], fun w' hb k hk => ⟨?_, ?_⟩⟩
    · rw [hb.cell (by exact hl1), f1 k hk, Sp.getD_eq _ _ hk]
    · rw [hb.cell (by exact hl2), f2 k (by omega), Sp.getD_eq _ _ (by omega)]
  obtain ⟨ta, tc, rfl, htc, htm⟩ := h1.form
  obtain ⟨na, nc, rfl, hnc, hnm⟩ := h2.form
  obtain ⟨ca, cc, rfl, hcc, hcm⟩ := h3.form
  clear h1 h2 h3 hx hq
  rw [hnl] at hnc HNI HWK
  rw [hcl] at hcc HNI HWK HCE
  rw [hnl, hcl]
  have Hnl := hide hnl; have Hcl := hide hcl; have Hev := hide hev; clear hnl hcl hev
  obtain ⟨i0, hi, hz0, hz1, hz2⟩ := info_parts infoS
  have Hi := hide hi; clear hi
  have Hz0 := hide hz0; clear hz0
  have Hz1 := hide hz1; clear hz1
  have Hz2 := hide hz2; clear hz2
  have Hr := hide hr; clear hr
  have HB0 : ∀ o, Below w.heap.size w (w.alloc o) := fun o => (Below.refl _ w).alloc (Nat.le_refl _) o
  obtain ⟨bx, hbx⟩ : ∃ bx : Obj, bx = .cells #[.int .i64 q.n, .slice ta q.tail.length tc, .slice na q.tail.length nc, .slice ca q.tail.length cc] 34 := ⟨_, rfl⟩
  have HBX : Hid (∀ w', Below (w.heap.size + 1) (w.alloc bx) w' → (w'.cell? ⟨w.heap.size, 0, none⟩ = some (.int .i64 q.n) ∧ w'.cell? ⟨w.heap.size, 1, none⟩ = some (.slice ta q.tail.length tc) ∧ w'.cell? ⟨w.heap.size, 2, none⟩ = some (.slice na q.tail.length nc) ∧ w'.cell? ⟨w.heap.size, 3, none⟩ = some (.slice ca q.tail.length cc)) ∧ Below w.heap.size w w' ∧ w.heap.size + 1 ≤ w'.heap.size) := by
    refine hide fun w' hb => ?_
    subst hbx
    obtain ⟨k0, k1, k2, k3⟩ := net_new w (.int .i64 q.n) (.slice ta q.tail.length tc) (.slice na q.tail.length nc) (.slice ca q.tail.length cc) 34
    have hs := hb.size
    simp at hs
    exact ⟨⟨(hb.cell (by show w.heap.size < _; omega)).trans k0, (hb.cell (by show w.heap.size < _; omega)).trans k1, (hb.cell (by show w.heap.size < _; omega)).trans k2, (hb.cell (by show w.heap.size < _; omega)).trans k3⟩, ((Below.refl _ w).alloc (Nat.le_refl _) _).trans (hb.mono (by omega)), by omega⟩
  have HW1 := hide (unhide HWK (w.alloc bx) (HB0 bx))
  subst hbx
  clear HWK HB0
  go_enter Tryd.func19, Tryd.ntmps19
  go_wp2
  go_step3
  go_wp2_with fail
  refine (unhide HW1).mono ?_
  rintro e w1 ⟨rfl, hb1⟩
  clear HW1
  have hb2 : Below (w.heap.size + 1) (w.alloc (.cells #[.int .i64 q.n, .slice ta q.tail.length tc, .slice na q.tail.length nc, .slice ca q.tail.length cc] 34)) w1 := hb1.mono (by simp)
  clear hb1
  generalize w.alloc (.cells #[.int .i64 q.n, .slice ta q.tail.length tc, .slice na q.tail.length nc, .slice ca q.tail.length cc] 34) = W1 at *
  obtain ⟨⟨c0, c1, -, -⟩, hbw, hsz⟩ := unhide HBX _ hb2
  go_wp2_with fail
  refine (itoa_any q.n _ (by omega) (by omega) ((unhide Hr).below hbw (Nat.le_refl _))).mono ?_
  rintro e w2 ⟨s1, rfl, hs1, hs1z, hb3⟩
  have hb4 : Below (w.heap.size + 1) W1 w2 := hb2.trans (hb3.mono hsz)
  clear c0 c1 hb3 hbw hb2
  obtain ⟨⟨c0, c1, -, -⟩, hbw, hsz2⟩ := unhide HBX _ hb4
  have HO : Hid (OwnS (w2.alloc (.cells #[.string (⟨#[110, 101, 116, 32]⟩ ++ s1)] 9)) (w.heap.size + 1) (.slice (some ⟨w2.heap.size, 0, none⟩) 1 1) [⟨#[110, 101, 116, 32]⟩ ++ s1]) :=
    hide ⟨rfl, .inr ⟨w2.heap.size, 1, _, rfl, by omega, heap_alloc_new w2 _, Nat.le_refl _, by decide, rfl, rfl⟩⟩
  have HL0 : Hid (bytesOf [(⟨#[110, 101, 116, 32]⟩ ++ s1 : ByteArray)] = Sp.headLine q :: (List.range 0).map (Sp.edgeLine q)) := by
    refine hide ?_
    show [(⟨#[110, 101, 116, 32]⟩ ++ s1 : ByteArray).data.toList] = [Sp.headLine q]
    rw [ByteArray.data_append, Array.toList_append, unhide hs1]
    simp [Sp.headLine, Sp.wNet, Sp.rowText]
  have HB5 : Hid (Below (w.heap.size + 1) W1 (w2.alloc (.cells #[.string (⟨#[110, 101, 116, 32]⟩ ++ s1)] 9))) := hide (hb4.alloc hsz2 _)
  clear hs1
  go_wp2
  clear hs1z
  generalize (⟨#[110, 101, 116, 32]⟩ ++ s1 : ByteArray) = s0 at *
  clear c0 c1 hb4 hbw
  go_loopw [3, 4] (fun lv i wr => ∃ (k e : Nat) (L : List ByteArray), k = 2 * e ∧ k ≤ q.tail.length ∧ i = .int .i64 k ∧ OwnS wr (w.heap.size + 1) lv L ∧ L.length = e + 1 ∧ Hid (bytesOf L = Sp.headLine q :: (List.range e).map (Sp.edgeLine q)) ∧ Below (w.heap.size + 1) W1 wr) (fun _ i _ => q.tail.length - (intOf i).toNat)
  case atStart => exact ⟨0, 0, _, rfl, by omega, rfl, unhide HO, rfl, HL0, unhide HB5⟩
  case round =>
    clear HO HL0 HB5
    obtain ⟨k, e, L, hk, hkl, rfl, hown, hLl, hL, hb⟩ := hrel
    obtain ⟨⟨c0, c1, -, c3⟩, hbw, hszr⟩ := unhide HBX _ hb
    by_cases hlt : k < q.tail.length
    · have hlt1 : k + 1 < q.tail.length := by have := unhide Hev; omega
      have hlt' : (k : Int) < q.tail.length := by omega
      have h0' : (0 : Int) ≤ (k : Int) := by omega
      obtain ⟨j, hj⟩ : ∃ j, j = k + 1 := ⟨_, rfl⟩
      have hj' : (k : Int) + 1 = (j : Int) := by omega
      have hjw : IntKind.i64.wrap ((k : Int) + 1) = (j : Int) := by rw [IntKind.wrap_i64]; omega
      have hjw2 : IntKind.i64.wrap (j : Int) = (j : Int) := by rw [IntKind.wrap_i64]; omega
      have hlt1' : (j : Int) < q.tail.length := by omega
      have h0'' : (0 : Int) ≤ (j : Int) := by omega
      obtain ⟨b, o, b2, o2, c, c2, e1, e2, hce⟩ := unhide HCE (by omega)
      injection e1 with e1 _ e1c
      injection e2 with e2 _ e2c
      subst e1 e2 e1c e2c
      have HK : Hid (∀ w', Below (w.heap.size + 1) W1 w' → w'.cell? ⟨w.heap.size, 1, none⟩ = some (.slice (some ⟨b, o, none⟩) q.tail.length tc) ∧ w'.cell? ⟨w.heap.size, 3, none⟩ = some (.slice (some ⟨b2, o2, none⟩) q.tail.length cc) ∧ w'.cell? ⟨b, o + k, none⟩ = some (.int .i64 (q.tail.getD k 0)) ∧ w'.cell? ⟨b, o + j, none⟩ = some (.int .i64 (q.tail.getD j 0)) ∧ w'.cell? ⟨b2, o2 + k, none⟩ = some (.int .i64 (q.cap.getD k 0)) ∧ w'.cell? ⟨b2, o2 + j, none⟩ = some (.int .i64 (q.cap.getD j 0))) := by
        refine hide fun w' hb' => ?_
        obtain ⟨⟨-, d1, -, d3⟩, hbw', -⟩ := unhide HBX _ hb'
        obtain ⟨g1, g2⟩ := hce w' hbw' k hlt
        obtain ⟨g3, g4⟩ := hce w' hbw' j (by omega)
        exact ⟨d1, d3, g1, g3, g2, g4⟩
      clear hce
      have HE : Hid (Sp.edgeLine q e = Sp.wEdge ++ 32 :: Sp.rowText [q.tail.getD k 0, q.tail.getD (k + 1) 0, q.cap.getD k 0, q.cap.getD (k + 1) 0]) := hide (by rw [hk]; rfl)
      have HY : Hid (∀ x ∈ [q.tail.getD k 0, q.tail.getD (k + 1) 0, q.cap.getD k 0, q.cap.getD (k + 1) 0], -9223372036854775808 ≤ x ∧ x ≤ 9223372036854775807) := by
        refine hide fun x hx => ?_
        have := Sp.edgeRow_bd q (unhide Hq) e (by omega) x (by rw [hk] at hx; exact hx)
        omega
      rw [← hj] at HE HY
      have Hj := hide hj; clear hj hlt1
      generalize q.tail.getD k 0 = y0 at *
      generalize q.tail.getD j 0 = y1 at *
      generalize q.cap.getD k 0 = y2 at *
      generalize q.cap.getD j 0 = y3 at *
      have HZ4 : Hid ((Sp.rowText [y0, y1, y2, y3]).length ≤ 88) := hide (Sp.rowText_len _ (unhide HY))
      have HO := hide hown; clear hown
      have hLb : L.length ≤ 122 := by omega
      have Hll := hide hLl; clear hLl
      have Hhk := hide hk; clear hk
      go_wp2
      go_region_held3 (fun w' => w'.cell? ⟨w.heap.size, 1, none⟩ = some (.slice (some ⟨b, o, none⟩) q.tail.length tc) ∧ w'.cell? ⟨w.heap.size, 3, none⟩ = some (.slice (some ⟨b2, o2, none⟩) q.tail.length cc) ∧ w'.cell? ⟨b, o + k, none⟩ = some (.int .i64 y0) ∧ w'.cell? ⟨b, o + j, none⟩ = some (.int .i64 y1) ∧ w'.cell? ⟨b2, o2 + k, none⟩ = some (.int .i64 y2) ∧ w'.cell? ⟨b2, o2 + j, none⟩ = some (.int .i64 y3))
        (first
          | exact unhide HK _ hb.drew
          | exact unhide HK _ (hb.alloc hszr _).drew
          | exact unhide HK _ hbA
          | exact unhide HK _ (hbA.alloc (Nat.le_trans hszr hszA) _)
          | exact unhide HK _ hbC.2)
        (first
          | (go_at_call 8
             refine (rowText_any [y0, y1, y2, y3] _ _ (ints4_new wr y0 y1 y2 y3).drew (by simp) (unhide HY) ((unhide Hr).below (unhide HBX _ (hb.alloc hszr _).drew).2.1 (Nat.le_refl _))).mono ?_
             rintro e w4 ⟨s4, rfl, hs4, hb4⟩
             have hs4z : s4.size ≤ 88 := by rw [Lib.size_eq, unhide hs4]; exact unhide HZ4
             have hq4 : ∀ x : World, (Op.stringOp .add (⟨#[101, 100, 103, 101, 32]⟩ : ByteArray) s4).run Tryd.prog x = .ok (.string (⟨#[101, 100, 103, 101, 32]⟩ ++ s4)) x := fun x => run_string_add_sum x _ _ (by show 5 + s4.size ≤ _; omega)
             have hq2 : ¬ 9223372036854775807 < (⟨#[101, 100, 103, 101, 32]⟩ : ByteArray).size + s4.size := by show ¬ _ < 5 + s4.size; omega
             have hszA : wr.heap.size ≤ w4.heap.size := Nat.le_trans (by simp) hb4.size
             have hbB : Below wr.heap.size wr w4 := (((Below.refl _ wr).alloc (Nat.le_refl _) _).drew).trans (hb4.mono (by simp))
             have hbA : Below (w.heap.size + 1) W1 w4 := hb.trans (hbB.mono hszr))
          | (refine step_append_lies _ (by rfl) _ _ _ (by rfl) (w.heap.size + 1) 9 i0 _ 1 16 Tryd.underlying29 (unhide Hi) (unhide Hz0) (unhide Hz1) (unhide Hz2) rfl (by omega) _ _ _ (by rfl) ((own_below (unhide HO) hbB).alloc _) ⟨w4.heap.size, 0, none⟩ 1 1 [.string (⟨#[101, 100, 103, 101, 32]⟩ ++ s4)] (by rfl) (by rfl) (cell_one_new _ _ _) (one_str _) (by omega) (by unfold maxLen; omega) (by omega) (by simp; omega) (w4.heap.size + 1) (by simp) ?_
             intro g cap w5 hown5 hgrow hat hlt5
             have hbC := ownS_push (x := ⟨#[101, 100, 103, 101, 32]⟩ ++ s4) (own_below (unhide HO) hbB) hbA hown5 hgrow (Nat.le_trans hszr hszA)))
      have HC := hide hbC; clear hbC hgrow hown5 hat hbA hbB hb4
      have HBL : Hid (bytesOf (L ++ [⟨#[101, 100, 103, 101, 32]⟩ ++ s4]) = Sp.headLine q :: (List.range (e + 1)).map (Sp.edgeLine q)) := by
        refine hide ?_
        have h1 : bytesOf (L ++ [⟨#[101, 100, 103, 101, 32]⟩ ++ s4]) = bytesOf L ++ [(⟨#[101, 100, 103, 101, 32]⟩ ++ s4 : ByteArray).data.toList] := by simp [bytesOf]
        rw [h1, unhide hL, ByteArray.data_append, Array.toList_append, unhide hs4, edge_line, ← unhide HE, List.range_succ]
        simp
      have hke : k + 2 ≤ q.tail.length := by have := unhide Hev; have := unhide Hhk; omega
      go_wp2
      go_roundw
      case rel => exact ⟨k + 2, e + 1, _, by have := unhide Hhk; omega, hke, by go_num, (unhide HC).1, by simp [unhide Hll], HBL, (unhide HC).2⟩
      case measure => simp [intOf]; omega
    · have he : e = q.tail.length / 2 := by have := unhide Hev; omega
      rw [he] at hL hLl
      obtain ⟨nn, hnn⟩ : ∃ nn : Nat, q.n = nn := ⟨q.n.toNat, by omega⟩
      have hnn1 : nn ≤ 60 := by omega
      have HL0 : Hid (bytesOf L = Sp.headLine q :: ((List.range (q.tail.length / 2)).map (Sp.edgeLine q) ++ (List.range 0).map fun v => Sp.turnLine (Sp.turnOf q v))) := hide (by rw [unhide hL]; simp)
      have HLL : Hid (L.length = q.tail.length / 2 + 1 + 0) := hide (by omega)
      have HO := hide hown; have HB := hide hb
      have hlt' : ¬ (k : Int) < q.tail.length := by omega
      rw [hnn] at c0
      have Hnn := hide hnn
      clear hL hLl he hk hnn
      go_wp2
      go_step3
      go_wp2
      clear c0 c1 c3 hown hb hbw
      go_loopw [3, 53] (fun lv i wr => ∃ (v : Nat) (L : List ByteArray), v ≤ nn ∧ i = .int .i64 v ∧ Hid (OwnS wr (w.heap.size + 1) lv L) ∧ Hid (L.length = q.tail.length / 2 + 1 + v) ∧ Hid (bytesOf L = Sp.headLine q :: ((List.range (q.tail.length / 2)).map (Sp.edgeLine q) ++ (List.range v).map fun v => Sp.turnLine (Sp.turnOf q v))) ∧ Hid (Below (w.heap.size + 1) W1 wr)) (fun _ i _ => nn - (intOf i).toNat)
      case atStart => exact ⟨0, L, by omega, rfl, HO, HLL, HL0, HB⟩
      case round =>
        clear HO HLL HL0 HB
        obtain ⟨v, L', hv, rfl, hO, hLL, hL0, hB⟩ := hrel
        obtain ⟨⟨c0, c1, c2, c3⟩, hbw, hszr⟩ := unhide HBX _ (unhide hB)
        by_cases hltv : v < nn
        · have hltv' : (v : Int) < nn := by omega
          have hLb : L'.length ≤ 200 := by have := unhide hLL; omega
          have HBO : Hid (bytesOf L' = Sp.headLine q :: ((List.range (q.tail.length / 2)).map (Sp.edgeLine q) ++ (List.range v).map fun v => Sp.turnLine (Sp.turnOf q v))) := hL0
          have HSTEP : Hid (∀ x : ByteArray, x.data.toList = Sp.turnLine (Sp.turnOf q v) → bytesOf (L' ++ [x]) = Sp.headLine q :: ((List.range (q.tail.length / 2)).map (Sp.edgeLine q) ++ (List.range (v + 1)).map fun v => Sp.turnLine (Sp.turnOf q v))) := by
            refine hide fun x hx => ?_
            have h1 : bytesOf (L' ++ [x]) = bytesOf L' ++ [x.data.toList] := by simp [bytesOf]
            rw [h1, unhide hL0, hx, List.range_succ]
            simp
          clear hL0 HBO
          go_wp2
          go_loop [3, 59] (fun lv2 i => ∃ d : Nat, d ≤ q.tail.length ∧ i = .int .i64 d ∧ Hid (OwnS wr (w.heap.size + 1) lv2 L') ∧ Hid (∀ i, i < d → q.tail.getD i 0 ≠ (v : Int))) (fun _ i => q.tail.length - (intOf i).toNat)
          case atStart => exact ⟨0, by omega, rfl, hO, hide fun i hi => absurd hi (by omega)⟩
          case round =>
            clear hO
            obtain ⟨d, hd, rfl, hO, hne⟩ := hrel
            by_cases hdl : d < q.tail.length
            · have hdl' : (d : Int) < q.tail.length := by omega
              obtain ⟨b, o, b2, o2, c, c2', e1, e2, hce⟩ := unhide HCE (by omega)
              injection e1 with e1 _ e1c
              injection e2 with e2 _ e2c
              subst e1 e2 e1c e2c
              obtain ⟨g1, -⟩ := hce wr hbw d hdl
              clear hce
              by_cases hdv : q.tail.getD d 0 = (v : Int)
              · obtain ⟨m, hm⟩ : ∃ m : Nat, Sp.countOf q.tail v = m := ⟨(Sp.countOf q.tail v).toNat, by have := (Sp.countOf_bd q.tail v).1; omega⟩
                have hm1 : 1 ≤ m := by have := Sp.countOf_pos q.tail d hdl; rw [hdv] at this; omega
                have hm2 : m ≤ 240 := by have := (Sp.countOf_bd q.tail v).2; omega
                have HRD := hide (round_any q _ _ _ _ d m wr (unhide HNI wr hbw) (unhide Hq) (unhide Hx) hdl (by rw [hdv]; exact hm) hm1)
                have HTO : Hid (Sp.turnOf q v = Sp.rounds q.next d m) := hide (Sp.turnOf_some q v d m hdl hdv (unhide hne) hm)
                have HBD : Hid (∀ x ∈ Sp.rounds q.next d m, -9223372036854775808 ≤ x ∧ x ≤ 9223372036854775807) := by
                  refine hide fun x hx => ?_
                  obtain ⟨i, -, rfl⟩ := List.mem_map.1 hx
                  have := Sp.nth_bd (unhide Hnl) (unhide Hx) (d := d) (by omega) (by omega) i
                  omega
                have HRL : Hid ((Sp.rounds q.next d m).length = m) := hide (Sp.rounds_len _ _ _)
                have HRZ : Hid ((Sp.rowText (Sp.rounds q.next d m)).length ≤ 22 * m) := hide (by have := Sp.rowText_len _ (unhide HBD); rw [unhide HRL] at this; exact this)
                generalize Sp.rounds q.next d m = R at *
                have HRN : Hid (R ≠ []) := hide (by intro h; have := unhide HRL; rw [h] at this; simp at this; omega)
                generalize q.tail.getD d 0 = x at *
                have hdv' : (x == (v : Int)) = true := beq_iff_eq.2 hdv
                have Hdv := hide hdv; clear hdv hm
                go_wp2_with fail
                refine (unhide HRD).mono ?_
                rintro e w4 ⟨u, rfl, hown4, hb4⟩
                clear HRD g1
                have hB4 : Below (w.heap.size + 1) W1 w4 := (unhide hB).trans (hb4.mono hszr)
                have HRT := hide (rowText_any R u w4 hown4.ints (by have := unhide HRL; omega) (unhide HBD) ((unhide Hr).below (unhide HBX _ hB4).2.1 (Nat.le_refl _)))
                have hs4 := hb4.size
                have HO4 := hide (own_below (unhide hO) hb4)
                clear hown4 hb4 c0 c1 c2 c3
                go_wp2_with fail
                refine (unhide HRT).mono ?_
                rintro e w5 ⟨s5, rfl, hs5, hb5⟩
                have hs5z : s5.size ≤ 5280 := by rw [Lib.size_eq, unhide hs5]; have := unhide HRZ; omega
                have hB5 : Below (w.heap.size + 1) W1 w5 := hB4.trans (hb5.mono (by omega))
                have HO5 := hide (own_below (unhide HO4) hb5)
                have hsz5 : w.heap.size + 1 ≤ w5.heap.size := by have := hb5.size; omega
                clear HRT HO4 hB4 hb5
                go_wp2_with (first
                  | (at_builtin; refine wpList_append_own _ rfl _ _ 29 rfl (w.heap.size + 1) 9 i0 (.string ⟨#[]⟩) 1 16 Tryd.underlying29 (unhide Hi) (unhide Hz0) (unhide Hz1) (unhide Hz2) rfl (by decide) _ _ _ rfl ((unhide HO5).alloc _) ⟨w5.heap.size, 0, none⟩ 1 1 [.string (⟨#[116, 117, 114, 110, 32]⟩ ++ s5)] rfl rfl (cell_one_new _ _ _) (one_str _) (by unfold maxLen; omega) (by omega) (by simp; omega) ?_)
                  | go_in)
                intro v' w6 hown6 hgrow _
                have HC := hide (ownS_push (x := ⟨#[116, 117, 114, 110, 32]⟩ ++ s5) (unhide HO5) hB5 hown6 hgrow hsz5)
                have HST := hide (unhide HSTEP (⟨#[116, 117, 114, 110, 32]⟩ ++ s5) (by
                  rw [ByteArray.data_append, Array.toList_append, unhide hs5, unhide HTO, Sp.turnLine, if_neg (unhide HRN)]; rfl))
                clear hown6 hgrow HO5 hB5
                go_wp2
                go_roundw
                case rel => exact ⟨v + 1, _, by omega, by go_num, hide (unhide HC).1, hide (by have := unhide hLL; simp; omega), HST, hide (unhide HC).2⟩
                case measure => simp [intOf]; omega
              · have Hne : Hid (∀ i, i < d + 1 → q.tail.getD i 0 ≠ (v : Int)) := hide fun i hi => by
                  by_cases h : i < d
                  · exact unhide hne i h
                  · obtain rfl : i = d := by omega
                    exact hdv
                generalize q.tail.getD d 0 = x at *
                have hdv' : (x == (v : Int)) = false := beq_eq_false_iff_ne.2 hdv
                have Hdv := hide hdv; clear hdv
                go_wp2
                go_round
                case rel => exact ⟨d + 1, by omega, by go_num, hO, Hne⟩
                case measure => simp [intOf]; omega
            · have HTO : Hid (Sp.turnOf q v = []) := hide (Sp.turnOf_none q v fun i hi => unhide hne i (by omega))
              have hdl' : ¬ (d : Int) < q.tail.length := by omega
              have hBB := unhide hB
              clear c0 c1 c2 c3
              go_wp2_with (first
                | (at_builtin; refine wpList_append_own _ rfl _ _ 29 rfl (w.heap.size + 1) 9 i0 (.string ⟨#[]⟩) 1 16 Tryd.underlying29 (unhide Hi) (unhide Hz0) (unhide Hz1) (unhide Hz2) rfl (by decide) _ _ _ rfl ((unhide hO).alloc _) ⟨wr.heap.size, 0, none⟩ 1 1 [.string ⟨#[116, 117, 114, 110]⟩] rfl rfl (cell_one_new _ _ _) (one_str _) (by unfold maxLen; omega) (by omega) (by simp; omega) ?_)
                | go_in)
              intro v' w6 hown6 hgrow _
              have HC := hide (ownS_push (x := ⟨#[116, 117, 114, 110]⟩) (unhide hO) hBB hown6 hgrow hszr)
              have HST := hide (unhide HSTEP ⟨#[116, 117, 114, 110]⟩ (by rw [unhide HTO]; rfl))
              clear hown6 hgrow hBB
              go_wp2
              go_roundw
              case rel => exact ⟨v + 1, _, by omega, by go_num, hide (unhide HC).1, hide (by have := unhide hLL; simp; omega), HST, hide (unhide HC).2⟩
              case measure => simp [intOf]; omega
        · obtain rfl : v = nn := by omega
          have hown := unhide hO
          have hLp : 0 < L'.length := by have := unhide hLL; omega
          have hLb : L'.length ≤ 200 := by have := unhide hLL; omega
          have HLS : Hid (bytesOf L' = Sp.linesOf q ((List.range q.n.toNat).map (Sp.turnOf q))) := by
            refine hide ?_
            rw [unhide hL0, Sp.linesOf, unhide Hnn, Int.toNat_natCast, List.map_map]
            rfl
          have HEL : Hid ((Lib.join (bytesOf L') [10]).length ≤ 140737488355328 ∧ Lib.join (bytesOf L') [10] ++ [10] = Sp.textOf q) := by
            have hne : bytesOf L' ≠ [] := by rw [unhide HLS]; simp [Sp.linesOf]
            have h1 := join_ended _ hne
            have h2 := ended_len 5300 (bytesOf L') (by rw [unhide HLS]; exact lines_short q (unhide Hq) (unhide Hx) _)
            have h3 : (bytesOf L').length = L'.length := by simp [bytesOf]
            refine hide ⟨?_, ?_⟩
            · rw [← h1, h3] at h2
              simp only [List.length_append] at h2
              omega
            · rw [h1, unhide HLS]; rfl
          obtain ⟨g, cap, hlv, hg0, hg1⟩ := hown.form hLp
          subst hlv
          have hcells : ∀ (j : Nat) (x : ByteArray), L'[j]? = some x → wr.cell? ⟨g, 0 + j, none⟩ = some (.string x) := by
            intro j x hj
            have h1 := hown.cells (g := g) rfl j (.string x) (by simp [hj])
            have e : (⟨g, 0, none⟩ : Addr).add j = ⟨g, 0 + j, none⟩ := by unfold Addr.add; split <;> simp_all
            rw [← e]; exact h1
          have hcap : L'.length ≤ cap := by
            obtain ⟨_, hv | ⟨g', cap', cur, hv, _, _, hc, _⟩⟩ := hown
            · simp at hv
            · injection hv with _ _ hv
              omega
          have HJ := hide (Tryd.strings_Join g 0 cap L' ⟨#[10]⟩ wr hcells hg1 (by omega) hcap (unhide HEL).1)
          have HB := hide (unhide HBX _ (unhide hB)).2.1
          have hltv' : ¬ (v : Int) < v := by omega
          clear hown hcells hcap hO hB hL0 c0 c1 c2 c3 hbw
          go_wp2_with fail
          refine (unhide HJ).mono ?_
          rintro e w4 ⟨rfl, hb5⟩
          have HB6 := hide ((unhide HB).trans (hb5.mono (by omega)))
          clear HJ HB hb5
          obtain ⟨s6, hs6⟩ : ∃ s6 : ByteArray, s6 = ⟨(Lib.join (L'.map (·.data.toList)) [10]).toArray⟩ := ⟨_, rfl⟩
          have h6 : s6.data.toList = Lib.join (bytesOf L') [10] := by rw [hs6]
          have h6z : s6.size ≤ 140737488355328 := by rw [Lib.size_eq, h6]; exact (unhide HEL).1
          have h6t : Hid (s6.data.toList ++ [10] = Sp.textOf q) := hide (by rw [h6]; exact (unhide HEL).2)
          rw [show (⟨(Lib.join (L'.map (·.data.toList)) (⟨#[10]⟩ : ByteArray).data.toList).toArray⟩ : ByteArray) = s6 from hs6.symm]
          clear hs6 h6
          go_wp2
          rw [Exit.noGoto_ret]
          go_ret
          exact ⟨_, rfl, hide (by rw [ByteArray.data_append, Array.toList_append]; exact unhide h6t), unhide HB6⟩
end Go.Proofs.YtkmcfjkfoafkoaaDoor
