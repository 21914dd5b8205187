/- What the proof needs, part 2. -/
import Derived.Laws.CopyOwn
import Derived.Deep.RegionLaw
import Derived.Test.YtohfmohkaaidpabL1
/- The walks of the library's bits.Mul and slices.Repeat, as far as they are called. -/
namespace Go.Proofs.Ytohfmohkaaidpab
open Go Go.RowKit

theorem and_mask : ∀ d : Fin 61, bits .and .u64 ((d.val : Nat) : Int) 4294967295 = ((d.val : Nat) : Int) := by decide +kernel
set_option maxRecDepth 100000 in
set_option maxHeartbeats 1000000 in
theorem mul64_any (N : Nat) (w : World) (hN : N ≤ 60) :
    Calls Try.prog 35 #[.int .u64 1, .int .u64 (N : Int)] w fun e w' => e = .returned (.tuple #[.int .u64 0, .int .u64 (N : Int)]) ∧ w' = w := by
  have h1 := and_mask ⟨N, by omega⟩
  simp only at h1
  have h2 : bits .and .u64 1 4294967295 = 1 := by decide +kernel
  have h3 : bits .and .u64 0 4294967295 = 0 := by decide +kernel
  have h4 : (N : Int) / 4294967296 = 0 := by omega
  have h5 : IntKind.u64.wrap (N : Int) = (N : Int) := by simp [IntKind.wrap, IntKind.bits]; omega
  have h6 : IntKind.u64.wrap 0 = 0 := by decide +kernel
  obtain ⟨P, hP⟩ : ∃ P : Ending → World → Prop, P = fun e w' => e = .returned (.tuple #[.int .u64 0, .int .u64 (N : Int)]) ∧ w' = w := ⟨_, rfl⟩
  rw [← hP]
  have HP := hide hP
  clear hP
  go_enter Try.func35, Try.ntmps35
  go_wp2
  rw [unhide HP]
  exact ⟨rfl, rfl⟩
set_option maxRecDepth 100000 in
set_option maxHeartbeats 1000000 in
theorem mul_any (N : Nat) (w : World) (hN : N ≤ 60) :
    Calls Try.prog 33 #[.int .u64 1, .int .u64 (N : Int)] w fun e w' => e = .returned (.tuple #[.int .u64 0, .int .u64 (N : Int)]) ∧ w' = w := by
  have HC := hide (mul64_any N w hN)
  obtain ⟨P, hP⟩ : ∃ P : Ending → World → Prop, P = fun e w' => e = .returned (.tuple #[.int .u64 0, .int .u64 (N : Int)]) ∧ w' = w := ⟨_, rfl⟩
  rw [← hP]
  have HP := hide hP
  clear hP
  go_enter Try.func33, Try.ntmps33
  go_wp2_with fail
  go_at_call 35
  refine (unhide HC).mono ?_
  rintro e w' ⟨rfl, rfl⟩
  go_wp2
  rw [unhide HP]
  exact ⟨rfl, rfl⟩
end Go.Proofs.Ytohfmohkaaidpab


/- Edges in a row: two numbers each. slices.Repeat of edges. -/
namespace Go.Proofs.Ytohfmohkaaidpab
open Go Go.RowKit

/-- Block b is a row of n numbers, two for each edge. -/
def EdAt (w : World) (b n : Nat) (z : Nat → Int) : Prop := ∃ c, w.heap[b]? = some (.cells c 48) ∧ c.size = n ∧ ∀ j, j < n → c[j]? = some (.int .i64 (z j))
theorem EdAt.lt {w : World} {b n : Nat} {z : Nat → Int} (h : EdAt w b n z) : b < w.heap.size := by
  obtain ⟨c, hc, -⟩ := h
  exact (Array.getElem?_eq_some_iff.1 hc).1
theorem EdAt.cell {w : World} {b n : Nat} {z : Nat → Int} (h : EdAt w b n z) {j : Nat} (hj : j < n) : w.cell? ⟨b, j, none⟩ = some (.int .i64 (z j)) := by
  obtain ⟨c, hc, -, hz⟩ := h
  simp only [World.cell?, hc]
  exact hz j hj
theorem EdAt.frozen {w : World} {b n : Nat} {z : Nat → Int} (h : EdAt w b n z) (j : Nat) (s : Option Nat) : w.frozen? ⟨b, j, s⟩ = false := by
  obtain ⟨c, hc, -⟩ := h
  simp only [World.frozen?, hc]
  simp
theorem EdAt.of_block {w w' : World} {b n : Nat} {z : Nat → Int} (h : EdAt w b n z) (e : w'.heap[b]? = w.heap[b]?) : EdAt w' b n z := by
  obtain ⟨c, hc, h1⟩ := h
  exact ⟨c, by rw [e]; exact hc, h1⟩
theorem EdAt.set {w : World} {b n : Nat} {z : Nat → Int} (h : EdAt w b n z) (j : Nat) (v : Int) : EdAt (w.setCell ⟨b, j, none⟩ (.int .i64 v)) b n (Sp.upd z j v) := by
  obtain ⟨c, hc, hs, hz⟩ := h
  refine ⟨c.setIfInBounds j (.int .i64 v), ?_, by simpa using hs, fun k hk => ?_⟩
  · simp only [World.setCell, Array.getElem?_modify, if_pos, hc]
    rfl
  · rw [Array.getElem?_setIfInBounds]
    by_cases hjk : j = k
    · rw [if_pos hjk, if_pos (by omega), ← hjk, Sp.upd_same]
    · rw [if_neg hjk, hz k hk, Sp.upd_other _ _ (by omega)]
theorem EdAt.below {w w' : World} {b n : Nat} {z : Nat → Int} (h : EdAt w b n z) (hb : Below w.heap.size w w') : EdAt w' b n z := h.of_block (hb.block b h.lt)
theorem EdAt.bt {p : Nat → Prop} {w w' : World} {b n : Nat} {z : Nat → Int} (h : EdAt w b n z) (hb : Bt p w w') (hp : ¬ p b) : EdAt w' b n z := h.of_block (hb.block b h.lt hp)
theorem EdAt.alloc {w : World} {b n : Nat} {z : Nat → Int} (h : EdAt w b n z) (o : Obj) : EdAt (w.alloc o) b n z := h.below ((Below.refl _ w).alloc (Nat.le_refl _) o)
theorem EdAt.drew {w : World} {b n : Nat} {z : Nat → Int} (h : EdAt w b n z) : EdAt w.drew b n z := h.of_block rfl
theorem EdAt.congr {w : World} {b n : Nat} {z z' : Nat → Int} (h : EdAt w b n z) (e : ∀ j, j < n → z j = z' j) : EdAt w b n z' := by
  obtain ⟨c, hc, hs, hz⟩ := h
  exact ⟨c, hc, hs, fun j hj => by rw [← e j hj]; exact hz j hj⟩
theorem EdAt.row {w : World} {b n k o : Nat} {y z : Nat → Int} (h : EdAt w b n y) (cs : List Value) (hk : cs.length = k) (hcs : ∀ j, j < k → cs[j]? = some (.int .i64 (z j))) (hfit : o + k ≤ n) (cur : Array Value) (hc : w.heap[b]? = some (.cells cur 48)) :
    EdAt (w.setRow b (cur.toList.take o ++ cs ++ cur.toList.drop (o + cs.length)).toArray) b n (fun j => if o ≤ j ∧ j < o + k then z (j - o) else y j) := by
  obtain ⟨c, hc', hs, hz⟩ := h
  rw [hc] at hc'
  injection hc' with hc'
  injection hc' with hc'
  subst hc'
  refine ⟨_, setRow_heap w b _ _ _ _ hc, by simp; omega, fun j hj => ?_⟩
  have hz' := hz j hj
  rw [← Array.getElem?_toList] at hz' ⊢
  have hl : cur.toList.length = n := by simp [hs]
  show (cur.toList.take o ++ cs ++ cur.toList.drop (o + cs.length))[j]? = _
  simp only [List.getElem?_append, List.length_append, List.length_take, hk, hl, List.getElem?_take, List.getElem?_drop]
  by_cases h1 : j < o
  · rw [if_pos (by omega), if_pos (by omega), if_pos h1, if_neg (by omega)]; exact hz'
  · by_cases h2 : j < o + k
    · rw [if_pos (by omega), if_neg (by omega), if_pos (by omega)]
      have := hcs (j - o) (by omega)
      rw [show j - min o n = j - o by omega]; exact this
    · rw [if_neg (by omega), if_neg (by omega), show o + k + (j - (min o n + k)) = j by omega]; exact hz'
theorem infoEd : (Try.prog.info? 48).map (fun i => (i.zero, i.size, i.bytes)) = some (some (.agg #[.int .i64 0, .int .i64 0]), 2, 16) := by kernel_rfl
theorem infoEd_parts : ∃ i0, Try.prog.info? 48 = some i0 ∧ i0.zero = some (.agg #[.int .i64 0, .int .i64 0]) ∧ i0.size = 2 ∧ i0.bytes = 16 := by
  have h := infoEd
  cases hq : Try.prog.info? 48 with
  | none => rw [hq] at h; cases h
  | some i0 =>
    rw [hq] at h
    simp only [Option.map_some, Option.some.injEq, Prod.mk.injEq] at h
    exact ⟨i0, rfl, h.1, h.2.1, h.2.2⟩
theorem run_copyEd (w : World) (g o dLen dCap : Nat) (sa : Addr) (sLen sCap : Nat) (cur : Array Value) (cs : List Value)
    (hg : w.heap[g]? = some (.cells cur 48)) (hn : cs.length = Nat.min sLen dLen * 2)
    (hsrc : ∀ j v, cs[j]? = some v → w.cell? (sa.add j) = some v) (hfit : o + cs.length ≤ cur.size) (h1 : ∀ v ∈ cs, v.oneCell' = true) :
    (Builtin.copy_ #[45, 45] 3 #[.slice (some ⟨g, o, none⟩) dLen dCap, .slice (some sa) sLen sCap]).run Try.prog w =
      .ok (.int .i64 ((Nat.min sLen dLen : Nat) : Int)) (w.setRow g (cur.toList.take o ++ cs ++ cur.toList.drop (o + cs.length)).toArray) := by
  have hl := run_loadCells_list (P := Try.prog) w sa cs hsrc
  have hst := run_storeCells_at Try.prog g o 48 cs 0 cur w hg (by simpa using hfit) h1
  obtain ⟨i, hq, -, hi, -⟩ := infoEd_parts
  rw [hn] at hl
  simp [Builtin.copy_, run_underlying Try.underlying45, Builtin.lenOf, Builtin.firstCells, sizeOf, typeInfo, hq, hi, hl, hst, goInt]
/-- So many costs, the others nothing. -/
def Sp.repEd (x0 x1 : Int) (m : Nat) : Nat → Int := fun j => if j < m * 2 then (if j % 2 = 0 then x0 else x1) else 0
theorem run_copy_repEd (w : World) (B g m N : Nat) (x0 x1 : Int) (hm : m < N) (hB : B ≤ g) (h : EdAt w g (N * 2) (Sp.repEd x0 x1 m)) :
    ∃ w4, (Builtin.copy_ #[45, 45] 3 #[.slice (some ⟨g, m * 2, none⟩) (N - m) (N - m), .slice (some ⟨g, 0, none⟩) m N]).run Try.prog w = .ok (.int .i64 ((min m (N - m) : Nat) : Int)) w4 ∧ EdAt w4 g (N * 2) (Sp.repEd x0 x1 (m + min m (N - m))) ∧ Below B w w4 := by
  obtain ⟨cur, hc, hs, hz⟩ := id h
  have hmin : Nat.min m (N - m) = min m (N - m) := rfl
  have hcl : ((List.range (min m (N - m) * 2)).map fun j => Value.int .i64 (Sp.repEd x0 x1 m j)).length = min m (N - m) * 2 := by simp
  have h1 := run_copyEd w g (m * 2) (N - m) (N - m) ⟨g, 0, none⟩ m N cur ((List.range (min m (N - m) * 2)).map fun j => .int .i64 (Sp.repEd x0 x1 m j)) hc hcl
    (fun j v hj => by
      obtain ⟨hj1, hj2⟩ := List.getElem?_eq_some_iff.1 hj
      rw [hcl] at hj1
      rw [← hj2]
      simp only [List.getElem_map, List.getElem_range, Addr.add_lit, Nat.zero_add]
      exact h.cell (by omega)) (by rw [hcl, hs]; omega) (fun v hv => by obtain ⟨j, -, rfl⟩ := List.mem_map.1 hv; rfl)
  have h2 := h.row (k := min m (N - m) * 2) (o := m * 2) (z := Sp.repEd x0 x1 m) ((List.range (min m (N - m) * 2)).map fun j => .int .i64 (Sp.repEd x0 x1 m j)) hcl (fun j hj => by rw [List.getElem?_map, List.getElem?_range hj]; rfl) (by omega) cur hc
  refine ⟨_, h1, h2.congr fun j hj => ?_, below_setRow (Below.refl _ _) hB _⟩
  have hk : min m (N - m) ≤ m := Nat.min_le_left _ _
  generalize min m (N - m) = k at *
  unfold Sp.repEd
  show (if m * 2 ≤ j ∧ j < m * 2 + k * 2 then (if j - m * 2 < m * 2 then (if (j - m * 2) % 2 = 0 then x0 else x1) else 0) else (if j < m * 2 then (if j % 2 = 0 then x0 else x1) else 0)) = if j < (m + k) * 2 then (if j % 2 = 0 then x0 else x1) else 0
  by_cases e1 : m * 2 ≤ j ∧ j < m * 2 + k * 2
  · have e2 : (j - m * 2) % 2 = j % 2 := by omega
    rw [if_pos e1, if_pos (by omega : j - m * 2 < m * 2), if_pos (by omega : j < (m + k) * 2), e2]
  · rw [if_neg e1]
    by_cases e2 : j < m * 2
    · rw [if_pos e2, if_pos (by omega : j < (m + k) * 2)]
    · rw [if_neg e2, if_neg (by omega)]
theorem made_same (z : Array Value) (v : Value) (h0 : 0 < z.size) (hz : ∀ i, i < z.size → z[i]! = v) (n j : Nat) (hj : j < n) : (madeCells z n)[j]? = some v := by
  unfold madeCells
  rw [Array.getElem?_map, Array.getElem?_range, if_pos hj, Option.map_some, hz _ (Nat.mod_lt _ h0)]
set_option maxRecDepth 100000 in
set_option maxHeartbeats 2000000 in
theorem repeatEd_any (x0 x1 : Int) (xb N : Nat) (w : World) (hN1 : 1 ≤ N) (hN : N ≤ 60) (hc0 : w.cell? ⟨xb, 0, none⟩ = some (.int .i64 x0)) (hc1 : w.cell? ⟨xb, 1, none⟩ = some (.int .i64 x1)) (hxb : xb < w.heap.size) :
    Calls Try.prog 21 #[.slice (some ⟨xb, 0, none⟩) 1 1, .int .i64 (N : Int)] w fun e w' => e = .returned (.slice (some ⟨w.heap.size, 0, none⟩) N N) ∧ EdAt w' w.heap.size (N * 2) (Sp.repEd x0 x1 N) ∧ Below w.heap.size w w' := by
  obtain ⟨iS, hiS, hS0, hS1, hS2⟩ := infoEd_parts
  have HC := hide (mul_any N w hN)
  have Hc := hide (And.intro hc0 hc1)
  clear hc0 hc1
  have h5 : IntKind.u64.wrap (N : Int) = (N : Int) := by simp [IntKind.wrap, IntKind.bits]; omega
  go_enter Try.func21, Try.ntmps21
  go_wp2_with fail
  go_at_call 33
  refine (unhide HC).mono ?_
  clear HC
  rintro e w' ⟨rfl, rfl⟩
  go_wp2_with (at_make; refine wpList_make_full _ rfl _ _ 45 rfl w'.heap.size 48 iS (.agg #[.int .i64 0, .int .i64 0]) 2 Try.underlying45 hiS hS0 hS1 .i64 .i64 _ _ N rfl rfl rfl rfl (by rw [hS2]; omega) (by unfold maxLen; omega) (Nat.le_refl _) ?_)
  intro w3 hown3 hg3
  have hb3 : Below w'.heap.size w' w3 := (Below.refl _ w').grown hg3 (Nat.le_refl _) (by simp)
  have hz3 : EdAt w3 w'.heap.size (N * 2) (Sp.repEd x0 x1 0) := by
    rcases hown3.2 with ⟨-, h0⟩ | ⟨g, cap, cur, e, -, hc, h1, -, h3, h4⟩
    · omega
    · injection e with e1 _ e2
      injection e1 with e1
      injection e1 with e1
      subst e1 e2
      refine ⟨cur, hc, by omega, fun j hj => ?_⟩
      have hlen : cur.toList.length ≤ N * 2 := by simp [h3]
      rw [List.take_of_length_le hlen] at h4
      rw [← Array.getElem?_toList, h4, Array.getElem?_toList]
      show (madeCells #[.int .i64 0, .int .i64 0] (N * 2))[j]? = _
      rw [made_same #[.int .i64 0, .int .i64 0] (.int .i64 0) (by decide) (fun i hi => by rcases i with _ | _ | i <;> first | rfl | (simp at hi; omega)) _ _ hj]
      simp [Sp.repEd]
  have hcur := hz3
  obtain ⟨cur, hcu, hsu, -⟩ := hcur
  have h1 := run_copyEd w3 w'.heap.size 0 N N ⟨xb, 0, none⟩ 1 1 cur [.int .i64 x0, .int .i64 x1] hcu (by simp [show Nat.min 1 N = 1 from Nat.min_eq_left hN1]) (fun j v hj => by
    rcases j with _ | _ | j
    · simp at hj; subst hj; rw [Addr.add_lit]; exact (hb3.cell (by exact hxb)).trans (unhide Hc).1
    · simp at hj; subst hj; rw [Addr.add_lit]; exact (hb3.cell (by exact hxb)).trans (unhide Hc).2
    · simp at hj) (by simp; omega) (by simp [Value.oneCell'])
  have h2 := hz3.row (k := 2) (o := 0) (z := fun j => if j = 0 then x0 else x1) [.int .i64 x0, .int .i64 x1] rfl (fun j hj => by
    rcases j with _ | _ | j
    · rfl
    · rfl
    · omega) (by omega) cur hcu
  rw [show Nat.min 1 N = 1 from Nat.min_eq_left hN1] at h1
  have hB4 := below_setRow hb3 (Nat.le_refl _) (cur.toList.take 0 ++ [Value.int .i64 x0, .int .i64 x1] ++ cur.toList.drop (0 + [Value.int .i64 x0, .int .i64 x1].length)).toArray
  generalize w3.setRow w'.heap.size (cur.toList.take 0 ++ [Value.int .i64 x0, .int .i64 x1] ++ cur.toList.drop (0 + [Value.int .i64 x0, .int .i64 x1].length)).toArray = w4 at *
  have HQ4 : Hid (EdAt w4 w'.heap.size (N * 2) (Sp.repEd x0 x1 1) ∧ Below w'.heap.size w' w4) := hide ⟨h2.congr fun j hj => by
    unfold Sp.repEd
    rcases j with _ | _ | j
    · simp
    · simp
    · simp only [Nat.zero_le, true_and, Nat.zero_add]
      rw [if_neg (by omega), if_neg (by omega), if_neg (by omega)], hB4⟩
  clear h2 hB4 hz3 hb3 hown3 hg3 hcu hsu Hc
  go_wp2
  go_loopg [8] N (fun g i wr => ∃ m : Nat, 1 ≤ m ∧ m ≤ N ∧ N - m ≤ g ∧ i = .int .i64 (m : Int) ∧ Hid (EdAt wr w'.heap.size (N * 2) (Sp.repEd x0 x1 m) ∧ Below w'.heap.size w' wr))
  case atStart => exact ⟨1, by omega, by omega, by omega, rfl, HQ4⟩
  case round =>
    clear HQ4 h1
    obtain ⟨m, hm1, hmN, hmg, rfl, HI⟩ := hrel
    by_cases hlt : m < N
    · have hltI : (m : Int) < (N : Int) := by omega
      obtain ⟨c, hc⟩ : ∃ c, c = min m (N - m) := ⟨_, rfl⟩
      obtain ⟨w5, hrun, hown4, hb4⟩ := run_copy_repEd wr.drew w'.heap.size w'.heap.size m N x0 x1 hlt (Nat.le_refl _) (unhide HI).1.drew
      rw [← hc] at hrun hown4
      have HO4 : Hid (EdAt w5 w'.heap.size (N * 2) (Sp.repEd x0 x1 (m + c)) ∧ Below w'.heap.size w' w5) := hide ⟨hown4, (unhide HI).2.drew.trans hb4⟩
      have Hc := hide hc
      have hne1 : ¬ N = m := by omega
      have hcb : c ≤ N - m := by omega
      have hc1 : 1 ≤ c := by omega
      clear hown4 hb4 hc
      go_wp2
      go_region
      go_wp2
      go_roundg (N - (m + c))
      case rel => exact ⟨m + c, by omega, by omega, by omega, by go_num, HO4⟩
      case measure => omega
    · obtain rfl : m = N := by omega
      go_wp2
      go_ret
      exact ⟨rfl, (unhide HI).1, (unhide HI).2⟩
end Go.Proofs.Ytohfmohkaaidpab


/- Package link: the forest in the world; has, hangs; the reference's is. -/
namespace Go.Proofs.Ytohfmohkaaidpab
open Go Go.RowKit

def Sp.ed (U W : Nat → Int) : Nat → Int := fun j => if j % 2 = 0 then U (j / 2) else W (j / 2)
theorem Sp.ed_up (U W : Nat → Int) (v : Nat) : Sp.ed U W (v * 2) = U v := by
  unfold Sp.ed; rw [if_pos (by omega), show v * 2 / 2 = v by omega]
theorem Sp.ed_wt (U W : Nat → Int) (v : Nat) : Sp.ed U W (v * 2 + 1) = W v := by
  unfold Sp.ed; rw [if_neg (by omega), show (v * 2 + 1) / 2 = v by omega]
theorem Sp.ed_set (U W : Nat → Int) (v : Nat) (l x : Int) : Sp.upd (Sp.upd (Sp.ed U W) (v * 2) l) (v * 2 + 1) x = Sp.ed (Sp.upd U v l) (Sp.upd W v x) := funext fun j => by
  unfold Sp.ed Sp.upd
  by_cases e1 : j = v * 2 + 1
  · subst e1
    rw [if_pos rfl, if_neg (by omega), if_pos (by omega)]
  · rw [if_neg e1]
    by_cases e0 : j = v * 2
    · subst e0
      rw [if_pos rfl, if_pos (by omega), if_pos (by omega)]
    · rw [if_neg e0]
      dsimp only
      by_cases h : j % 2 = 0
      · rw [if_pos h, if_pos h, if_neg (by omega)]
      · rw [if_neg h, if_neg h, if_neg (by omega)]
/-- A forest of the program's: its struct lies in block f, its edges in block g. -/
structure LkP (w : World) (f g n : Nat) (U W : Nat → Int) : Prop where
  st : w.heap[f]? = some (.cells #[.slice (some ⟨g, 0, none⟩) n n] 50)
  row : EdAt w g (n * 2) (Sp.ed U W)
  ne : f ≠ g
theorem LkP.slot {w : World} {f g n : Nat} {U W : Nat → Int} (h : LkP w f g n U W) : w.cell? ⟨f, 0, none⟩ = some (.slice (some ⟨g, 0, none⟩) n n) := by
  simp only [World.cell?, h.st]; rfl
theorem LkP.up {w : World} {f g n : Nat} {U W : Nat → Int} (h : LkP w f g n U W) {v : Nat} (hv : v < n) : w.cell? ⟨g, v * 2, none⟩ = some (.int .i64 (U v)) := by
  rw [h.row.cell (by omega), Sp.ed_up]
theorem LkP.wt {w : World} {f g n : Nat} {U W : Nat → Int} (h : LkP w f g n U W) {v : Nat} (hv : v < n) : w.cell? ⟨g, v * 2 + 1, none⟩ = some (.int .i64 (W v)) := by
  rw [h.row.cell (by omega), Sp.ed_wt]
theorem LkP.frozen {w : World} {f g n : Nat} {U W : Nat → Int} (h : LkP w f g n U W) (j : Nat) : w.frozen? ⟨g, j, none⟩ = false := h.row.frozen j none
theorem LkP.lt {w : World} {f g n : Nat} {U W : Nat → Int} (h : LkP w f g n U W) : f < w.heap.size ∧ g < w.heap.size := ⟨(Array.getElem?_eq_some_iff.1 h.st).1, h.row.lt⟩
theorem LkP.bt {p : Nat → Prop} {w w' : World} {f g n : Nat} {U W : Nat → Int} (h : LkP w f g n U W) (hb : Bt p w w') (hf : ¬ p f) (hg : ¬ p g) : LkP w' f g n U W := ⟨(hb.block f h.lt.1 hf).trans h.st, h.row.bt hb hg, h.ne⟩
theorem LkP.below {w w' : World} {f g n : Nat} {U W : Nat → Int} (h : LkP w f g n U W) (hb : Below w.heap.size w w') : LkP w' f g n U W := h.bt (p := fun _ => False) (Bt.of hb) (fun e => e) (fun e => e)
/-- An edge laid anew. -/
theorem LkP.set {w : World} {f g n : Nat} {U W : Nat → Int} (h : LkP w f g n U W) (v : Nat) (l x : Int) : LkP ((w.setCell ⟨g, v * 2, none⟩ (.int .i64 l)).setCell ⟨g, v * 2 + 1, none⟩ (.int .i64 x)) f g n (Sp.upd U v l) (Sp.upd W v x) :=
  ⟨by rw [Below.heap_setCell _ _ _ _ h.ne, Below.heap_setCell _ _ _ _ h.ne]; exact h.st, by rw [← Sp.ed_set]; exact (h.row.set _ _).set _ _, h.ne⟩
/-- Block b holds n numbers; there may be room behind them. -/
def RowN (w : World) (b cap n : Nat) (z : Nat → Int) : Prop := ∃ c, w.heap[b]? = some (.cells c 3) ∧ c.size = cap ∧ n ≤ cap ∧ ∀ j, j < n → c[j]? = some (.int .i64 (z j))
theorem RowN.lt {w : World} {b cap n : Nat} {z : Nat → Int} (h : RowN w b cap n z) : b < w.heap.size := by
  obtain ⟨c, hc, -⟩ := h
  exact (Array.getElem?_eq_some_iff.1 hc).1
theorem RowN.cell {w : World} {b cap n : Nat} {z : Nat → Int} (h : RowN w b cap n z) {j : Nat} (hj : j < n) : w.cell? ⟨b, j, none⟩ = some (.int .i64 (z j)) := by
  obtain ⟨c, hc, -, -, hz⟩ := h
  simp only [World.cell?, hc]
  exact hz j hj
theorem RowN.frozen {w : World} {b cap n : Nat} {z : Nat → Int} (h : RowN w b cap n z) (j : Nat) : w.frozen? ⟨b, j, none⟩ = false := by
  obtain ⟨c, hc, -⟩ := h
  simp only [World.frozen?, hc]
  simp
theorem RowN.of_block {w w' : World} {b cap n : Nat} {z : Nat → Int} (h : RowN w b cap n z) (e : w'.heap[b]? = w.heap[b]?) : RowN w' b cap n z := by
  obtain ⟨c, hc, h1⟩ := h
  exact ⟨c, by rw [e]; exact hc, h1⟩
theorem RowN.set {w : World} {b cap n : Nat} {z : Nat → Int} (h : RowN w b cap n z) (j : Nat) (v : Int) : RowN (w.setCell ⟨b, j, none⟩ (.int .i64 v)) b cap n (Sp.upd z j v) := by
  obtain ⟨c, hc, hs, hn, hz⟩ := h
  refine ⟨c.setIfInBounds j (.int .i64 v), ?_, by simpa using hs, hn, fun k hk => ?_⟩
  · simp only [World.setCell, Array.getElem?_modify, if_pos, hc]
    rfl
  · rw [Array.getElem?_setIfInBounds]
    by_cases hjk : j = k
    · rw [if_pos hjk, if_pos (by omega), ← hjk, Sp.upd_same]
    · rw [if_neg hjk, hz k hk, Sp.upd_other _ _ (by omega)]
/-- A forest of the reference's: its struct in block x, its two rows in blocks o, c. -/
structure LkR (w : World) (x o c n co cw : Nat) (U W : Nat → Int) : Prop where
  st : w.heap[x]? = some (.cells #[.slice (some ⟨o, 0, none⟩) n co, .slice (some ⟨c, 0, none⟩) n cw] 52)
  on : RowN w o co n U
  wt : RowN w c cw n W
  xo : x ≠ o
  xc : x ≠ c
  oc : o ≠ c
theorem LkR.lt {w : World} {x o c n co cw : Nat} {U W : Nat → Int} (h : LkR w x o c n co cw U W) : x < w.heap.size ∧ o < w.heap.size ∧ c < w.heap.size := ⟨(Array.getElem?_eq_some_iff.1 h.st).1, h.on.lt, h.wt.lt⟩
theorem LkR.bt {p : Nat → Prop} {w w' : World} {x o c n co cw : Nat} {U W : Nat → Int} (h : LkR w x o c n co cw U W) (hb : Bt p w w') (hx : ¬ p x) (ho : ¬ p o) (hc : ¬ p c) : LkR w' x o c n co cw U W :=
  ⟨(hb.block x h.lt.1 hx).trans h.st, h.on.of_block (hb.block o h.lt.2.1 ho), h.wt.of_block (hb.block c h.lt.2.2 hc), h.xo, h.xc, h.oc⟩
theorem LkR.below {w w' : World} {x o c n co cw : Nat} {U W : Nat → Int} (h : LkR w x o c n co cw U W) (hb : Below w.heap.size w w') : LkR w' x o c n co cw U W := h.bt (p := fun _ => False) (Bt.of hb) (fun e => e) (fun e => e) (fun e => e)
theorem LkR.set {w : World} {x o c n co cw : Nat} {U W : Nat → Int} (h : LkR w x o c n co cw U W) (v : Nat) (l y : Int) : LkR ((w.setCell ⟨o, v, none⟩ (.int .i64 l)).setCell ⟨c, v, none⟩ (.int .i64 y)) x o c n co cw (Sp.upd U v l) (Sp.upd W v y) :=
  ⟨by rw [Below.heap_setCell _ _ _ _ h.xc, Below.heap_setCell _ _ _ _ h.xo]; exact h.st, (h.on.set _ _).of_block (Below.heap_setCell _ _ _ _ h.oc), (h.wt.of_block (Below.heap_setCell _ _ _ _ (fun e => h.oc e.symm))).set _ _, h.xo, h.xc, h.oc⟩
/-- Whether v is a vertex; whether it hangs on another one. -/
def Sp.hs (n : Nat) (v : Int) : Bool := decide (0 ≤ v ∧ v < (n : Int))
def Sp.hg (n : Nat) (U : Nat → Int) (v : Int) : Bool := decide (0 ≤ v ∧ v < (n : Int) ∧ U v.toNat ≠ -1)
theorem Sp.hs_no {n : Nat} {v : Int} (h : ¬ (0 ≤ v ∧ v < (n : Int))) : Sp.hs n v = false := decide_eq_false h
theorem Sp.hs_yes {n v : Nat} (h : v < n) : Sp.hs n (v : Int) = true := decide_eq_true ⟨by omega, by omega⟩
theorem Sp.hg_no {n : Nat} {U : Nat → Int} {v : Int} (h : ¬ (0 ≤ v ∧ v < (n : Int))) : Sp.hg n U v = false := decide_eq_false (fun e => h ⟨e.1, e.2.1⟩)
theorem Sp.hg_root {n v : Nat} {U : Nat → Int} (h : U v = -1) : Sp.hg n U (v : Int) = false := decide_eq_false (fun e => e.2.2 (by rw [Int.toNat_natCast]; exact h))
theorem Sp.hg_yes {n v : Nat} {U : Nat → Int} (hv : v < n) (h : U v ≠ -1) : Sp.hg n U (v : Int) = true := decide_eq_true ⟨by omega, by omega, by rw [Int.toNat_natCast]; exact h⟩
theorem Sp.int_case (n : Nat) (v : Int) : ¬ (0 ≤ v ∧ v < (n : Int)) ∨ ∃ k : Nat, v = (k : Int) ∧ k < n := by
  by_cases h : 0 ≤ v ∧ v < (n : Int)
  · exact .inr ⟨v.toNat, by omega, by omega⟩
  · exact .inl h
set_option maxRecDepth 100000 in
set_option maxHeartbeats 2000000 in
theorem lkhas_any {f g n : Nat} {U W : Nat → Int} (v : Int) (w : World) (h : LkP w f g n U W) :
    Calls Try.prog 22 #[.pointer (some ⟨f, 0, none⟩), .int .i64 v] w fun e w' => e = .returned (.bool (Sp.hs n v)) ∧ w' = w := by
  have h0 := h.slot
  clear h
  by_cases h1 : 0 ≤ v
  · have h1d : v ≥ 0 := h1
    by_cases h2 : v < (n : Int)
    · have e : Sp.hs n v = true := decide_eq_true ⟨h1, h2⟩
      rw [e]
      clear e
      go_enter Try.func22, Try.ntmps22
      go_wp2
      go_ret
      exact ⟨rfl, rfl⟩
    · have e : Sp.hs n v = false := decide_eq_false (fun e => h2 e.2)
      rw [e]
      clear e
      go_enter Try.func22, Try.ntmps22
      go_wp2
      go_ret
      exact ⟨rfl, rfl⟩
  · have e : Sp.hs n v = false := decide_eq_false (fun e => h1 e.1)
    have h1d : ¬ v ≥ 0 := h1
    rw [e]
    clear e
    go_enter Try.func22, Try.ntmps22
    go_wp2
    go_ret
    exact ⟨rfl, rfl⟩
set_option maxRecDepth 100000 in
set_option maxHeartbeats 2000000 in
theorem lkhangs_any {f g n : Nat} {U W : Nat → Int} (v : Int) (w : World) (h : LkP w f g n U W) :
    Calls Try.prog 23 #[.pointer (some ⟨f, 0, none⟩), .int .i64 v] w fun e w' => e = .returned (.bool (Sp.hg n U v)) ∧ w' = w := by
  have HC := hide (lkhas_any v w h)
  rcases Sp.int_case n v with h1 | ⟨k, rfl, hk⟩
  · have hsn : Sp.hs n v = false := Sp.hs_no h1
    rw [hsn] at HC
    rw [Sp.hg_no h1]
    clear h h1 hsn
    go_enter Try.func23, Try.ntmps23
    go_wp2_with fail
    go_at_call 22
    refine (unhide HC).mono ?_
    rintro e w' ⟨rfl, hw⟩
    have hw' := hw.symm
    subst hw'
    go_wp2
    go_ret
    exact ⟨rfl, rfl⟩
  · rw [Sp.hs_yes hk] at HC
    have h0 := h.slot
    have h1 := h.up hk
    have hkI : (k : Int) < (n : Int) := by omega
    obtain ⟨R, hR⟩ : ∃ R, Sp.hg n U (k : Int) = R := ⟨_, rfl⟩
    have hRn : ((U k) != -1) = R := by
      rw [← hR]
      by_cases e : U k = -1
      · rw [Sp.hg_root e, e]; rfl
      · rw [Sp.hg_yes hk e]; exact bne_iff_ne.2 e
    rw [hR]
    generalize U k = u at *
    clear h hR
    go_enter Try.func23, Try.ntmps23
    go_wp2_with fail
    go_at_call 22
    refine (unhide HC).mono ?_
    rintro e w' ⟨rfl, hw⟩
    have hw' := hw.symm
    subst hw'
    go_wp2
    go_ret
    exact ⟨by rw [← hRn]; rfl, rfl⟩
end Go.Proofs.Ytohfmohkaaidpab


/- Package link: Root, Weight, Up, Cut, Link. -/
namespace Go.Proofs.Ytohfmohkaaidpab
open Go Go.RowKit

/-- The root of v's tree; -1 where v is no vertex. -/
noncomputable def Sp.rt (n : Nat) (U : Nat → Int) (v : Int) : Int := if 0 ≤ v ∧ v < (n : Int) then ((Classical.epsilon (fun a : Nat => Sp.Rt U v.toNat a) : Nat) : Int) else -1
theorem Sp.rt_no {n : Nat} {U : Nat → Int} {v : Int} (h : ¬ (0 ≤ v ∧ v < (n : Int))) : Sp.rt n U v = -1 := if_neg h
theorem Sp.rt_is {n : Nat} {U : Nat → Int} {v a : Nat} (hv : v < n) (h : Sp.Rt U v a) : Sp.rt n U (v : Int) = (a : Int) := by
  unfold Sp.rt
  rw [if_pos ⟨by omega, by omega⟩, Int.toNat_natCast]
  have h2 : Sp.Rt U v (Classical.epsilon fun a : Nat => Sp.Rt U v a) := Classical.epsilon_spec (p := fun a : Nat => Sp.Rt U v a) ⟨a, h⟩
  rw [h2.uniq h]
set_option maxRecDepth 100000 in
set_option maxHeartbeats 2000000 in
theorem lkroot_any {f g n : Nat} {U W : Nat → Int} (hF : Sp.Fo n U) (v : Int) (w : World) (h : LkP w f g n U W) :
    Calls Try.prog 13 #[.pointer (some ⟨f, 0, none⟩), .int .i64 v] w fun e w' => e = .returned (.int .i64 (Sp.rt n U v)) ∧ w' = w := by
  have HC := hide (lkhas_any v w h)
  rcases Sp.int_case n v with h1 | ⟨k, rfl, hk⟩
  · have hsn : Sp.hs n v = false := Sp.hs_no h1
    rw [hsn] at HC
    rw [Sp.rt_no h1]
    clear h h1 hsn
    go_enter Try.func13, Try.ntmps13
    go_wp2_with fail
    go_at_call 22
    refine (unhide HC).mono ?_
    rintro e w' ⟨rfl, hw⟩
    have hw' := hw.symm
    subst hw'
    go_wp2
    go_ret
    exact ⟨rfl, rfl⟩
  · rw [Sp.hs_yes hk] at HC
    obtain ⟨m, a, hu, ha, -⟩ := hF.ex hk
    rw [Sp.rt_is hk ⟨m, hu, ha⟩]
    have HU := hide hu
    have HF := hide hF
    have Ha := hide ha
    have H := hide h
    have h0 := h.slot
    obtain ⟨P, hP⟩ : ∃ P : Ending → World → Prop, P = fun e w' => e = .returned (.int .i64 (a : Int)) ∧ w' = w := ⟨_, rfl⟩
    rw [← hP]
    have HP := hide hP
    clear hP hu hF ha h
    go_enter Try.func13, Try.ntmps13
    go_wp2_with fail
    go_at_call 22
    refine (unhide HC).mono ?_
    rintro e w' ⟨rfl, hw⟩
    have hw' := hw.symm
    subst hw'
    clear HC hw
    go_wp2
    go_loopg [1] m (fun g' s1 wr => ∃ v : Nat, s1 = .int .i64 (v : Int) ∧ v < n ∧ Hid (Sp.Upw U g' v a) ∧ wr = w)
    case atStart => exact ⟨k, rfl, hk, HU, rfl⟩
    case round =>
      clear HU hk
      obtain ⟨v, rfl, hv, HV, hwr⟩ := hrel
      subst hwr
      have HC := hide (lkhangs_any (v : Int) wr (unhide H))
      have hvI : (v : Int) < (n : Int) := by omega
      cases gk with
      | zero =>
        have e : a = v := unhide HV
        subst e
        rw [Sp.hg_root (unhide Ha)] at HC
        go_wp2_with fail
        go_at_call 23
        refine (unhide HC).mono ?_
        rintro e w' ⟨rfl, hw⟩
        have hw' := hw.symm
        subst hw'
        go_wp2
        rw [unhide HP]
        exact ⟨rfl, rfl⟩
      | succ g' =>
        obtain ⟨u, e, hu⟩ := unhide HV
        have hun : u < n := (unhide HF).up_lt hv (k := 1) ⟨u, e, rfl⟩
        have h1 := (unhide H).up hv
        rw [e] at h1
        rw [Sp.hg_yes hv (by omega)] at HC
        have HV2 := hide hu
        clear hu e HV
        go_wp2_with fail
        go_at_call 23
        refine (unhide HC).mono ?_
        rintro e w' ⟨rfl, hw⟩
        have hw' := hw.symm
        subst hw'
        clear hw
        go_wp2
        go_roundg g'
        case rel => exact ⟨u, rfl, hun, HV2, rfl⟩
        case measure => omega
set_option maxRecDepth 100000 in
set_option maxHeartbeats 2000000 in
theorem lkup_any {f g n : Nat} {U W : Nat → Int} (v : Int) (w : World) (h : LkP w f g n U W) :
    Calls Try.prog 17 #[.pointer (some ⟨f, 0, none⟩), .int .i64 v] w fun e w' => e = .returned (.tuple #[.int .i64 (if Sp.hg n U v = true then U v.toNat else 0), .bool (Sp.hg n U v)]) ∧ w' = w := by
  have HC := hide (lkhangs_any v w h)
  obtain ⟨R, hR⟩ : ∃ R, Sp.hg n U v = R := ⟨_, rfl⟩
  rw [hR] at HC ⊢
  cases R with
  | false =>
    rw [if_neg (by decide)]
    clear h hR
    go_enter Try.func17, Try.ntmps17
    go_wp2_with fail
    go_at_call 23
    refine (unhide HC).mono ?_
    rintro e w' ⟨rfl, hw⟩
    have hw' := hw.symm
    subst hw'
    go_wp2
    go_ret2
    exact ⟨rfl, rfl⟩
  | true =>
    rw [if_pos rfl]
    obtain ⟨hv0, hv1, -⟩ := of_decide_eq_true hR
    obtain ⟨k, rfl⟩ : ∃ k : Nat, v = (k : Int) := ⟨v.toNat, by omega⟩
    have hk : k < n := by omega
    have h0 := h.slot
    have h1 := h.up hk
    rw [Int.toNat_natCast]
    generalize U k = u at *
    clear h hR
    go_enter Try.func17, Try.ntmps17
    go_wp2_with fail
    go_at_call 23
    refine (unhide HC).mono ?_
    rintro e w' ⟨rfl, hw⟩
    have hw' := hw.symm
    subst hw'
    go_wp2
    go_ret2
    exact ⟨rfl, rfl⟩
/-- What Cut tells, and leaves. -/
def Sp.ctE (n : Nat) (U : Nat → Int) (v : Int) : Int := if Sp.hs n v = true then (if Sp.hg n U v = true then 0 else 7) else 3
def Sp.ctU (n : Nat) (U : Nat → Int) (v : Int) : Nat → Int := if Sp.hg n U v = true then Sp.upd U v.toNat (-1) else U
def Sp.ctW (n : Nat) (U W : Nat → Int) (v : Int) : Nat → Int := if Sp.hg n U v = true then Sp.upd W v.toNat 0 else W
theorem Sp.hg_hs {n : Nat} {U : Nat → Int} {v : Int} (h : Sp.hg n U v = true) : Sp.hs n v = true := decide_eq_true (by have := of_decide_eq_true h; exact ⟨this.1, this.2.1⟩)
set_option maxRecDepth 100000 in
set_option maxHeartbeats 2000000 in
theorem lkcut_any {f g n : Nat} {U W : Nat → Int} (v : Int) (w : World) (h : LkP w f g n U W) :
    Calls Try.prog 12 #[.pointer (some ⟨f, 0, none⟩), .int .i64 v] w fun e w' => e = .returned (.int .i64 (Sp.ctE n U v)) ∧ LkP w' f g n (Sp.ctU n U v) (Sp.ctW n U W v) ∧ Bt (fun b => b = g) w w' := by
  have HC := hide (lkhas_any v w h)
  have HC2 := hide (lkhangs_any v w h)
  unfold Sp.ctE Sp.ctU Sp.ctW
  obtain ⟨S, hS⟩ : ∃ S, Sp.hs n v = S := ⟨_, rfl⟩
  obtain ⟨R, hR⟩ : ∃ R, Sp.hg n U v = R := ⟨_, rfl⟩
  rw [hS] at HC
  rw [hR] at HC2
  rw [hS, hR]
  cases S with
  | false =>
    have hRf : R = false := by
      cases R with
      | true => rw [Sp.hg_hs hR] at hS; cases hS
      | false => rfl
    subst hRf
    rw [if_neg (by decide), if_neg (by decide), if_neg (by decide)]
    have H := hide h
    clear h hS hR HC2
    go_enter Try.func12, Try.ntmps12
    go_wp2_with fail
    go_at_call 22
    refine (unhide HC).mono ?_
    rintro e w' ⟨rfl, hw⟩
    have hw' := hw.symm
    subst hw'
    go_wp2
    go_ret
    exact ⟨rfl, unhide H, Bt.refl _ _⟩
  | true =>
    rw [if_pos rfl]
    cases R with
    | false =>
      rw [if_neg (by decide), if_neg (by decide), if_neg (by decide)]
      have H := hide h
      clear h hS hR
      go_enter Try.func12, Try.ntmps12
      go_wp2_with fail
      go_at_call 22
      refine (unhide HC).mono ?_
      rintro e w' ⟨rfl, hw⟩
      have hw' := hw.symm
      subst hw'
      clear hw
      go_wp2_with fail
      go_at_call 23
      refine (unhide HC2).mono ?_
      rintro e w' ⟨rfl, hw⟩
      have hw' := hw.symm
      subst hw'
      go_wp2
      go_ret
      exact ⟨rfl, unhide H, Bt.refl _ _⟩
    | true =>
      rw [if_pos rfl, if_pos rfl, if_pos rfl]
      obtain ⟨hv0, hv1, -⟩ := of_decide_eq_true hR
      obtain ⟨k, rfl⟩ : ∃ k : Nat, v = (k : Int) := ⟨v.toNat, by omega⟩
      rw [Int.toNat_natCast]
      have hk : k < n := by omega
      have h0 := h.slot
      have q0 := h.row.cell (j := k * 2) (by omega)
      have q1 := h.row.cell (j := k * 2 + 1) (by omega)
      have qf := fun i => h.row.frozen i none
      have q1' := fun v : Value => show (w.setCell ⟨g, k * 2, none⟩ v).cell? ⟨g, k * 2 + 1, none⟩ = some _ by rw [cell_set_ne (by omega)]; exact q1
      have HE : Hid (LkP ((w.setCell ⟨g, k * 2, none⟩ (.int .i64 (-1))).setCell ⟨g, k * 2 + 1, none⟩ (.int .i64 0)) f g n (Sp.upd U k (-1)) (Sp.upd W k 0) ∧ Bt (fun b => b = g) w ((w.setCell ⟨g, k * 2, none⟩ (.int .i64 (-1))).setCell ⟨g, k * 2 + 1, none⟩ (.int .i64 0))) := hide ⟨h.set k (-1) 0, ((Bt.refl (fun b => b = g) w).set (.inl rfl) _ _ _).set (.inl rfl) _ _ _⟩
      clear h hS hR q1
      go_enter Try.func12, Try.ntmps12
      go_wp2_with fail
      go_at_call 22
      refine (unhide HC).mono ?_
      rintro e w' ⟨rfl, hw⟩
      have hw' := hw.symm
      subst hw'
      clear hw
      go_wp2_with fail
      go_at_call 23
      refine (unhide HC2).mono ?_
      rintro e w' ⟨rfl, hw⟩
      have hw' := hw.symm
      subst hw'
      clear hw
      go_wp2
      go_ret
      exact ⟨rfl, unhide HE⟩
/-- What Link tells, and leaves. -/
noncomputable def Sp.lkE (n : Nat) (U : Nat → Int) (v u : Int) : Int := if Sp.hs n v = true ∧ Sp.hs n u = true then (if Sp.hg n U v = true then 11 else if Sp.rt n U u = v then 8 else 0) else 3
noncomputable def Sp.lkU (n : Nat) (U : Nat → Int) (v u : Int) : Nat → Int := if Sp.lkE n U v u = 0 then Sp.upd U v.toNat u else U
noncomputable def Sp.lkW (n : Nat) (U W : Nat → Int) (v u x : Int) : Nat → Int := if Sp.lkE n U v u = 0 then Sp.upd W v.toNat x else W
theorem Sp.lkE_zero {n : Nat} {U : Nat → Int} {v u : Int} (h : Sp.lkE n U v u = 0) : ∃ k j : Nat, v = (k : Int) ∧ u = (j : Int) ∧ k < n ∧ j < n ∧ U k = -1 ∧ Sp.rt n U u ≠ v := by
  unfold Sp.lkE at h
  split at h
  · rename_i h1
    split at h
    · omega
    · rename_i h2
      split at h
      · omega
      · rename_i h3
        obtain ⟨a1, a2⟩ := of_decide_eq_true h1.1
        obtain ⟨b1, b2⟩ := of_decide_eq_true h1.2
        refine ⟨v.toNat, u.toNat, by omega, by omega, by omega, by omega, ?_, h3⟩
        by_cases e : U v.toNat = -1
        · exact e
        · exact absurd (decide_eq_true ⟨a1, a2, e⟩) h2
  · omega
theorem Sp.Fo.lk {n : Nat} {U : Nat → Int} (h : Sp.Fo n U) (v u : Int) : Sp.Fo n (Sp.lkU n U v u) := by
  unfold Sp.lkU
  by_cases e : Sp.lkE n U v u = 0
  · rw [if_pos e]
    obtain ⟨k, j, rfl, rfl, hk, hj, h1, h2⟩ := Sp.lkE_zero e
    obtain ⟨m, a, h3, h4, -⟩ := h.ex hj
    rw [Sp.rt_is hj ⟨m, h3, h4⟩] at h2
    rw [Int.toNat_natCast]
    exact h.link hk hj h1 ⟨m, h3, h4⟩ (by omega)
  · rw [if_neg e]; exact h
set_option maxRecDepth 100000 in
set_option maxHeartbeats 4000000 in
theorem lklink_any {f g n : Nat} {U W : Nat → Int} (hF : Sp.Fo n U) (v u x : Int) (w : World) (h : LkP w f g n U W) :
    Calls Try.prog 8 #[.pointer (some ⟨f, 0, none⟩), .int .i64 v, .int .i64 u, .int .i64 x] w fun e w' => e = .returned (.int .i64 (Sp.lkE n U v u)) ∧ LkP w' f g n (Sp.lkU n U v u) (Sp.lkW n U W v u x) ∧ Bt (fun b => b = g) w w' := by
  have HC1 := hide (lkhas_any v w h)
  have HC2 := hide (lkhas_any u w h)
  have HC3 := hide (lkhangs_any v w h)
  have HC4 := hide (lkroot_any hF u w h)
  have H := hide h
  unfold Sp.lkU Sp.lkW
  by_cases h1 : Sp.hs n v = true
  · rw [h1] at HC1
    by_cases h2 : Sp.hs n u = true
    · rw [h2] at HC2
      by_cases h3 : Sp.hg n U v = true
      · have e : Sp.lkE n U v u = 11 := by unfold Sp.lkE; rw [if_pos ⟨h1, h2⟩, if_pos h3]
        rw [e, if_neg (by decide), if_neg (by decide)]
        rw [h3] at HC3
        clear h hF e h1 h2 h3 HC4
        go_enter Try.func8, Try.ntmps8
        go_wp2_with fail
        go_at_call 22
        refine (unhide HC1).mono ?_
        rintro e w' ⟨rfl, hw⟩
        have hw' := hw.symm
        subst hw'
        clear hw
        go_wp2_with fail
        go_at_call 22
        refine (unhide HC2).mono ?_
        rintro e w' ⟨rfl, hw⟩
        have hw' := hw.symm
        subst hw'
        clear hw
        go_wp2_with fail
        go_at_call 23
        refine (unhide HC3).mono ?_
        rintro e w' ⟨rfl, hw⟩
        have hw' := hw.symm
        subst hw'
        clear hw
        go_wp2
        go_ret
        exact ⟨rfl, unhide H, Bt.refl _ _⟩
      · have h3' : Sp.hg n U v = false := by
          cases hh : Sp.hg n U v with
          | true => exact absurd hh h3
          | false => rfl
        rw [h3'] at HC3
        by_cases h4 : Sp.rt n U u = v
        · have e : Sp.lkE n U v u = 8 := by unfold Sp.lkE; rw [if_pos ⟨h1, h2⟩, if_neg h3, if_pos h4]
          rw [e, if_neg (by decide), if_neg (by decide)]
          rw [h4] at HC4
          have hb : (v == v) = true := by simp
          clear h hF e h1 h2 h3 h4 h3'
          go_enter Try.func8, Try.ntmps8
          go_wp2_with fail
          go_at_call 22
          refine (unhide HC1).mono ?_
          rintro e w' ⟨rfl, hw⟩
          have hw' := hw.symm
          subst hw'
          clear hw
          go_wp2_with fail
          go_at_call 22
          refine (unhide HC2).mono ?_
          rintro e w' ⟨rfl, hw⟩
          have hw' := hw.symm
          subst hw'
          clear hw
          go_wp2_with fail
          go_at_call 23
          refine (unhide HC3).mono ?_
          rintro e w' ⟨rfl, hw⟩
          have hw' := hw.symm
          subst hw'
          clear hw
          go_wp2_with fail
          go_at_call 13
          refine (unhide HC4).mono ?_
          rintro e w' ⟨rfl, hw⟩
          have hw' := hw.symm
          subst hw'
          clear hw
          go_wp2
          go_ret
          exact ⟨rfl, unhide H, Bt.refl _ _⟩
        · have e : Sp.lkE n U v u = 0 := by unfold Sp.lkE; rw [if_pos ⟨h1, h2⟩, if_neg h3, if_neg h4]
          obtain ⟨k, j, rfl, rfl, hk, hj, -, -⟩ := Sp.lkE_zero e
          rw [e, if_pos rfl, if_pos rfl, Int.toNat_natCast]
          have hb : (Sp.rt n U (j : Int) == (k : Int)) = false := beq_eq_false_iff_ne.2 h4
          generalize Sp.rt n U (j : Int) = rr at *
          have hkI : (k : Int) < (n : Int) := by omega
          have h0 := h.slot
          have q0 := h.row.cell (j := k * 2) (by omega)
          have q1 := h.row.cell (j := k * 2 + 1) (by omega)
          have qf := fun i => h.row.frozen i none
          have q1' := fun v : Value => show (w.setCell ⟨g, k * 2, none⟩ v).cell? ⟨g, k * 2 + 1, none⟩ = some _ by rw [cell_set_ne (by omega)]; exact q1
          have HE : Hid (LkP ((w.setCell ⟨g, k * 2, none⟩ (.int .i64 (j : Int))).setCell ⟨g, k * 2 + 1, none⟩ (.int .i64 x)) f g n (Sp.upd U k (j : Int)) (Sp.upd W k x) ∧ Bt (fun b => b = g) w ((w.setCell ⟨g, k * 2, none⟩ (.int .i64 (j : Int))).setCell ⟨g, k * 2 + 1, none⟩ (.int .i64 x))) := hide ⟨h.set k (j : Int) x, ((Bt.refl (fun b => b = g) w).set (.inl rfl) _ _ _).set (.inl rfl) _ _ _⟩
          clear h hF e h1 h2 h3 h4 h3' q1 H
          go_enter Try.func8, Try.ntmps8
          go_wp2_with fail
          go_at_call 22
          refine (unhide HC1).mono ?_
          rintro e w' ⟨rfl, hw⟩
          have hw' := hw.symm
          subst hw'
          clear hw
          go_wp2_with fail
          go_at_call 22
          refine (unhide HC2).mono ?_
          rintro e w' ⟨rfl, hw⟩
          have hw' := hw.symm
          subst hw'
          clear hw
          go_wp2_with fail
          go_at_call 23
          refine (unhide HC3).mono ?_
          rintro e w' ⟨rfl, hw⟩
          have hw' := hw.symm
          subst hw'
          clear hw
          go_wp2_with fail
          go_at_call 13
          refine (unhide HC4).mono ?_
          rintro e w' ⟨rfl, hw⟩
          have hw' := hw.symm
          subst hw'
          clear hw
          go_wp2
          go_ret
          exact ⟨rfl, unhide HE⟩
    · have h2' : Sp.hs n u = false := by
        cases hh : Sp.hs n u with
        | true => exact absurd hh h2
        | false => rfl
      rw [h2'] at HC2
      have e : Sp.lkE n U v u = 3 := by unfold Sp.lkE; rw [if_neg (fun hh => h2 hh.2)]
      rw [e, if_neg (by decide), if_neg (by decide)]
      clear h hF e h1 h2 h2' HC3 HC4
      go_enter Try.func8, Try.ntmps8
      go_wp2_with fail
      go_at_call 22
      refine (unhide HC1).mono ?_
      rintro e w' ⟨rfl, hw⟩
      have hw' := hw.symm
      subst hw'
      clear hw
      go_wp2_with fail
      go_at_call 22
      refine (unhide HC2).mono ?_
      rintro e w' ⟨rfl, hw⟩
      have hw' := hw.symm
      subst hw'
      clear hw
      go_wp2
      go_ret
      exact ⟨rfl, unhide H, Bt.refl _ _⟩
  · have h1' : Sp.hs n v = false := by
      cases hh : Sp.hs n v with
      | true => exact absurd hh h1
      | false => rfl
    rw [h1'] at HC1
    have e : Sp.lkE n U v u = 3 := by unfold Sp.lkE; rw [if_neg (fun hh => h1 hh.1)]
    rw [e, if_neg (by decide), if_neg (by decide)]
    clear h hF e h1 h1' HC2 HC3 HC4
    go_enter Try.func8, Try.ntmps8
    go_wp2_with fail
    go_at_call 22
    refine (unhide HC1).mono ?_
    rintro e w' ⟨rfl, hw⟩
    have hw' := hw.symm
    subst hw'
    clear hw
    go_wp2
    go_ret
    exact ⟨rfl, unhide H, Bt.refl _ _⟩
end Go.Proofs.Ytohfmohkaaidpab


/- Package link: Turn. -/
namespace Go.Proofs.Ytohfmohkaaidpab
open Go Go.RowKit

noncomputable def Sp.dp (U : Nat → Int) (v : Nat) : Nat := Classical.epsilon fun k => ∃ a, Sp.Upw U k v a ∧ U a = -1
theorem Sp.dp_is {U : Nat → Int} {k v a : Nat} (h : Sp.Upw U k v a) (ha : U a = -1) : Sp.dp U v = k := by
  have h2 : ∃ a, Sp.Upw U (Sp.dp U v) v a ∧ U a = -1 := Classical.epsilon_spec (p := fun k => ∃ a, Sp.Upw U k v a ∧ U a = -1) ⟨k, a, h, ha⟩
  obtain ⟨a', h3, h4⟩ := h2
  exact (Sp.Upw.uniq h3 h4 h ha).1
def Sp.intOf : Value → Int
  | .int _ q => q
  | _ => 0
/-- What Turn leaves. -/
noncomputable def Sp.tn (n : Nat) (U W : Nat → Int) (v : Int) : (Nat → Int) × (Nat → Int) := if Sp.hs n v = true then Sp.trn (Sp.dp U v.toNat + 1) U W v.toNat (-1) 0 else (U, W)
theorem Sp.Fo.tn {n : Nat} {U : Nat → Int} (h : Sp.Fo n U) (W : Nat → Int) (v : Int) : Sp.Fo n (Sp.tn n U W v).1 := by
  unfold Sp.tn
  split
  · rename_i hh
    have hv := of_decide_eq_true hh
    obtain ⟨k, a, h1, h2, -⟩ := h.ex (v := v.toNat) (by omega)
    rw [Sp.dp_is h1 h2]
    exact (Sp.trn_ok (W := W) (x := 0) ⟨h, by omega, h1, h2, .inl ⟨rfl, rfl⟩⟩).1
  · exact h
theorem edge_cells {w : World} {b : Nat} {x y : Value} (h : w.heap[b]? = some (.cells #[x, y] 48)) : w.cell? ⟨b, 0, none⟩ = some x ∧ w.cell? ⟨b, 1, none⟩ = some y ∧ ∀ i, w.frozen? ⟨b, i, none⟩ = false := by
  refine ⟨?_, ?_, fun i => ?_⟩
  · simp only [World.cell?, h]; rfl
  · simp only [World.cell?, h]; rfl
  · simp only [World.frozen?, h]; simp
theorem edge_set {w : World} {b : Nat} {x y : Value} (h : w.heap[b]? = some (.cells #[x, y] 48)) (u v : Value) : ((w.setCell ⟨b, 0, none⟩ u).setCell ⟨b, 1, none⟩ v).heap[b]? = some (.cells #[u, v] 48) := by
  simp only [World.setCell, Array.getElem?_modify, if_pos, h]; rfl
/-- Where Turn stands at its label. -/
structure Sp.TnJ (n : Nat) (U : Nat → Int) (F : (Nat → Int) × (Nat → Int)) (U1 W1 : Nat → Int) (v1 : Nat) (l1 x1 : Int) (d : Nat) : Prop where
  ti : ∃ b a, Sp.TrnI n U1 d v1 b l1 a
  fin : Sp.trn (d + 1) U1 W1 v1 l1 x1 = F
  dep : Sp.dp U v1 = d
  old : ∀ x, (∃ j, Sp.Upw U j v1 x) → U1 x = U x
  top : ∃ b, Sp.Upw U d v1 b ∧ U b = -1
theorem Sp.TnJ.step {n : Nat} {U : Nat → Int} {F : (Nat → Int) × (Nat → Int)} {U1 W1 : Nat → Int} {v1 : Nat} {l1 x1 : Int} {d : Nat} (h : Sp.TnJ n U F U1 W1 v1 l1 x1 (d + 1)) (hF : Sp.Fo n U) : ∃ u : Nat, U1 v1 = (u : Int) ∧ Sp.TnJ n U F (Sp.upd U1 v1 l1) (Sp.upd W1 v1 x1) u (v1 : Int) (W1 v1) d ∧ u < n := by
  obtain ⟨b, a, ht⟩ := h.ti
  obtain ⟨u, e, hne, h2⟩ := ht.step
  have e2 : U v1 = (u : Int) := by rw [← h.old v1 ⟨0, rfl⟩]; exact e
  obtain ⟨bb, hb1, hb2⟩ := h.top
  obtain ⟨u', e3, hb3⟩ := hb1
  obtain rfl : u = u' := by omega
  refine ⟨u, e, ⟨⟨b, a, h2⟩, ?_, Sp.dp_is hb3 hb2, fun x ⟨j, hj⟩ => ?_, bb, hb3, hb2⟩, h2.lt⟩
  · have h3 := h.fin
    rw [Sp.trn, if_neg hne, e, Int.toNat_natCast] at h3
    exact h3
  · have hx : x ≠ v1 := fun e4 => hF.no_round ht.lt (k := j) ⟨u, e2, by rw [← e4]; exact hj⟩
    rw [Sp.upd_other _ _ hx]
    exact h.old x ⟨j + 1, u, e2, hj⟩
theorem Sp.TnJ.last {n : Nat} {U : Nat → Int} {F : (Nat → Int) × (Nat → Int)} {U1 W1 : Nat → Int} {v1 : Nat} {l1 x1 : Int} (h : Sp.TnJ n U F U1 W1 v1 l1 x1 0) : U1 v1 = -1 ∧ F = (Sp.upd U1 v1 l1, Sp.upd W1 v1 x1) := by
  obtain ⟨b, a, ht⟩ := h.ti
  obtain ⟨e, -⟩ := ht.zero
  have h3 := h.fin
  rw [Sp.trn, if_pos e] at h3
  exact ⟨e, h3.symm⟩
set_option maxRecDepth 100000 in
set_option maxHeartbeats 8000000 in
theorem lkturn_any {f g n : Nat} {U W : Nat → Int} (hF : Sp.Fo n U) (v : Int) (w : World) (h : LkP w f g n U W) :
    Calls Try.prog 11 #[.pointer (some ⟨f, 0, none⟩), .int .i64 v] w fun e w' => e = .returned (.bool (Sp.hs n v)) ∧ LkP w' f g n (Sp.tn n U W v).1 (Sp.tn n U W v).2 ∧ Bt (fun b => b = g) w w' := by
  have HC := hide (lkhas_any v w h)
  unfold Sp.tn
  rcases Sp.int_case n v with h1 | ⟨k, rfl, hk⟩
  · have hsn : Sp.hs n v = false := Sp.hs_no h1
    rw [hsn] at HC ⊢
    rw [if_neg (by decide)]
    have H := hide h
    obtain ⟨P, hP⟩ : ∃ P : Ending → World → Prop, P = fun e w' => e = .returned (.bool false) ∧ LkP w' f g n U W ∧ Bt (fun b => b = g) w w' := ⟨_, rfl⟩
    rw [← hP]
    have HP := hide hP
    clear h h1 hsn hF hP
    go_enter Try.func11, Try.ntmps11
    go_wp2
    go_step3
    go_wp2_with fail
    go_at_call 22
    refine (unhide HC).mono ?_
    rintro e w' ⟨rfl, hw⟩
    have hw' := hw.symm
    subst hw'
    go_wp2
    rw [unhide HP]
    exact ⟨rfl, unhide H, Bt.refl _ _⟩
  · rw [Sp.hs_yes hk] at HC ⊢
    rw [if_pos rfl, Int.toNat_natCast]
    obtain ⟨d0, b0, hu, hb0, -⟩ := hF.ex hk
    rw [Sp.dp_is hu hb0]
    obtain ⟨F, hFF⟩ : ∃ F, Sp.trn (d0 + 1) U W k (-1) 0 = F := ⟨_, rfl⟩
    rw [hFF]
    have HJ0 : Hid (Sp.TnJ n U F U W k (-1) 0 d0) := hide ⟨⟨b0, k, hF, hk, hu, hb0, .inl ⟨rfl, rfl⟩⟩, hFF, Sp.dp_is hu hb0, fun _ _ => rfl, b0, hu, hb0⟩
    have HF := hide hF
    have H := hide h
    have hgl := h.lt
    have hfg := h.ne
    obtain ⟨P, hP⟩ : ∃ P : Ending → World → Prop, P = fun e w' => e = .returned (.bool true) ∧ LkP w' f g n F.1 F.2 ∧ Bt (fun b => b = g) w w' := ⟨_, rfl⟩
    rw [← hP]
    have HP := hide hP
    clear h hF hu hb0 hFF hP
    go_enter Try.func11, Try.ntmps11
    go_wp2
    refine wp_scope_more (fun l a' w' => l = 0 ∧ ∃ (U1 W1 : Nat → Int) (v1 d tb : Nat) (l1 x1 : Int) (u2 u3 u6 u7 u8 u9 u10 u11 u12 u13 u14 u15 u16 u17 u18 u19 u20 u21 u22 u23 u24 u25 u26 u27 u28 u29 u30 u31 : Value), a' = { tmps := #[.pointer (some ⟨f, 0, none⟩), .int .i64 (v1 : Int), u2, u3, .bool false, .pointer (some ⟨tb, 0, none⟩), u6, u7, u8, u9, u10, u11, u12, u13, u14, u15, u16, u17, u18, u19, u20, u21, u22, u23, u24, u25, u26, u27, u28, u29, u30, u31], defers := [] } ∧ v1 < n ∧ Hid (Sp.TnJ n U F U1 W1 v1 l1 x1 d) ∧ Hid (LkP w' f g n U1 W1 ∧ w'.heap[tb]? = some (.cells #[.int .i64 l1, .int .i64 x1] 48) ∧ Bt (fun b => b = g) w w') ∧ w.heap.size ≤ tb) (fun _ a' _ => Sp.dp U (Sp.intOf (a'.tmps.getD 1 undef)).toNat) ?pass ?first
    case first =>
      intro hfirst
      go_wp2_with fail
      go_at_call 22
      refine (unhide HC).mono ?_
      rintro e w' ⟨rfl, hw⟩
      have hw' := hw.symm
      subst hw'
      clear hw
      have HI0 : Hid (LkP (w.alloc (.cells #[.int .i64 (-1), .int .i64 0] 48)) f g n U W ∧ (w.alloc (.cells #[.int .i64 (-1), .int .i64 0] 48)).heap[w.heap.size]? = some (.cells #[.int .i64 (-1), .int .i64 0] 48) ∧ Bt (fun b => b = g) w (w.alloc (.cells #[.int .i64 (-1), .int .i64 0] 48))) := hide ⟨(unhide H).below ((Below.refl _ w).alloc (Nat.le_refl _) _), heap_alloc_new w _, (Bt.refl _ w).alloc _⟩
      have Hf := hide hfirst
      clear hfirst
      go_wp2
      go_step3
      rename_i hlast
      exact hlast _ _ (unhide Hf 0 _ _ _ ⟨rfl, U, W, k, d0, w.heap.size, -1, 0, _, _, _, _, _, _, _, _, _, _, _, _, _, _, _, _, _, _, _, _, _, _, _, _, _, _,  _, _, rfl, hk, HJ0, HI0, Nat.le_refl _⟩ rfl)
    case pass =>
      rintro l a' w' ⟨rfl, U1, W1, v1, d, tb, l1, x1, u2, u3, u6, u7, u8, u9, u10, u11, u12, u13, u14, u15, u16, u17, u18, u19, u20, u21, u22, u23, u24, u25, u26, u27, u28, u29, u30, u31, rfl, hv1, HJ, HI, htb⟩
      refine ⟨_, rfl, ?_⟩
      have hq := (unhide HI).1
      have htbl : tb < w'.heap.size := (Array.getElem?_eq_some_iff.1 (unhide HI).2.1).1
      have htf : tb ≠ f := by omega
      have htg : tb ≠ g := by omega
      have hvI : (v1 : Int) < (n : Int) := by omega
      obtain ⟨y0, hy0⟩ : ∃ y0, U1 v1 = y0 := ⟨_, rfl⟩
      obtain ⟨y1, hy1⟩ : ∃ y1, W1 v1 = y1 := ⟨_, rfl⟩
      have hb := Below.refl w'.heap.size w'
      have hqd : LkP w'.drew f g n U1 W1 := hq.below hb.drew
      have htd : w'.drew.heap[tb]? = some (.cells #[.int .i64 l1, .int .i64 x1] 48) := (unhide HI).2.1
      have hbd : Bt (fun b => b = g) w w'.drew := (unhide HI).2.2.drew
      obtain ⟨t0, t1, tf⟩ := edge_cells htd
      have g0 := hqd.up hv1
      have g1 := hqd.wt hv1
      rw [hy0] at g0
      rw [hy1] at g1
      have hS4 : w'.drew.cell? ⟨f, 0, none⟩ = some (.slice (some ⟨g, 0, none⟩) n n) ∧ w'.drew.cell? ⟨g, v1 * 2, none⟩ = some (.int .i64 y0) ∧ w'.drew.cell? ⟨g, v1 * 2 + 1, none⟩ = some (.int .i64 y1) ∧ w'.drew.cell? ⟨tb, 0, none⟩ = some (.int .i64 l1) ∧ w'.drew.cell? ⟨tb, 1, none⟩ = some (.int .i64 x1) := ⟨hqd.slot, g0, g1, t0, t1⟩
      have gf := fun i => hqd.frozen i
      have HY := hide (And.intro hy0 hy1)
      clear hy0 hy1 hq hb
      go_upto_region 4 with fail
      go_cut [] (fun w9 => ∃ ws, ws = w9 ∧ Hid (LkP ws f g n (Sp.upd U1 v1 l1) (Sp.upd W1 v1 x1) ∧ ws.heap[tb]? = some (.cells #[.int .i64 y0, .int .i64 y1] 48) ∧ Bt (fun b => b = g) w ws))
      case first =>
        generalize hwd : w'.drew = wq at *
        have g1' := fun v : Value => show (wq.setCell ⟨g, v1 * 2, none⟩ v).cell? ⟨g, v1 * 2 + 1, none⟩ = some (.int .i64 y1) by rw [cell_set_ne (by omega)]; exact g1
        have hqs := hqd.set v1 l1 x1
        have hts : ((wq.setCell ⟨g, v1 * 2, none⟩ (.int .i64 l1)).setCell ⟨g, v1 * 2 + 1, none⟩ (.int .i64 x1)).heap[tb]? = some (.cells #[.int .i64 l1, .int .i64 x1] 48) := by rw [Below.heap_setCell _ _ _ _ htg, Below.heap_setCell _ _ _ _ htg]; exact htd
        obtain ⟨s0, s1, sf⟩ := edge_cells hts
        have s1' := fun v : Value => show (((wq.setCell ⟨g, v1 * 2, none⟩ (.int .i64 l1)).setCell ⟨g, v1 * 2 + 1, none⟩ (.int .i64 x1)).setCell ⟨tb, 0, none⟩ v).cell? ⟨tb, 1, none⟩ = some (.int .i64 x1) by rw [cell_set_ne (by omega)]; exact s1
        have HQ : Hid (LkP ((((wq.setCell ⟨g, v1 * 2, none⟩ (.int .i64 l1)).setCell ⟨g, v1 * 2 + 1, none⟩ (.int .i64 x1)).setCell ⟨tb, 0, none⟩ (.int .i64 y0)).setCell ⟨tb, 1, none⟩ (.int .i64 y1)) f g n (Sp.upd U1 v1 l1) (Sp.upd W1 v1 x1) ∧ ((((wq.setCell ⟨g, v1 * 2, none⟩ (.int .i64 l1)).setCell ⟨g, v1 * 2 + 1, none⟩ (.int .i64 x1)).setCell ⟨tb, 0, none⟩ (.int .i64 y0)).setCell ⟨tb, 1, none⟩ (.int .i64 y1)).heap[tb]? = some (.cells #[.int .i64 y0, .int .i64 y1] 48) ∧ Bt (fun b => b = g) w ((((wq.setCell ⟨g, v1 * 2, none⟩ (.int .i64 l1)).setCell ⟨g, v1 * 2 + 1, none⟩ (.int .i64 x1)).setCell ⟨tb, 0, none⟩ (.int .i64 y0)).setCell ⟨tb, 1, none⟩ (.int .i64 y1))) := hide ⟨hqs.bt (p := fun b => b = tb) (((Bt.refl (fun b => b = tb) _).set (.inl rfl) _ _ _).set (.inl rfl) _ _ _) (fun e => htf e.symm) (fun e => htg e.symm), edge_set hts _ _, (((hbd.set (.inl rfl) _ _ _).set (.inl rfl) _ _ _).set (.inr htb) _ _ _).set (.inr htb) _ _ _⟩
        clear hqs hts hqd htd hbd g1
        subst hwd
        refine wp_region_G (fun w' => w'.cell? ⟨f, 0, none⟩ = some (.slice (some ⟨g, 0, none⟩) n n) ∧ w'.cell? ⟨g, v1 * 2, none⟩ = some (.int .i64 y0) ∧ w'.cell? ⟨g, v1 * 2 + 1, none⟩ = some (.int .i64 y1) ∧ w'.cell? ⟨tb, 0, none⟩ = some (.int .i64 l1) ∧ w'.cell? ⟨tb, 1, none⟩ = some (.int .i64 x1)) (fun j => j == 14 || j == 15) (by kernel_rfl) hS4 (fun hHeld => ?_)
        generalize w'.drew = wq at *
        refine wpAnyG_take (v := ?_) 0 (by rfl) (by kernel_rfl) (by kernel_rfl) (by kernel_rfl) (by kernel_rfl) (fun _ _ _ h => h) (Or.inl ⟨by rfl, ?_⟩) (by assumption) ?_
        rotate_left
        · (intro w' hSw; (try dsimp only at hSw); (try simp only [List.getElem_toArray, List.getElem_cons_zero]); go_simp; try (with_reducible rfl))
        simp only [Act.put, List.getElem_toArray, List.getElem_cons_zero, List.setIfInBounds_toArray, List.set_cons_zero, List.set_cons_succ]
        refine wpAnyG_take (v := ?_) 1 (by rfl) (by kernel_rfl) (by kernel_rfl) (by kernel_rfl) (by kernel_rfl) (fun _ _ _ h => h) (Or.inl ⟨by rfl, ?_⟩) (by assumption) ?_
        rotate_left
        · (intro w' hSw; (try dsimp only at hSw); (try simp only [List.getElem_toArray, List.getElem_cons_succ, List.getElem_cons_zero]); go_simp; try (with_reducible rfl))
        simp only [Act.put, List.getElem_toArray, List.getElem_cons_succ, List.getElem_cons_zero, List.setIfInBounds_toArray, List.set_cons_zero, List.set_cons_succ]
        refine wpAnyG_take (v := ?_) 2 (by rfl) (by kernel_rfl) (by kernel_rfl) (by kernel_rfl) (by kernel_rfl) (fun _ _ _ h => h) (Or.inl ⟨by rfl, ?_⟩) (by assumption) ?_
        rotate_left
        · (intro w' hSw; (try dsimp only at hSw); (try simp only [List.getElem_toArray, List.getElem_cons_succ, List.getElem_cons_zero]); go_simp; try (with_reducible rfl))
        simp only [Act.put, List.getElem_toArray, List.getElem_cons_succ, List.getElem_cons_zero, List.setIfInBounds_toArray, List.set_cons_zero, List.set_cons_succ]
        refine wpAnyG_take (v := ?_) 3 (by rfl) (by kernel_rfl) (by kernel_rfl) (by kernel_rfl) (by kernel_rfl) (fun _ _ _ h => h) (Or.inl ⟨by rfl, ?_⟩) (by assumption) ?_
        rotate_left
        · (intro w' hSw; (try dsimp only at hSw); (try simp only [List.getElem_toArray, List.getElem_cons_succ, List.getElem_cons_zero]); go_simp; try (with_reducible rfl))
        simp only [Act.put, List.getElem_toArray, List.getElem_cons_succ, List.getElem_cons_zero, List.setIfInBounds_toArray, List.set_cons_zero, List.set_cons_succ]
        refine wpAnyG_take (v := ?_) 4 (by rfl) (by kernel_rfl) (by kernel_rfl) (by kernel_rfl) (by kernel_rfl) (fun _ _ _ h => h) (Or.inl ⟨by rfl, ?_⟩) (by assumption) ?_
        rotate_left
        · (intro w' hSw; (try dsimp only at hSw); (try simp only [List.getElem_toArray, List.getElem_cons_succ, List.getElem_cons_zero]); go_simp; try (with_reducible rfl))
        simp only [Act.put, List.getElem_toArray, List.getElem_cons_succ, List.getElem_cons_zero, List.setIfInBounds_toArray, List.set_cons_zero, List.set_cons_succ]
        refine wpAnyG_take (v := ?_) 5 (by rfl) (by kernel_rfl) (by kernel_rfl) (by kernel_rfl) (by kernel_rfl) (fun _ _ _ h => h) (Or.inl ⟨by rfl, ?_⟩) (by assumption) ?_
        rotate_left
        · (intro w' hSw; (try dsimp only at hSw); (try simp only [List.getElem_toArray, List.getElem_cons_succ, List.getElem_cons_zero]); go_simp; try (with_reducible rfl))
        simp only [Act.put, List.getElem_toArray, List.getElem_cons_succ, List.getElem_cons_zero, List.setIfInBounds_toArray, List.set_cons_zero, List.set_cons_succ]
        refine wpAnyG_takeW (v := ?_) 6 (by rfl) (by kernel_rfl) (by kernel_rfl) (by kernel_rfl) (by kernel_rfl) (fun _ _ _ h => h) (Or.inl ⟨by rfl, ?_⟩) (by assumption) ?_
        rotate_left
        · (intro w' hSw; (try dsimp only at hSw); (try simp only [List.getElem_toArray, List.getElem_cons_succ, List.getElem_cons_zero]); go_simp; try (with_reducible rfl))
        simp only [Act.put, List.getElem_toArray, List.getElem_cons_succ, List.getElem_cons_zero, List.setIfInBounds_toArray, List.set_cons_zero, List.set_cons_succ]
        refine wpAnyG_takeW (v := ?_) 7 (by rfl) (by kernel_rfl) (by kernel_rfl) (by kernel_rfl) (by kernel_rfl) (fun _ _ _ h => h) (Or.inl ⟨by rfl, ?_⟩) (by assumption) ?_
        rotate_left
        · (intro w' hSw; (try dsimp only at hSw); (try simp only [List.getElem_toArray, List.getElem_cons_succ, List.getElem_cons_zero]); go_simp; try (with_reducible rfl))
        simp only [Act.put, List.getElem_toArray, List.getElem_cons_succ, List.getElem_cons_zero, List.setIfInBounds_toArray, List.set_cons_zero, List.set_cons_succ]
        refine wpAnyG_takeW (v := ?_) 8 (by rfl) (by kernel_rfl) (by kernel_rfl) (by kernel_rfl) (by kernel_rfl) (fun _ _ _ h => h) (Or.inl ⟨by rfl, ?_⟩) (by assumption) ?_
        rotate_left
        · (intro w' hSw; (try dsimp only at hSw); (try simp only [List.getElem_toArray, List.getElem_cons_succ, List.getElem_cons_zero]); go_simp; try (with_reducible rfl))
        simp only [Act.put, List.getElem_toArray, List.getElem_cons_succ, List.getElem_cons_zero, List.setIfInBounds_toArray, List.set_cons_zero, List.set_cons_succ]
        refine wpAnyG_take (v := ?_) 9 (by rfl) (by kernel_rfl) (by kernel_rfl) (by kernel_rfl) (by kernel_rfl) (fun _ _ _ h => h) (Or.inl ⟨by rfl, ?_⟩) (by assumption) ?_
        rotate_left
        · (intro w' hSw; (try dsimp only at hSw); (try simp only [List.getElem_toArray, List.getElem_cons_succ, List.getElem_cons_zero]); go_simp; try (with_reducible rfl))
        simp only [Act.put, List.getElem_toArray, List.getElem_cons_succ, List.getElem_cons_zero, List.setIfInBounds_toArray, List.set_cons_zero, List.set_cons_succ]
        refine wpAnyG_takeW (v := ?_) 10 (by rfl) (by kernel_rfl) (by kernel_rfl) (by kernel_rfl) (by kernel_rfl) (fun _ _ _ h => h) (Or.inl ⟨by rfl, ?_⟩) (by assumption) ?_
        rotate_left
        · (intro w' hSw; (try dsimp only at hSw); (try simp only [List.getElem_toArray, List.getElem_cons_succ, List.getElem_cons_zero]); go_simp; try (with_reducible rfl))
        simp only [Act.put, List.getElem_toArray, List.getElem_cons_succ, List.getElem_cons_zero, List.setIfInBounds_toArray, List.set_cons_zero, List.set_cons_succ]
        refine wpAnyG_takeW (v := ?_) 11 (by rfl) (by kernel_rfl) (by kernel_rfl) (by kernel_rfl) (by kernel_rfl) (fun _ _ _ h => h) (Or.inl ⟨by rfl, ?_⟩) (by assumption) ?_
        rotate_left
        · (intro w' hSw; (try dsimp only at hSw); (try simp only [List.getElem_toArray, List.getElem_cons_succ, List.getElem_cons_zero]); go_simp; try (with_reducible rfl))
        simp only [Act.put, List.getElem_toArray, List.getElem_cons_succ, List.getElem_cons_zero, List.setIfInBounds_toArray, List.set_cons_zero, List.set_cons_succ]
        refine wpAnyG_take (v := ?_) 12 (by rfl) (by kernel_rfl) (by kernel_rfl) (by kernel_rfl) (by kernel_rfl) (fun _ _ _ h => h) (Or.inl ⟨by rfl, ?_⟩) (by assumption) ?_
        rotate_left
        · (intro w' hSw; (try dsimp only at hSw); (try simp only [List.getElem_toArray, List.getElem_cons_succ, List.getElem_cons_zero]); go_simp; try (with_reducible rfl))
        simp only [Act.put, List.getElem_toArray, List.getElem_cons_succ, List.getElem_cons_zero, List.setIfInBounds_toArray, List.set_cons_zero, List.set_cons_succ]
        refine wpAnyG_take (v := ?_) 13 (by rfl) (by kernel_rfl) (by kernel_rfl) (by kernel_rfl) (by kernel_rfl) (fun _ _ _ h => h) (Or.inl ⟨by rfl, ?_⟩) (by assumption) ?_
        rotate_left
        · (intro w' hSw; (try dsimp only at hSw); (try simp only [List.getElem_toArray, List.getElem_cons_succ, List.getElem_cons_zero]); go_simp; try (with_reducible rfl))
        simp only [Act.put, List.getElem_toArray, List.getElem_cons_succ, List.getElem_cons_zero, List.setIfInBounds_toArray, List.set_cons_zero, List.set_cons_succ]
        refine wpAnyG_ready [14] (by kernel_rfl) (by simp) ?_
        refine AllReadyG.last 14 (by rfl) (by kernel_rfl) (fun K hK => ?_) ?_
        · simp only [List.getElem_toArray, List.getElem_cons_succ, List.getElem_cons_zero]
          go_simp
          refine hK.out _ _ ?_
          clear hK K
          try simp only [Act.put, List.setIfInBounds_toArray, List.set_cons_zero, List.set_cons_succ]
          refine wpAnyG_ready [15] (by kernel_rfl) (by simp) ?_
          refine AllReadyG.last 15 (by rfl) (by kernel_rfl) (fun K hK => ?_) ?_
          · simp only [List.getElem_toArray, List.getElem_cons_succ, List.getElem_cons_zero]
            go_simp
            refine hK.out _ _ ?_
            clear hK K
            try simp only [Act.put, List.setIfInBounds_toArray, List.set_cons_zero, List.set_cons_succ]
            refine wpAnyG_done (by kernel_rfl) ?_ _
            refine NoPanic.normal ?_
            go_wp2
            go_meet
            exact ⟨_, rfl, HQ⟩
          exact AllReadyG.nil
        exact AllReadyG.nil

      case rest =>
        obtain ⟨ws, rfl, HZ⟩ := hcut
        obtain ⟨t0, t1, tf⟩ := edge_cells (unhide HZ).2.1
        clear hqd htd hbd hS4 g0 g1 gf
        cases d with
        | zero =>
          obtain ⟨e1, e2⟩ := (unhide HJ).last
          have e3 : y0 = -1 := by rw [← (unhide HY).1]; exact e1
          subst e3
          have HE : Hid (LkP ws f g n F.1 F.2 ∧ Bt (fun b => b = g) w ws) := hide ⟨by rw [e2]; exact (unhide HZ).1, (unhide HZ).2.2⟩
          clear e1 e2 HJ HI HZ
          go_wp2
          rw [unhide HP]
          exact ⟨rfl, unhide HE⟩
        | succ d =>
          obtain ⟨u, e1, hJ2, hun⟩ := (unhide HJ).step (unhide HF)
          have e3 : y0 = (u : Int) := by rw [← (unhide HY).1]; exact e1
          subst e3
          rw [(unhide HY).2] at hJ2
          have hub : ((u : Int) != -1) = true := bne_iff_ne.2 (by omega)
          have HJ2 := hide hJ2
          have HM : Hid (Sp.dp U u < Sp.dp U v1) := hide (by rw [hJ2.dep, (unhide HJ).dep]; omega)
          have HZ2 : Hid (LkP (ws.setCell ⟨tb, 0, none⟩ (.int .i64 (v1 : Int))) f g n (Sp.upd U1 v1 l1) (Sp.upd W1 v1 x1) ∧ (ws.setCell ⟨tb, 0, none⟩ (.int .i64 (v1 : Int))).heap[tb]? = some (.cells #[.int .i64 (v1 : Int), .int .i64 y1] 48) ∧ Bt (fun b => b = g) w (ws.setCell ⟨tb, 0, none⟩ (.int .i64 (v1 : Int)))) := hide ⟨(unhide HZ).1.bt (p := fun b => b = tb) ((Bt.refl (fun b => b = tb) _).set (.inl rfl) _ _ _) (fun e => htf e.symm) (fun e => htg e.symm), by simp only [World.setCell, Array.getElem?_modify, if_pos, (unhide HZ).2.1]; rfl, (unhide HZ).2.2.set (.inr htb) _ _ _⟩
          clear hJ2 HJ HI HZ e1 HY
          go_wp2
          go_step3
          refine ⟨⟨rfl, _, _, u, d, tb, (v1 : Int), y1, _, _, _, _, _, _, _, _, _, _, _, _, _, _, _, _, _, _, _, _, _, _, _, _, _, _, _, _, rfl, hun, HJ2, HZ2, htb⟩, ?_⟩
          show Sp.dp U (Sp.intOf (.int .i64 (u : Int))).toNat < Sp.dp U (Sp.intOf (.int .i64 (v1 : Int))).toNat
          show Sp.dp U ((u : Int)).toNat < Sp.dp U ((v1 : Int)).toNat
          rw [Int.toNat_natCast, Int.toNat_natCast]
          exact unhide HM
end Go.Proofs.Ytohfmohkaaidpab


