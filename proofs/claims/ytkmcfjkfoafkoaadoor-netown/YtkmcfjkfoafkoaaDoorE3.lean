/- The walk of the reference's Round where nothing is wrong. -/
import Derived.Test.YtkmcfjkfoafkoaaDoorE2
namespace Go.Proofs.YtkmcfjkfoafkoaaDoor
open Go Go.RowKit

/-- The next ones behind k of a turn's darts. -/
def Sp.layTo (nx l : List Int) : Nat → List Int
  | 0 => nx
  | k + 1 => (Sp.layTo nx l k).set (l.getD k 0).toNat (l.getD ((k + 1) % l.length) 0)
theorem Sp.layTo_len (nx l : List Int) (k : Nat) : (Sp.layTo nx l k).length = nx.length := by
  induction k with
  | zero => rfl
  | succ k ih => simp [Sp.layTo, ih]
def Sp.roundN (q : Sp.Net) (l : List Int) : Sp.Net := { q with next := Sp.layTo q.next l l.length }
/-- Cells of a row of ints, in every world behind. -/
theorem Ints.all {w : World} {v : Value} {l : List Int} (h : Ints w v l) : ∃ (a : Option Addr) (c : Nat), v = .slice a l.length c ∧ l.length ≤ c ∧ c ≤ maxLen ∧ Hid (∀ k, (hk : k < l.length) → ∃ b o, a = some ⟨b, o, none⟩ ∧ b < w.heap.size ∧ ∀ w', Below w.heap.size w w' → w'.cell? ⟨b, o + k, none⟩ = some (.int .i64 l[k])) := by
  obtain ⟨a, c, e, h1, h2, h3⟩ := h
  refine ⟨a, c, e, h1, h2, hide fun k hk => ?_⟩
  obtain ⟨b, o, ha, hb, hc⟩ := h3 k hk
  exact ⟨b, o, ha, hb, fun w' hw => (hw.cell (by exact hb)).trans hc⟩
/-- The first k of a row. -/
theorem Ints.take {w : World} {a : Option Addr} {n c : Nat} {l : List Int} (h : Ints w (.slice a n c) l) (k : Nat) (hk : k ≤ l.length) : Ints w (.slice a k c) (l.take k) := by
  obtain ⟨a', c', e, h1, h2, h3⟩ := h
  injection e with e1 e2 e3
  subst e1 e2 e3
  have hl : (l.take k).length = k := by rw [List.length_take]; omega
  refine ⟨a, c, by rw [hl], by omega, h2, fun j hj => ?_⟩
  obtain ⟨b, o, ha, hb, hc⟩ := h3 j (by omega)
  exact ⟨b, o, ha, hb, by rw [hc, List.getElem_take]⟩
theorem BoxAt.other {w wx : World} {n : Int} {tv nv cv : Value} (h : BoxAt w wx n tv nv cv) (g j : Nat) (hg : w.heap.size + 1 < g) (u : Value) : BoxAt w (wx.setCell ⟨g, j, none⟩ u) n tv nv cv :=
  ⟨by rw [heap_setCell_other _ _ _ _ (by show w.heap.size ≠ g; omega)]; exact h.b1, by rw [heap_setCell_other _ _ _ _ (by show w.heap.size + 1 ≠ g; omega)]; exact h.b2, h.bel.setCell (by show w.heap.size ≤ g; omega) u⟩
theorem BoxAt.drew {w wx : World} {n : Int} {tv nv cv : Value} (h : BoxAt w wx n tv nv cv) : BoxAt w wx.drew n tv nv cv := h.below (Below.refl _ _).drew
set_option maxRecDepth 100000 in
set_option maxHeartbeats 1000000 in
theorem rround_any (q : Sp.Net) (u tu nu cu x : Value) (v : Int) (l : List Int) (w : World) (hu : NetI w u q tu nu cu) (hx : Ints w x l) (hl1 : q.tail.length ≤ 240) (hl2 : q.next.length = q.tail.length)
    (hd : ∀ y ∈ l, 0 ≤ y ∧ y < q.tail.length ∧ q.tail.getD y.toNat 0 = v) (hnd : l.Nodup) (hall : ∀ d : Nat, d < q.tail.length → q.tail.getD d 0 = v → (d : Int) ∈ l) (hll : l.length ≤ 240) :
    Calls Tryd.prog 29 #[u, .int .i64 v, x] w fun e w' => ∃ nv', e = .returned (.tuple #[.agg #[.int .i64 q.n, tu, nv', cu], .int .i64 0]) ∧ OwnI w' w.heap.size nv' (Sp.layTo q.next l l.length) ∧ Below w.heap.size w w' := by
  obtain ⟨rfl, u1, u2, u3⟩ := hu
  have HI := hide (fun w' (hb : Below w.heap.size w w') => hx.below hb)
  have U2 := hide (fun w' (hb : Below w.heap.size w w') => u2.below hb)
  obtain ⟨a, c, rfl, hc, hm, HX⟩ := hx.all
  obtain ⟨ta, tc, rfl, htc, htm, HT⟩ := u1.all
  obtain ⟨na, nc, rfl, hnc, hnm⟩ := u2.form
  obtain ⟨ca, cc, rfl, hcc, hcm⟩ := u3.form
  clear hx u1 u2 u3
  have HD := hide hd
  have HN := hide hnd
  have HA := hide hall
  clear hd hnd hall
  have HX0 := hide (BoxAt.start w q.n (.slice ta q.tail.length tc) (.slice na q.next.length nc) (.slice ca q.cap.length cc) 0)
  have Hl2 := hide hl2; clear hl2
  go_enter Tryd.func29, Tryd.ntmps29
  go_wp2
  go_loopw [8] (fun i wr => ∃ k : Nat, k ≤ l.length ∧ i = .int .i64 k ∧ BoxAt w wr q.n (.slice ta q.tail.length tc) (.slice na q.next.length nc) (.slice ca q.cap.length cc)) (fun i _ => l.length - (intOf i).toNat)
  case atStart => exact ⟨0, by omega, rfl, unhide HX0⟩
  case round =>
    clear HX0
    obtain ⟨k, hk, rfl, hbox⟩ := hrel
    obtain ⟨m0, m1, m2, m3, n0, n1, n2, n3⟩ := obj_cells hbox.b1
    have HB := hide hbox
    by_cases hlt : k < l.length
    · obtain ⟨b, o, rfl, hbl, hcx⟩ := unhide HX k hlt
      have g := hcx _ hbox.bel
      obtain ⟨y0, y1, y2⟩ := unhide HD _ (List.getElem_mem hlt)
      obtain ⟨j, hj⟩ : ∃ j : Nat, l[k] = j := ⟨l[k].toNat, by omega⟩
      rw [hj] at g y0 y1 y2
      have hjl : j < q.tail.length := by omega
      obtain ⟨b', o', rfl, hbl', hcx'⟩ := unhide HT j hjl
      have g' := hcx' _ hbox.bel
      rw [Int.toNat_natCast, Sp.getD_eq _ _ hjl] at y2
      rw [y2] at g'
      have d0 : decide ((j : Int) < 0) = false := decide_eq_false (by omega)
      have d1 : decide ((q.tail.length : Int) ≤ (j : Int)) = false := decide_eq_false (by omega)
      clear hcx hcx' hj y2 hbox
      go_wp2
      go_quiet (fail)
      go_wp2
      go_roundw
      case rel => exact ⟨k + 1, by omega, by go_num, (unhide HB).below (below_dn (Below.refl _ _) _)⟩
      case measure => simp [intOf]; omega
    · clear hbox
      go_wp2
      go_loopw [9] (fun i wr => ∃ k : Nat, k ≤ l.length ∧ i = .int .i64 k ∧ BoxAt w wr q.n (.slice ta q.tail.length tc) (.slice na q.next.length nc) (.slice ca q.cap.length cc)) (fun i _ => l.length - (intOf i).toNat)
      case atStart => exact ⟨0, by omega, rfl, unhide HB⟩
      case round =>
        clear HB m0 m1 m2 m3 n0 n1 n2 n3 hlt hk
        obtain ⟨k, hk, rfl, hbox⟩ := hrel
        have HB := hide hbox
        by_cases hlt : k < l.length
        · have HH : Hid (∀ w' : World, Below w.heap.size w w' → Calls Tryd.prog 45 #[.slice a k c, .int .i64 l[k]] w' fun e w'' => e = .returned (.bool false) ∧ w'' = w') := by
            refine hide fun w' hb => ((has_any (l.take k) (.slice a k c) l[k] w' ((unhide HI w' hb).take k hk) (by rw [List.length_take]; omega)).mono ?_)
            rintro e w'' ⟨rfl, rfl⟩
            have h := Sp.not_mem_take l (unhide HN) k hlt
            rw [Sp.getD_eq _ _ hlt] at h
            exact ⟨by rw [decide_eq_false h], rfl⟩
          obtain ⟨b, o, rfl, hbl, hcx⟩ := unhide HX k hlt
          have g := hcx _ hbox.bel
          have HC := hide (fun n => unhide HH _ (below_dn hbox.bel n))
          have kc : (k : Int) ≤ c := by omega
          clear hcx hbox HH
          generalize l[k] = y at *
          go_wp2
          go_quiet ((go_at_call 45; exact Calls.quiet_of_same (unhide HC _)))
          go_wp2
          go_roundw
          case rel => exact ⟨k + 1, by omega, by go_num, (unhide HB).below (below_dn (Below.refl _ _) _)⟩
          case measure => simp [intOf]; omega
        · clear hbox
          go_wp2
          go_loopw [10] (fun i wr => ∃ k : Nat, k ≤ q.tail.length ∧ i = .int .i64 k ∧ BoxAt w wr q.n (.slice ta q.tail.length tc) (.slice na q.next.length nc) (.slice ca q.cap.length cc)) (fun i _ => q.tail.length - (intOf i).toNat)
          case atStart => exact ⟨0, by omega, rfl, unhide HB⟩
          case round =>
            clear HB hlt hk
            obtain ⟨k, hk, rfl, hbox⟩ := hrel
            have HB := hide hbox
            obtain ⟨m0, m1, m2, m3, n0, n1, n2, n3⟩ := obj_cells hbox.b1
            by_cases hlt : k < q.tail.length
            · obtain ⟨b', o', rfl, hbl', hcx'⟩ := unhide HT k hlt
              have g' := hcx' _ hbox.bel
              by_cases hz : q.tail[k] = v
              · have HC : Hid (Calls Tryd.prog 45 #[.slice a l.length c, .int .i64 k] wr fun e w'' => e = .returned (.bool true) ∧ w'' = wr) := by
                  refine hide ((has_any l (.slice a l.length c) k wr (unhide HI wr hbox.bel) (by omega)).mono ?_)
                  rintro e w'' ⟨rfl, rfl⟩
                  exact ⟨by rw [decide_eq_true (unhide HA k hlt (by rw [Sp.getD_eq _ _ hlt]; exact hz))], rfl⟩
                rw [hz] at g'
                clear hcx' hbox hz
                go_wp2_with fail
                refine (unhide HC).mono ?_
                rintro e w1 ⟨rfl, rfl⟩
                go_wp2
                go_roundw
                case rel => exact ⟨k + 1, by omega, by go_num, unhide HB⟩
                case measure => simp [intOf]; omega
              · generalize q.tail[k] = z at *
                have hz' : (z == v) = false := beq_eq_false_iff_ne.2 hz
                clear hcx' hbox
                go_wp2
                go_roundw
                case rel => exact ⟨k + 1, by omega, by go_num, unhide HB⟩
                case measure => simp [intOf]; omega
            · have hs := hbox.size
              have k2 : ∀ ob, (wr.alloc ob).cell? ⟨w.heap.size, 2, none⟩ = some (.slice na q.next.length nc) := fun ob => (obj_cells ((unhide HB).below ((Below.refl _ _).alloc (Nat.le_refl _) ob)).b1).2.2.1
              go_wp2_with (at_builtin; refine wpList_app (w := wr.alloc (.cells #[] 3)) rfl _ _ rfl wr.heap.size _ _ [] q.next rfl rfl (own_lit wr _ _ 0 [] rfl rfl (Nat.le_refl _) (by simp)) (unhide U2 _ ((unhide HB).below ((Below.refl _ _).alloc (Nat.le_refl _) _)).bel) q.next.length (by simp) (by have := unhide Hl2; omega) (by simp) ?_)
              intro a9 c9 w9 hown9 hb9 hgr9
              have hb9' : Below wr.heap.size wr w9 := ((Below.refl _ _).alloc (Nat.le_refl _) _).trans hb9
              have hbox9 := (unhide HB).below hb9'
              clear hgr9 hb9 m0 m1 m2 m3 n0 n1 n2 n3 k2 hbox
              obtain ⟨m0, m1, m2, m3, n0, n1, n2, n3⟩ := obj_cells hbox9.b1
              have HO := hide (own_store hown9 (by omega : w.heap.size < wr.heap.size) 2 (.slice a9 q.next.length c9))
              have HB2 := hide (hbox9.setN (.slice a9 q.next.length c9))
              obtain ⟨B, hB⟩ : ∃ B, B = wr.heap.size := ⟨_, rfl⟩
              rw [← hB] at HO hs
              clear hown9 hbox9 hb9' HB hB
              go_wp2
              clear m0 m1 m2 m3 n0 n1 n2 n3
              go_loopw [11] (fun i wr => ∃ k : Nat, k ≤ l.length ∧ i = .int .i64 k ∧ OwnI wr B (.slice a9 q.next.length c9) (Sp.layTo q.next l k) ∧ BoxAt w wr q.n (.slice ta q.tail.length tc) (.slice a9 q.next.length c9) (.slice ca q.cap.length cc)) (fun i _ => l.length - (intOf i).toNat)
              case atStart => exact ⟨0, by omega, rfl, unhide HO, unhide HB2⟩
              case round =>
                clear HO HB2 hlt hk
                obtain ⟨k, hk, rfl, hown, hbox⟩ := hrel
                have HB := hide hbox
                have HO := hide hown
                obtain ⟨m0, m1, m2, m3, n0, n1, n2, n3⟩ := obj_cells hbox.b1
                by_cases hlt : k < l.length
                · obtain ⟨y0, y1, -⟩ := unhide HD _ (List.getElem_mem hlt)
                  obtain ⟨j, hj⟩ : ∃ j : Nat, l[k] = j := ⟨l[k].toNat, by omega⟩
                  have hjl : j < q.next.length := by have := unhide Hl2; omega
                  obtain ⟨gn, capn, e1, hgb, hgl, -⟩ := turn_row hown (Sp.layTo_len _ _ _) (by omega)
                  injection e1 with e1 _ e1c
                  subst e1 e1c
                  have r1 := own_cell hown j (by rw [Sp.layTo_len]; exact hjl)
                  have r2 := own_frozen hown j
                  obtain ⟨b, o, rfl, hbl, hcx⟩ := unhide HX k hlt
                  have s1 := hcx _ hbox.bel
                  rw [hj] at s1
                  have hmod : (k + 1) % l.length < l.length := Nat.mod_lt _ (by omega)
                  have s2 : wr.cell? ⟨b, o + (k + 1) % l.length, none⟩ = some (.int .i64 l[(k + 1) % l.length]) := by
                    obtain ⟨b', o', e, _, h'⟩ := unhide HX _ hmod
                    injection e with e
                    injection e with e1 e2
                    subst e1 e2
                    exact h' _ hbox.bel
                  have HY : Hid (Sp.layTo q.next l (k + 1) = (Sp.layTo q.next l k).set j l[(k + 1) % l.length]) := by
                    refine hide ?_
                    rw [Sp.layTo, Sp.getD_eq _ _ hlt, Sp.getD_eq _ _ hmod, hj, Int.toNat_natCast]
                  have hjl' : (j : Int) < q.next.length := by omega
                  clear hcx hj y0 y1 hown hbox
                  generalize (Sp.layTo q.next l k)[j]'_ = z at *
                  generalize l[(k + 1) % l.length] = y at *
                  have ht1 : ((k : Int) + 1).tmod l.length = ((k + 1) % l.length : Nat) := by
                    rw [Int.tmod_eq_emod_of_nonneg (by omega)]; simp
                  have ht2 : ((k : Int) + 1) % l.length = ((k + 1) % l.length : Nat) := by simp
                  generalize (k + 1) % l.length = i at *
                  go_wp2
                  go_region
                  go_wp2
                  go_roundw
                  case rel =>
                    refine ⟨k + 1, by omega, by go_num, ?_, ((unhide HB).other gn j (by omega) _).drew⟩
                    rw [unhide HY]
                    exact own_drew (own_setCell (unhide HO) j y)
                  case measure => simp [intOf]; omega
                · obtain rfl : k = l.length := by omega
                  obtain ⟨r0, r1, r2, r3, s0, s1, s2, s3⟩ := obj_cells hbox.b2
                  have hsw := hbox.size
                  clear hown hbox
                  go_wp2
                  have hfin := box_done (unhide HB) q.n (.slice ta q.tail.length tc) (.slice a9 q.next.length c9) (.slice ca q.cap.length cc)
                  have HN' := four_own (unhide HO) (show w.heap.size + 1 < B by omega) q.n (.slice ta q.tail.length tc) (.slice a9 q.next.length c9) (.slice ca q.cap.length cc)
                  have hbl' := four_below (unhide HB).bel w.heap.size rfl q.n (.slice ta q.tail.length tc) (.slice a9 q.next.length c9) (.slice ca q.cap.length cc)
                  clear r0 r1 r2 r3 s0 s1 s2 s3 m0 m1 m2 m3 n0 n1 n2 n3 HB HO
                  generalize (((wr.setCell ⟨w.heap.size + 1, 0, none⟩ (.int .i64 q.n)).setCell ⟨w.heap.size + 1, 1, none⟩ (.slice ta q.tail.length tc)).setCell ⟨w.heap.size + 1, 2, none⟩ (.slice a9 q.next.length c9)).setCell ⟨w.heap.size + 1, 3, none⟩ (.slice ca q.cap.length cc) = WF at *
                  obtain ⟨r0, r1, r2, r3, -, -, -, -⟩ := obj_cells hfin
                  exact bodyPost_ret (v := .tuple #[.agg #[.int .i64 q.n, .slice ta q.tail.length tc, .slice a9 q.next.length c9, .slice ca q.cap.length cc], .int .i64 0]) (by simp [results, Tryd.results29, go_sem, r0, r1, r2, r3]) rfl ⟨_, rfl, own_base HN' (by omega), hbl'⟩
end Go.Proofs.YtkmcfjkfoafkoaaDoor
