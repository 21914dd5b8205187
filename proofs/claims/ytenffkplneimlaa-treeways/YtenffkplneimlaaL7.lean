/- What the proof needs, part 7. -/
import Derived.Test.YtenffkplneimlaaL6
/- The reference's Span (P401). -/
namespace Go.Proofs.Ytenffkplneimlaa
open Go Go.RowKit

/-- A row of the call's own stays where its block does. -/
theorem own_same {w w' : World} {B e size n g N c : Nat} {xs : List Value} (h : w.ownsRow B e size (.slice (some ⟨g, 0, none⟩) N c) n xs) (e1 : w'.heap[g]? = w.heap[g]?) : w'.ownsRow B e size (.slice (some ⟨g, 0, none⟩) N c) n xs := by
  obtain ⟨h1, h2 | ⟨g', cap, cur, e2, hg, hh, r⟩⟩ := h
  · exact ⟨h1, .inl h2⟩
  · injection e2 with e3 e4 e5
    injection e3 with e3
    injection e3 with e3
    subst e3
    exact ⟨h1, .inr ⟨g, cap, cur, by rw [e4, e5], hg, e1.trans hh, r⟩⟩
theorem cell_set_neF {w : World} {b j b' j' : Nat} {v : Value} (h : b ≠ b' ∨ j ≠ j') : (w.setCell ⟨b, j, none⟩ v).cell? ⟨b', j', none⟩ = w.cell? ⟨b', j', none⟩ := by
  apply World.cell?_setCell_other
  intro e
  injection e with e1 e2
  omega
/-- What Span goes over. -/
structure SpW (W1 wr : World) (B N G2 : Nat) (fl up : List Int) (qa : Option Addr) (qc : Nat) : Prop where
  bel : Below (B + 1) W1 wr
  up : OwnI wr (B + 1) (.slice (some ⟨B + 1, 0, none⟩) N N) up
  fd : OwnB wr (B + 2) (.slice (some ⟨G2, 0, none⟩) N N) (Sp.metL N fl)
  q : OwnI wr (G2 + 1) (.slice qa fl.length qc) fl
  sz : G2 < wr.heap.size
theorem SpW.below {W1 wr w' : World} {B N G2 : Nat} {fl up : List Int} {qa : Option Addr} {qc : Nat} (h : SpW W1 wr B N G2 fl up qa qc) (hB : B + 1 < G2) (hb : Below wr.heap.size wr w') : SpW W1 w' B N G2 fl up qa qc :=
  ⟨h.bel.trans (hb.mono (by have := h.sz; omega)), own_below h.up hb, own_below h.fd hb, own_below h.q hb, Nat.lt_of_lt_of_le h.sz hb.size⟩
set_option maxRecDepth 100000 in
set_option maxHeartbeats 8000000 in
theorem span2_any (q : Sp.Net) (r N : Nat) (v tv nv cv : Value) (w : World) (hv : NetI w v q tv nv cv) (hev : q.tail.length % 2 = 0) (h240 : q.tail.length ≤ 240) (hN : q.n = (N : Int)) (hN2 : N ≤ 300) (hr : r < N) (hT : ∀ x ∈ q.tail, 0 ≤ x ∧ x < (N : Int)) :
    Calls Try.prog 14 #[v, .int .i64 (r : Int)] w fun e w' => ∃ lv, e = .returned lv ∧ OwnI w' w.heap.size lv (Sp.span q (r : Int)) ∧ Below w.heap.size w w' := by
  obtain ⟨iB, hiB, hB0, hB1, hB2⟩ := info_parts infoB
  have hv' := hv
  obtain ⟨rfl, h1, h2, h3⟩ := hv
  obtain ⟨ta, tc, rfl, -, -, HT⟩ := h1.allD
  obtain ⟨na, nc, rfl, -, -⟩ := h2.form
  obtain ⟨ca, cc, rfl, -, -⟩ := h3.form
  clear h1 h2 h3
  rw [hN] at hv' ⊢
  have HBX := hide (box_new w (N : Int) (.slice ta q.tail.length tc) (.slice na q.next.length nc) (.slice ca q.cap.length cc))
  obtain ⟨W1, hW1⟩ : ∃ W1, W1 = w.alloc (.cells #[.int .i64 (N : Int), .slice ta q.tail.length tc, .slice na q.next.length nc, .slice ca q.cap.length cc] 25) := ⟨_, rfl⟩
  rw [← hW1] at HBX
  have hb1 : Below w.heap.size w W1 := by rw [hW1]; exact (Below.refl _ w).alloc (Nat.le_refl _) _
  have hs1 : W1.heap.size = w.heap.size + 1 := by rw [hW1]; simp
  have HW : Hid (∀ w', Below (w.heap.size + 1) W1 w' → Below w.heap.size w w') := hide fun w' hb => hb1.trans (hb.mono (by omega))
  have HHd := hide (fun (y : Nat) w' (hy : y < q.tail.length) (hb : Below (w.heap.size + 1) W1 w') => head2_any q _ _ _ _ y w' (show NetI w' (.agg #[.int .i64 (N : Int), .slice ta q.tail.length tc, .slice na q.next.length nc, .slice ca q.cap.length cc]) q _ _ _ from ⟨by rw [hN], hv'.tail.below (unhide HW w' hb), hv'.next.below (unhide HW w' hb), hv'.cap.below (unhide HW w' hb)⟩) hy hev h240)
  have HTC : Hid (∀ k, k < q.tail.length → ∃ b o, ta = some ⟨b, o, none⟩ ∧ ∀ w', Below (w.heap.size + 1) W1 w' → w'.cell? ⟨b, o + k, none⟩ = some (.int .i64 (q.tail.getD k 0))) := hide fun k hk => by
    obtain ⟨b, o, e, -, h⟩ := unhide HT k hk
    exact ⟨b, o, e, fun w' hb => h w' (unhide HW w' hb)⟩
  have HTb := hide hT
  have HO := hide (fun (y : Nat) (hy : y < q.tail.length) => oth_lt hy hev)
  have HSp : Hid (Sp.span q (r : Int) = (Sp.spanGo q.tail (r : Int) N 0 [(r : Int)] (List.replicate N (-1))).2) := hide (by unfold Sp.span; rw [hN, Int.toNat_natCast])
  have HRow := hide (fun (u : Int) c d fl up hd hu h => Sp.SpSt.row (T := q.tail) (root := (r : Int)) (N := N) hT hev (u := u) c d fl up hd hu h)
  have HFind := hide (fun (fl up : List Int) (h : Sp.SpSt q.tail (r : Int) N fl up) (d : Nat) hd hu hn => h.find hT hev (d := d) hd hu hn)
  have HFst := hide (Sp.SpSt.first q.tail (root := (r : Int)) (N := N) (by omega) (by omega))
  obtain ⟨P, hP⟩ : ∃ P : Ending → World → Prop, P = fun e w' => ∃ lv, e = .returned lv ∧ OwnI w' w.heap.size lv (Sp.span q (r : Int)) ∧ Below w.heap.size w w' := ⟨_, rfl⟩
  rw [← hP]
  have HP := hide hP
  have HS1 := hide hs1
  clear hP hb1 hT hev hv' HT hs1 hN
  generalize hT0 : q.tail = T at *
  clear hT0
  subst hW1
  go_enter Try.func14, Try.ntmps14
  go_wp2_with (at_make; refine wpList_mk rfl _ _ rfl (w.heap.size + 1) N rfl rfl (by omega) (by simp) ?_)
  intro w5 hown5 hb5 hlt5
  generalize w.alloc (.cells #[.int .i64 (N : Int), .slice ta T.length tc, .slice na q.next.length nc, .slice ca q.cap.length cc] 25) = W1 at *
  have hsz5 : w.heap.size + 2 ≤ w5.heap.size := by have := unhide HS1; omega
  have H5 := hide (And.intro hb5 hown5)
  obtain ⟨x0, x1, x2, x3, -⟩ := unhide HBX w5 hb5
  clear hb5 hown5 hlt5
  go_wp2_with (at_make; refine wpList_make_full _ rfl _ _ 48 rfl (w.heap.size + 2) 4 iB (.bool false) 1 Try.underlying48 hiB hB0 hB1 .i64 .i64 _ _ N rfl rfl rfl rfl (by rw [hB2]; omega) (by unfold maxLen; omega) hsz5 ?_)
  intro w6 hown6 hg6
  have hfd6 : OwnB w6 (w.heap.size + 2) (.slice (some ⟨w5.heap.size, 0, none⟩) N N) (Sp.metL N []) := by
    unfold OwnB
    rw [Sp.metL_nil, List.length_replicate, ← made_bools']
    exact hown6
  have hb6 : Below w5.heap.size w5 w6 := (Below.refl _ _).grown hg6 (Nat.le_refl _) (by simp)
  obtain ⟨G2, hG2⟩ : ∃ G2, w5.heap.size = G2 := ⟨_, rfl⟩
  rw [hG2] at hfd6 hb6 hsz5 ⊢
  have hBG : w.heap.size + 1 < G2 := by omega
  have H6 : Hid (Below (w.heap.size + 1) W1 w6 ∧ OwnI w6 (w.heap.size + 1) (.slice (some ⟨w.heap.size + 1, 0, none⟩) N N) (List.replicate N 0) ∧ OwnB w6 (w.heap.size + 2) (.slice (some ⟨G2, 0, none⟩) N N) (Sp.metL N []) ∧ G2 < w6.heap.size) := hide ⟨(unhide H5).1.trans (hb6.mono (by omega)), own_below (unhide H5).2 (by rw [hG2]; exact hb6), hfd6, (hfd6.lt G2 rfl).2⟩
  clear hown6 hg6 hfd6 hb6 hG2 H5 x0 x1 x2 x3
  go_wp2
  go_loopg [7] N (fun g s7 wr => ∃ (k : Nat) (L : List Int), k + g = N ∧ s7 = .int .i64 (k : Int) ∧ L.length = N ∧ Hid (Below (w.heap.size + 1) W1 wr ∧ OwnI wr (w.heap.size + 1) (.slice (some ⟨w.heap.size + 1, 0, none⟩) N N) L ∧ OwnB wr (w.heap.size + 2) (.slice (some ⟨G2, 0, none⟩) N N) (Sp.metL N []) ∧ G2 < wr.heap.size) ∧ Hid (∀ j, j < k → L.getD j 0 = -1))
  case atStart => exact ⟨0, _, by omega, rfl, List.length_replicate, H6, hide fun j hj => by omega⟩
  case round =>
    clear H6
    obtain ⟨k, L, hkg, rfl, hL, HI, HK⟩ := hrel
    obtain ⟨x0, x1, x2, x3, -⟩ := unhide HBX wr (unhide HI).1
    by_cases hk : k < N
    · have hkI : (k : Int) < (N : Int) := by omega
      obtain ⟨g', rfl⟩ : ∃ g', gk = g' + 1 := ⟨gk - 1, by omega⟩
      have c0 : wr.cell? ⟨w.heap.size + 1, k, none⟩ = some (.int .i64 (L.getD k 0)) := by
        have := (unhide HI).2.1
        unfold OwnI at this
        rw [hL] at this
        rw [World.ownsRow.cellAt this k (by omega), List.getElem?_map, List.getD_eq_getElem?_getD, List.getElem?_eq_getElem (by omega)]
        rfl
      have f0 : wr.frozen? ⟨w.heap.size + 1, k, none⟩ = false := by
        have := (unhide HI).2.1
        unfold OwnI at this
        rw [hL] at this
        exact World.ownsRow.frozenAt this k
      have HF : Hid (Below (w.heap.size + 1) W1 (wr.setCell ⟨w.heap.size + 1, k, none⟩ (.int .i64 (-1))) ∧ OwnI (wr.setCell ⟨w.heap.size + 1, k, none⟩ (.int .i64 (-1))) (w.heap.size + 1) (.slice (some ⟨w.heap.size + 1, 0, none⟩) N N) (L.set k (-1)) ∧ OwnB (wr.setCell ⟨w.heap.size + 1, k, none⟩ (.int .i64 (-1))) (w.heap.size + 2) (.slice (some ⟨G2, 0, none⟩) N N) (Sp.metL N []) ∧ G2 < (wr.setCell ⟨w.heap.size + 1, k, none⟩ (.int .i64 (-1))).heap.size) := hide ⟨(unhide HI).1.setCell (p := ⟨w.heap.size + 1, k, none⟩) (Nat.le_refl _) _, own_setCell (unhide HI).2.1 k (-1), own_same (unhide HI).2.2.1 (Below.heap_setCell _ _ _ _ (by show G2 ≠ w.heap.size + 1; omega)), by rw [World.size_setCell]; exact (unhide HI).2.2.2⟩
      have HK2 : Hid (∀ j, j < k + 1 → (L.set k (-1)).getD j 0 = -1) := hide fun j hj => by
        rw [getD_set1 _ _ _ _ (by omega)]
        split
        · rfl
        · exact unhide HK j (by omega)
      clear HI HK
      generalize L.getD k 0 = z at *
      go_wp2
      go_roundg g'
      case rel => exact ⟨k + 1, L.set k (-1), by omega, by go_num, by rw [List.length_set]; exact hL, HF, HK2⟩
      case measure => omega
    · have hkI : ¬ (k : Int) < (N : Int) := by omega
      have hLe : L = List.replicate N (-1) := by
        apply List.ext_getElem
        · rw [hL, List.length_replicate]
        · intro j h1 h2
          rw [List.getElem_replicate]
          have := unhide HK j (by omega)
          rw [List.getD_eq_getElem?_getD, List.getElem?_eq_getElem h1] at this
          exact this
      subst hLe
      clear HK hL
      have hrI : (r : Int) < (N : Int) := by omega
      have hal := (Below.refl wr.heap.size wr).alloc (Nat.le_refl _) (.cells #[.int .i64 (r : Int)] 3)
      have hfd := own_below (unhide HI).2.2.1 hal
      have hup := own_below (unhide HI).2.1 hal
      have c0 := owns_bool (n := N) hfd (Sp.metL_len _ _) r hr
      have f0 : (wr.alloc (.cells #[.int .i64 (r : Int)] 3)).frozen? ⟨G2, r, none⟩ = false := by
        have := hfd
        unfold OwnB at this
        rw [Sp.metL_len] at this
        exact World.ownsRow.frozenAt this r
      have hgsz := (unhide HI).2.2.2
      have H7 : Hid (SpW W1 ((wr.alloc (.cells #[.int .i64 (r : Int)] 3)).setCell ⟨G2, r, none⟩ (.bool true)) w.heap.size N G2 [(r : Int)] (List.replicate N (-1)) (some ⟨wr.heap.size, 0, none⟩) 1 ∧ Sp.SpSt T (r : Int) N [(r : Int)] (List.replicate N (-1))) := hide ⟨⟨((unhide HI).1.alloc (by omega) _).setCell (p := ⟨G2, r, none⟩) (by show w.heap.size + 1 ≤ G2; omega) _, own_same hup (Below.heap_setCell _ _ _ _ (by show w.heap.size + 1 ≠ G2; omega)), by
          have := hfd
          unfold OwnB at this ⊢
          rw [Sp.metL_len] at this ⊢
          have h3 := (World.ownsRow.stored this r (.bool true)).1
          rw [show [(r : Int)] = [] ++ [(r : Int)] from rfl, ← Sp.metL_set, List.map_set]
          exact h3, own_same (own_lit wr (G2 + 1) wr.heap.size 1 [(r : Int)] rfl rfl (by omega) (by simp)) (Below.heap_setCell _ _ _ _ (by show wr.heap.size ≠ G2; omega)), by
          rw [World.size_setCell]; exact Nat.lt_of_lt_of_le hgsz hal.size⟩, unhide HFst⟩
      generalize hb0 : (Sp.metL N [])[r]'(by rw [Sp.metL_len]; exact hr) = b0 at *
      clear HI hal hfd hup HFst hb0
      go_wp2
      have hcomm : (wr.alloc (.cells #[.int .i64 (r : Int)] 3)).setCell ⟨G2, r, none⟩ (.bool true) = (wr.setCell ⟨G2, r, none⟩ (.bool true)).alloc (.cells #[.int .i64 (r : Int)] 3) := by go_simp
      rw [hcomm] at H7
      clear hcomm
      generalize (wr.setCell ⟨G2, r, none⟩ (.bool true)).alloc (.cells #[.int .i64 (r : Int)] 3) = W8 at *
      obtain ⟨SP, hSP⟩ : ∃ SP, SP = Sp.spanGo T (r : Int) N 0 [(r : Int)] (List.replicate N (-1)) := ⟨_, rfl⟩
      rw [← hSP] at HSp
      have HSP := hide hSP
      clear hSP x0 x1 x2 x3 c0 f0
      go_loopg [8, 9] N (fun g s8 s9 wr => ∃ (i : Nat) (fl up : List Int) (qa : Option Addr) (qc : Nat), i + g = N ∧ s8 = .slice qa fl.length qc ∧ s9 = .int .i64 (i : Int) ∧ Hid (SpW W1 wr w.heap.size N G2 fl up qa qc ∧ Sp.SpSt T (r : Int) N fl up ∧ SP = Sp.spanGo T (r : Int) g i fl up))
      case atStart => exact ⟨0, [(r : Int)], _, _, _, by omega, rfl, rfl, hide ⟨(unhide H7).1, (unhide H7).2, unhide HSP⟩⟩
      case round =>
        clear H7 HSP hgsz hkI hk hkg
        obtain ⟨i, fl, up, qa, qc, hig, rfl, rfl, HI⟩ := hrel
        have hfl := (unhide HI).2.1.le
        by_cases hi : i < fl.length
        · have hiI : (i : Int) < (fl.length : Int) := by omega
          obtain ⟨g', rfl⟩ : ∃ g', gk = g' + 1 := ⟨gk - 1, by omega⟩
          have HR : Hid (SP = Sp.spanGo T (r : Int) g' (i + 1) (Sp.rowGo T (r : Int) (fl.getD i 0) T.length 0 fl up).1 (Sp.rowGo T (r : Int) (fl.getD i 0) T.length 0 fl up).2) := hide (by rw [(unhide HI).2.2, Sp.spanGo, if_pos hi])
          obtain ⟨u, hu⟩ : ∃ u, fl.getD i 0 = u := ⟨_, rfl⟩
          rw [hu] at HR
          have HI3 : Hid (SpW W1 _ w.heap.size N G2 fl up qa qc ∧ Sp.SpSt T (r : Int) N fl up ∧ Sp.rowGo T (r : Int) u T.length 0 fl up = Sp.rowGo T (r : Int) u T.length 0 fl up ∧ fl.getD i 0 = u ∧ i < fl.length) := hide ⟨(unhide HI).1, (unhide HI).2.1, rfl, hu, hi⟩
          obtain ⟨RW, hRW⟩ : ∃ RW, RW = Sp.rowGo T (r : Int) u T.length 0 fl up := ⟨_, rfl⟩
          rw [← hRW] at HR
          have HRW := hide hRW
          clear HI hu hRW
          go_wp2
          go_loopg [8, 10] T.length (fun c s8 s10 wr => ∃ (d : Nat) (fl up : List Int) (qa : Option Addr) (qc : Nat), d + c = T.length ∧ s8 = .slice qa fl.length qc ∧ s10 = .int .i64 (d : Int) ∧ Hid (SpW W1 wr w.heap.size N G2 fl up qa qc ∧ Sp.SpSt T (r : Int) N fl up ∧ RW = Sp.rowGo T (r : Int) u c d fl up ∧ fl.getD i 0 = u ∧ i < fl.length))
          case atStart => exact ⟨0, fl, up, qa, qc, by omega, rfl, rfl, hide ⟨(unhide HI3).1, (unhide HI3).2.1, unhide HRW, (unhide HI3).2.2.2.1, (unhide HI3).2.2.2.2⟩⟩
          case round =>
            clear HI3 HRW hiI hi hfl
            obtain ⟨d, fl2, up2, qa2, qc2, hdc, rfl, rfl, HI⟩ := hrel
            obtain ⟨x0, x1, x2, x3, -⟩ := unhide HBX _ (unhide HI).1.bel
            by_cases hd : d < T.length
            · have hdI : (d : Int) < (T.length : Int) := by omega
              obtain ⟨c', rfl⟩ : ∃ c', gk = c' + 1 := ⟨gk - 1, by omega⟩
              have HRc : Hid (RW = if T.getD d 0 = u then (if T.getD (Sp.oth d) 0 = (r : Int) ∨ up2.getD (T.getD (Sp.oth d) 0).toNat 0 ≠ -1 then Sp.rowGo T (r : Int) u c' (d + 1) fl2 up2 else Sp.rowGo T (r : Int) u c' (d + 1) (fl2 ++ [T.getD (Sp.oth d) 0]) (up2.set (T.getD (Sp.oth d) 0).toNat ((Sp.oth d : Nat) : Int))) else Sp.rowGo T (r : Int) u c' (d + 1) fl2 up2) := hide (by rw [(unhide HI).2.2.1, Sp.rowGo])
              have hyb := unhide HTb _ (Sp.getD_mem (unhide HO d hd))
              have HH := hide (unhide HHd d _ hd (unhide HI).1.bel)
              have HFd := hide (fun hu hn => unhide HFind fl2 up2 (unhide HI).2.1 d hd hu hn)
              obtain ⟨y, hy⟩ : ∃ y : Nat, T.getD (Sp.oth d) 0 = (y : Int) := ⟨(T.getD (Sp.oth d) 0).toNat, by omega⟩
              rw [hy] at hyb HH HRc HFd
              rw [Int.toNat_natCast] at HRc HFd
              have hyN : y < N := by omega
              have hyI : (y : Int) < (N : Int) := by omega
              have hX := xor_oth ⟨d, by omega⟩
              simp only at hX
              have HMem := hide ((unhide HI).2.1.mem y hyN)
              have hdl : d < T.length := hd
              clear hy hyb
              go_wp2_with fail
              go_at_call 23
              refine (unhide HH).mono ?_
              rintro e w8 ⟨rfl, hb8⟩
              have hsp := ((unhide HI).1.below hBG hb8).below hBG (Below.refl _ w8).drew
              have hil := (unhide HI).2.2.2.2
              have hfu := (unhide HI).2.2.2.1
              have HSt := hide (unhide HI).2.1
              obtain ⟨g3, cap, hqe, hg3⟩ : ∃ g3 cap, Value.slice qa2 fl2.length qc2 = .slice (some ⟨g3, 0, none⟩) fl2.length cap ∧ G2 + 1 ≤ g3 := by
                rcases hsp.q.2 with ⟨-, h0⟩ | ⟨g3, cap, cur, e, hg, -⟩
                · omega
                · exact ⟨g3, cap, e, hg⟩
              injection hqe with hqe1 _ hqe2
              subst hqe1 hqe2
              have cq : w8.drew.cell? ⟨g3, i, none⟩ = some (.int .i64 u) := by
                have := hsp.q
                rw [World.ownsRow.cellAt this i (by omega), List.getElem?_map, List.getElem?_eq_getElem hil, ← hfu, List.getD_eq_getElem?_getD, List.getElem?_eq_getElem hil]
                rfl
              obtain ⟨tb, tt, rfl, ht⟩ := unhide HTC d hd
              have ct := ht _ hsp.bel
              have cf := owns_bool (n := N) hsp.fd (Sp.metL_len _ _) y hyN
              rw [Sp.metL_get] at cf
              have ff : w8.drew.frozen? ⟨G2, y, none⟩ = false := by
                have := hsp.fd
                unfold OwnB at this
                rw [Sp.metL_len] at this
                exact World.ownsRow.frozenAt this y
              have hul : up2.length = N := (unhide HSt).len
              have cu : w8.drew.cell? ⟨w.heap.size + 1, y, none⟩ = some (.int .i64 (up2.getD y 0)) := by
                have := hsp.up
                unfold OwnI at this
                rw [hul] at this
                rw [World.ownsRow.cellAt this y (by omega), List.getElem?_map, List.getD_eq_getElem?_getD, List.getElem?_eq_getElem (by omega)]
                rfl
              have fu : w8.drew.frozen? ⟨w.heap.size + 1, y, none⟩ = false := by
                have := hsp.up
                unfold OwnI at this
                rw [hul] at this
                exact World.ownsRow.frozenAt this y
              obtain ⟨z0, z1, z2, z3, -⟩ := unhide HBX _ hsp.bel
              have HS8 := hide hsp
              have hszz := hsp.sz
              have hiI2 : (i : Int) < (fl2.length : Int) := by omega
              clear hsp ht HI HH x0 x1 x2 x3 hb8
              go_upto_region 16 with fail
              generalize hW9 : w8.drew = W9 at *
              generalize T.getD d 0 = t at *
              have HFU := hide hfu
              have HIL := hide hil
              clear hfu hil
              by_cases htu : t = u
              · subst htu
                rw [if_pos rfl] at HRc
                by_cases hm : (y : Int) ∈ fl2
                · rw [decide_eq_true hm] at cf
                  have HR2 : Hid (RW = Sp.rowGo T (r : Int) t c' (d + 1) fl2 up2) := hide (by rw [unhide HRc, if_pos ((unhide HMem).1 hm)])
                  clear HRc HFd
                  refine wp_region_G (fun w' => w'.cell? ⟨w.heap.size, 1, none⟩ = some (.slice (some ⟨tb, tt, none⟩) T.length tc) ∧ w'.cell? ⟨tb, tt + d, none⟩ = some (.int .i64 t) ∧ w'.cell? ⟨g3, i, none⟩ = some (.int .i64 t) ∧ w'.cell? ⟨G2, y, none⟩ = some (.bool true)) (fun _ => false) (by kernel_rfl) (by rw [hW9]; exact ⟨z1, ct, cq, cf⟩) (fun hHeld => ?_)
                  rw [hW9] at hHeld ⊢
                  refine wpAnyG_take (v := ?_) 0 (by rfl) (by kernel_rfl) (by kernel_rfl) (by kernel_rfl) (by kernel_rfl) (fun _ _ _ h => h) (Or.inl ⟨by rfl, ?_⟩) (by assumption) ?_
                  rotate_left
                  · (intro w' hSw; (try dsimp only at hSw); (try simp only [List.getElem_toArray, List.getElem_cons_zero]); go_simp; try (with_reducible rfl))
                  simp only [Act.put, List.getElem_toArray, List.getElem_cons_zero, List.setIfInBounds_toArray, List.set_cons_zero, List.set_cons_succ]
                  refine wpAnyG_take (v := ?_) 1 (by rfl) (by kernel_rfl) (by kernel_rfl) (by kernel_rfl) (by kernel_rfl) (fun _ _ _ h => h) (Or.inl ⟨by rfl, ?_⟩) (by assumption) ?_
                  rotate_left
                  · (intro w' hSw; (try dsimp only at hSw); (try simp only [List.getElem_toArray, List.getElem_cons_succ, List.getElem_cons_zero]); go_simp; try (with_reducible rfl))
                  simp only [Act.put, List.getElem_toArray, List.getElem_cons_succ, List.getElem_cons_zero, List.setIfInBounds_toArray, List.set_cons_zero, List.set_cons_succ]
                  refine wpAnyG_take (v := ?_) 2 (by rfl) (by kernel_rfl) (by kernel_rfl) (by kernel_rfl) (by kernel_rfl) (fun _ _ _ h => h) (Or.inl ⟨by rfl, ?_⟩) (by assumption) ?_
                  rotate_left
                  · (intro w' hSw; (try dsimp only at hSw); (try simp only [List.getElem_toArray, List.getElem_cons_succ, List.getElem_cons_zero]); go_simp; try (with_reducible rfl))
                  simp only [Act.put, List.getElem_toArray, List.getElem_cons_succ, List.getElem_cons_zero, List.setIfInBounds_toArray, List.set_cons_zero, List.set_cons_succ]
                  refine wpAnyG_take (v := ?_) 3 (by rfl) (by kernel_rfl) (by kernel_rfl) (by kernel_rfl) (by kernel_rfl) (fun _ _ _ h => h) (Or.inl ⟨by rfl, ?_⟩) (by assumption) ?_
                  rotate_left
                  · (intro w' hSw; (try dsimp only at hSw); (try simp only [List.getElem_toArray, List.getElem_cons_succ, List.getElem_cons_zero]); go_simp; try (with_reducible rfl))
                  simp only [Act.put, List.getElem_toArray, List.getElem_cons_succ, List.getElem_cons_zero, List.setIfInBounds_toArray, List.set_cons_zero, List.set_cons_succ]
                  refine wpAnyG_take (v := ?_) 4 (by rfl) (by kernel_rfl) (by kernel_rfl) (by kernel_rfl) (by kernel_rfl) (fun _ _ _ h => h) (Or.inl ⟨by rfl, ?_⟩) (by assumption) ?_
                  rotate_left
                  · (intro w' hSw; (try dsimp only at hSw); (try simp only [List.getElem_toArray, List.getElem_cons_succ, List.getElem_cons_zero]); go_simp; try (with_reducible rfl))
                  simp only [Act.put, List.getElem_toArray, List.getElem_cons_succ, List.getElem_cons_zero, List.setIfInBounds_toArray, List.set_cons_zero, List.set_cons_succ]
                  refine wpAnyG_take (v := ?_) 5 (by rfl) (by kernel_rfl) (by kernel_rfl) (by kernel_rfl) (by kernel_rfl) (fun _ _ _ h => h) (Or.inl ⟨by rfl, ?_⟩) (by assumption) ?_
                  rotate_left
                  · (intro w' hSw; (try dsimp only at hSw); (try simp only [List.getElem_toArray, List.getElem_cons_succ, List.getElem_cons_zero]); go_simp; try (with_reducible rfl))
                  simp only [Act.put, List.getElem_toArray, List.getElem_cons_succ, List.getElem_cons_zero, List.setIfInBounds_toArray, List.set_cons_zero, List.set_cons_succ]
                  refine wpAnyG_take (v := ?_) 6 (by rfl) (by kernel_rfl) (by kernel_rfl) (by kernel_rfl) (by kernel_rfl) (fun _ _ _ h => h) (Or.inl ⟨by rfl, ?_⟩) (by assumption) ?_
                  rotate_left
                  · (intro w' hSw; (try dsimp only at hSw); (try simp only [List.getElem_toArray, List.getElem_cons_succ, List.getElem_cons_zero]); go_simp; try (with_reducible rfl))
                  simp only [Act.put, List.getElem_toArray, List.getElem_cons_succ, List.getElem_cons_zero, List.setIfInBounds_toArray, List.set_cons_zero, List.set_cons_succ]
                  refine wpAnyG_take (v := ?_) 7 (by rfl) (by kernel_rfl) (by kernel_rfl) (by kernel_rfl) (by kernel_rfl) (fun _ _ _ h => h) (Or.inl ⟨by rfl, ?_⟩) (by assumption) ?_
                  rotate_left
                  · (intro w' hSw; (try dsimp only at hSw); (try simp only [List.getElem_toArray, List.getElem_cons_succ, List.getElem_cons_zero]); go_simp; try (with_reducible rfl))
                  simp only [Act.put, List.getElem_toArray, List.getElem_cons_succ, List.getElem_cons_zero, List.setIfInBounds_toArray, List.set_cons_zero, List.set_cons_succ]
                  refine wpAnyG_take (v := ?_) 8 (by rfl) (by kernel_rfl) (by kernel_rfl) (by kernel_rfl) (by kernel_rfl) (fun _ _ _ h => h) (Or.inl ⟨by rfl, ?_⟩) (by assumption) ?_
                  rotate_left
                  · (intro w' hSw; (try dsimp only at hSw); (try simp only [List.getElem_toArray, List.getElem_cons_succ, List.getElem_cons_zero]); go_simp; try (with_reducible rfl))
                  simp only [Act.put, List.getElem_toArray, List.getElem_cons_succ, List.getElem_cons_zero, List.setIfInBounds_toArray, List.set_cons_zero, List.set_cons_succ]
                  refine wpAnyG_take (v := ?_) 9 (by rfl) (by kernel_rfl) (by kernel_rfl) (by kernel_rfl) (by kernel_rfl) (fun _ _ _ h => h) (Or.inl ⟨by rfl, ?_⟩) (by assumption) ?_
                  rotate_left
                  · (intro w' hSw; (try dsimp only at hSw); (try simp only [List.getElem_toArray, List.getElem_cons_succ, List.getElem_cons_zero]); go_simp; try (with_reducible rfl))
                  simp only [Act.put, List.getElem_toArray, List.getElem_cons_succ, List.getElem_cons_zero, List.setIfInBounds_toArray, List.set_cons_zero, List.set_cons_succ]
                  refine wpAnyG_take (v := ?_) 10 (by rfl) (by kernel_rfl) (by kernel_rfl) (by kernel_rfl) (by kernel_rfl) (fun _ _ _ h => h) (Or.inl ⟨by rfl, ?_⟩) (by assumption) ?_
                  rotate_left
                  · (intro w' hSw; (try dsimp only at hSw); (try simp only [List.getElem_toArray, List.getElem_cons_succ, List.getElem_cons_zero]); go_simp; try (with_reducible rfl))
                  simp only [Act.put, List.getElem_toArray, List.getElem_cons_succ, List.getElem_cons_zero, List.setIfInBounds_toArray, List.set_cons_zero, List.set_cons_succ]
                  refine wpAnyG_take (v := ?_) 11 (by rfl) (by kernel_rfl) (by kernel_rfl) (by kernel_rfl) (by kernel_rfl) (fun _ _ _ h => h) (Or.inl ⟨by rfl, ?_⟩) (by assumption) ?_
                  rotate_left
                  · (intro w' hSw; (try dsimp only at hSw); (try simp only [List.getElem_toArray, List.getElem_cons_succ, List.getElem_cons_zero]); go_simp; try (with_reducible rfl))
                  simp only [Act.put, List.getElem_toArray, List.getElem_cons_succ, List.getElem_cons_zero, List.setIfInBounds_toArray, List.set_cons_zero, List.set_cons_succ]
                  refine wpAnyG_take (v := ?_) 12 (by rfl) (by kernel_rfl) (by kernel_rfl) (by kernel_rfl) (by kernel_rfl) (fun _ _ _ h => h) (Or.inl ⟨by rfl, ?_⟩) (by assumption) ?_
                  rotate_left
                  · (intro w' hSw; (try dsimp only at hSw); (try simp only [List.getElem_toArray, List.getElem_cons_succ, List.getElem_cons_zero]); go_simp; try (with_reducible rfl))
                  simp only [Act.put, List.getElem_toArray, List.getElem_cons_succ, List.getElem_cons_zero, List.setIfInBounds_toArray, List.set_cons_zero, List.set_cons_succ]
                  refine wpAnyG_take (v := ?_) 13 (by rfl) (by kernel_rfl) (by kernel_rfl) (by kernel_rfl) (by kernel_rfl) (fun _ _ _ h => h) (Or.inl ⟨by rfl, ?_⟩) (by assumption) ?_
                  rotate_left
                  · (intro w' hSw; (try dsimp only at hSw); (try simp only [List.getElem_toArray, List.getElem_cons_succ, List.getElem_cons_zero]); go_simp; try (with_reducible rfl))
                  simp only [Act.put, List.getElem_toArray, List.getElem_cons_succ, List.getElem_cons_zero, List.setIfInBounds_toArray, List.set_cons_zero, List.set_cons_succ]
                  refine wpAnyG_take (v := ?_) 14 (by rfl) (by kernel_rfl) (by kernel_rfl) (by kernel_rfl) (by kernel_rfl) (fun _ _ _ h => h) (Or.inl ⟨by rfl, ?_⟩) (by assumption) ?_
                  rotate_left
                  · (intro w' hSw; (try dsimp only at hSw); (try simp only [List.getElem_toArray, List.getElem_cons_succ, List.getElem_cons_zero]); go_simp; try (with_reducible rfl))
                  simp only [Act.put, List.getElem_toArray, List.getElem_cons_succ, List.getElem_cons_zero, List.setIfInBounds_toArray, List.set_cons_zero, List.set_cons_succ]
                  refine wpAnyG_take (v := ?_) 15 (by rfl) (by kernel_rfl) (by kernel_rfl) (by kernel_rfl) (by kernel_rfl) (fun _ _ _ h => h) (Or.inl ⟨by rfl, ?_⟩) (by assumption) ?_
                  rotate_left
                  · (intro w' hSw; (try dsimp only at hSw); (try simp only [List.getElem_toArray, List.getElem_cons_succ, List.getElem_cons_zero]); go_simp; try (with_reducible rfl))
                  simp only [Act.put, List.getElem_toArray, List.getElem_cons_succ, List.getElem_cons_zero, List.setIfInBounds_toArray, List.set_cons_zero, List.set_cons_succ]
                  refine wpAnyG_take (v := ?_) 16 (by rfl) (by kernel_rfl) (by kernel_rfl) (by kernel_rfl) (by kernel_rfl) (fun _ _ _ h => h) (Or.inl ⟨by rfl, ?_⟩) (by assumption) ?_
                  rotate_left
                  · (intro w' hSw; (try dsimp only at hSw); (try simp only [List.getElem_toArray, List.getElem_cons_succ, List.getElem_cons_zero]); go_simp; try (with_reducible rfl))
                  simp only [Act.put, List.getElem_toArray, List.getElem_cons_succ, List.getElem_cons_zero, List.setIfInBounds_toArray, List.set_cons_zero, List.set_cons_succ]
                  refine wpAnyG_done (by kernel_rfl) ?_ _
                  refine NoPanic.normal ?_
                  go_wp2
                  go_roundg c'
                  case rel => exact ⟨d + 1, fl2, up2, _, _, by omega, rfl, by go_num, hide ⟨unhide HS8, unhide HSt, unhide HR2, unhide HFU, unhide HIL⟩⟩
                  case measure => omega
                · rw [decide_eq_false hm] at cf
                  have hno : ¬ ((y : Int) = (r : Int) ∨ up2.getD y 0 ≠ -1) := fun h => hm ((unhide HMem).2 h)
                  have HR2 : Hid (RW = Sp.rowGo T (r : Int) t c' (d + 1) (fl2 ++ [(y : Int)]) (up2.set y ((Sp.oth d : Nat) : Int))) := hide (by rw [unhide HRc, if_neg hno])
                  have HSt2 := hide (unhide HFd (by rw [← unhide HFU]; exact Sp.getD_mem (unhide HIL)) hno)
                  have HFU2 : Hid ((fl2 ++ [(y : Int)]).getD i 0 = t ∧ i < (fl2 ++ [(y : Int)]).length) := hide ⟨by rw [List.getD_eq_getElem?_getD, List.getElem?_append_left (unhide HIL), ← List.getD_eq_getElem?_getD]; exact unhide HFU, by rw [List.length_append]; have := unhide HIL; omega⟩
                  have cu' : ∀ v : Value, (W9.setCell ⟨G2, y, none⟩ v).cell? ⟨w.heap.size + 1, y, none⟩ = some (.int .i64 (up2.getD y 0)) := fun v => by rw [cell_set_neF (by omega)]; exact cu
                  have fu' : ∀ v : Value, (W9.setCell ⟨G2, y, none⟩ v).frozen? ⟨w.heap.size + 1, y, none⟩ = false := fun v => by rw [World.frozen?_of_block (Below.heap_setCell _ _ _ _ (by show w.heap.size + 1 ≠ G2; omega))]; exact fu
                  have HA : Hid (∀ v, v = Value.int .i64 ((Sp.oth d : Nat) : Int) → OwnI ((W9.setCell ⟨G2, y, none⟩ (.bool true)).setCell ⟨w.heap.size + 1, y, none⟩ v) (w.heap.size + 1) (.slice (some ⟨w.heap.size + 1, 0, none⟩) N N) (up2.set y ((Sp.oth d : Nat) : Int)) ∧ OwnB ((W9.setCell ⟨G2, y, none⟩ (.bool true)).setCell ⟨w.heap.size + 1, y, none⟩ v) (w.heap.size + 2) (.slice (some ⟨G2, 0, none⟩) N N) (Sp.metL N (fl2 ++ [(y : Int)])) ∧ OwnI ((W9.setCell ⟨G2, y, none⟩ (.bool true)).setCell ⟨w.heap.size + 1, y, none⟩ v) (G2 + 1) (.slice (some ⟨g3, 0, none⟩) fl2.length qc2) fl2 ∧ Below (w.heap.size + 1) W1 ((W9.setCell ⟨G2, y, none⟩ (.bool true)).setCell ⟨w.heap.size + 1, y, none⟩ v) ∧ G2 < ((W9.setCell ⟨G2, y, none⟩ (.bool true)).setCell ⟨w.heap.size + 1, y, none⟩ v).heap.size) := hide fun v hv => by
                    subst hv
                    refine ⟨own_setCell (own_same (unhide HS8).up (Below.heap_setCell _ _ _ _ (by show w.heap.size + 1 ≠ G2; omega))) y _, own_same ?_ (Below.heap_setCell _ _ _ _ (by show G2 ≠ w.heap.size + 1; omega)), own_same (own_same (unhide HS8).q (Below.heap_setCell _ _ _ _ (by show g3 ≠ G2; omega))) (Below.heap_setCell _ _ _ _ (by show g3 ≠ w.heap.size + 1; omega)), ((unhide HS8).bel.setCell (p := ⟨G2, y, none⟩) (by show w.heap.size + 1 ≤ G2; omega) _).setCell (p := ⟨w.heap.size + 1, y, none⟩) (Nat.le_refl _) _, by rw [World.size_setCell, World.size_setCell]; exact (unhide HS8).sz⟩
                    have := (unhide HS8).fd
                    unfold OwnB at this
                    rw [Sp.metL_len] at this ⊢
                    have h3 := (World.ownsRow.stored this y (.bool true)).1
                    rw [← Sp.metL_set, List.map_set]
                    exact h3
                  clear HRc HFd hno
                  generalize up2.getD y 0 = uy at *
                  refine wp_region_G (fun w' => w'.cell? ⟨w.heap.size, 1, none⟩ = some (.slice (some ⟨tb, tt, none⟩) T.length tc) ∧ w'.cell? ⟨tb, tt + d, none⟩ = some (.int .i64 t) ∧ w'.cell? ⟨g3, i, none⟩ = some (.int .i64 t) ∧ w'.cell? ⟨G2, y, none⟩ = some (.bool false)) (fun _ => false) (by kernel_rfl) (by rw [hW9]; exact ⟨z1, ct, cq, cf⟩) (fun hHeld => ?_)
                  rw [hW9] at hHeld ⊢
                  refine wpAnyG_take (v := ?_) 0 (by rfl) (by kernel_rfl) (by kernel_rfl) (by kernel_rfl) (by kernel_rfl) (fun _ _ _ h => h) (Or.inl ⟨by rfl, ?_⟩) (by assumption) ?_
                  rotate_left
                  · (intro w' hSw; (try dsimp only at hSw); (try simp only [List.getElem_toArray, List.getElem_cons_zero]); go_simp; try (with_reducible rfl))
                  simp only [Act.put, List.getElem_toArray, List.getElem_cons_zero, List.setIfInBounds_toArray, List.set_cons_zero, List.set_cons_succ]
                  refine wpAnyG_take (v := ?_) 1 (by rfl) (by kernel_rfl) (by kernel_rfl) (by kernel_rfl) (by kernel_rfl) (fun _ _ _ h => h) (Or.inl ⟨by rfl, ?_⟩) (by assumption) ?_
                  rotate_left
                  · (intro w' hSw; (try dsimp only at hSw); (try simp only [List.getElem_toArray, List.getElem_cons_succ, List.getElem_cons_zero]); go_simp; try (with_reducible rfl))
                  simp only [Act.put, List.getElem_toArray, List.getElem_cons_succ, List.getElem_cons_zero, List.setIfInBounds_toArray, List.set_cons_zero, List.set_cons_succ]
                  refine wpAnyG_take (v := ?_) 2 (by rfl) (by kernel_rfl) (by kernel_rfl) (by kernel_rfl) (by kernel_rfl) (fun _ _ _ h => h) (Or.inl ⟨by rfl, ?_⟩) (by assumption) ?_
                  rotate_left
                  · (intro w' hSw; (try dsimp only at hSw); (try simp only [List.getElem_toArray, List.getElem_cons_succ, List.getElem_cons_zero]); go_simp; try (with_reducible rfl))
                  simp only [Act.put, List.getElem_toArray, List.getElem_cons_succ, List.getElem_cons_zero, List.setIfInBounds_toArray, List.set_cons_zero, List.set_cons_succ]
                  refine wpAnyG_take (v := ?_) 3 (by rfl) (by kernel_rfl) (by kernel_rfl) (by kernel_rfl) (by kernel_rfl) (fun _ _ _ h => h) (Or.inl ⟨by rfl, ?_⟩) (by assumption) ?_
                  rotate_left
                  · (intro w' hSw; (try dsimp only at hSw); (try simp only [List.getElem_toArray, List.getElem_cons_succ, List.getElem_cons_zero]); go_simp; try (with_reducible rfl))
                  simp only [Act.put, List.getElem_toArray, List.getElem_cons_succ, List.getElem_cons_zero, List.setIfInBounds_toArray, List.set_cons_zero, List.set_cons_succ]
                  refine wpAnyG_take (v := ?_) 4 (by rfl) (by kernel_rfl) (by kernel_rfl) (by kernel_rfl) (by kernel_rfl) (fun _ _ _ h => h) (Or.inl ⟨by rfl, ?_⟩) (by assumption) ?_
                  rotate_left
                  · (intro w' hSw; (try dsimp only at hSw); (try simp only [List.getElem_toArray, List.getElem_cons_succ, List.getElem_cons_zero]); go_simp; try (with_reducible rfl))
                  simp only [Act.put, List.getElem_toArray, List.getElem_cons_succ, List.getElem_cons_zero, List.setIfInBounds_toArray, List.set_cons_zero, List.set_cons_succ]
                  refine wpAnyG_take (v := ?_) 5 (by rfl) (by kernel_rfl) (by kernel_rfl) (by kernel_rfl) (by kernel_rfl) (fun _ _ _ h => h) (Or.inl ⟨by rfl, ?_⟩) (by assumption) ?_
                  rotate_left
                  · (intro w' hSw; (try dsimp only at hSw); (try simp only [List.getElem_toArray, List.getElem_cons_succ, List.getElem_cons_zero]); go_simp; try (with_reducible rfl))
                  simp only [Act.put, List.getElem_toArray, List.getElem_cons_succ, List.getElem_cons_zero, List.setIfInBounds_toArray, List.set_cons_zero, List.set_cons_succ]
                  refine wpAnyG_take (v := ?_) 6 (by rfl) (by kernel_rfl) (by kernel_rfl) (by kernel_rfl) (by kernel_rfl) (fun _ _ _ h => h) (Or.inl ⟨by rfl, ?_⟩) (by assumption) ?_
                  rotate_left
                  · (intro w' hSw; (try dsimp only at hSw); (try simp only [List.getElem_toArray, List.getElem_cons_succ, List.getElem_cons_zero]); go_simp; try (with_reducible rfl))
                  simp only [Act.put, List.getElem_toArray, List.getElem_cons_succ, List.getElem_cons_zero, List.setIfInBounds_toArray, List.set_cons_zero, List.set_cons_succ]
                  refine wpAnyG_take (v := ?_) 7 (by rfl) (by kernel_rfl) (by kernel_rfl) (by kernel_rfl) (by kernel_rfl) (fun _ _ _ h => h) (Or.inl ⟨by rfl, ?_⟩) (by assumption) ?_
                  rotate_left
                  · (intro w' hSw; (try dsimp only at hSw); (try simp only [List.getElem_toArray, List.getElem_cons_succ, List.getElem_cons_zero]); go_simp; try (with_reducible rfl))
                  simp only [Act.put, List.getElem_toArray, List.getElem_cons_succ, List.getElem_cons_zero, List.setIfInBounds_toArray, List.set_cons_zero, List.set_cons_succ]
                  refine wpAnyG_take (v := ?_) 8 (by rfl) (by kernel_rfl) (by kernel_rfl) (by kernel_rfl) (by kernel_rfl) (fun _ _ _ h => h) (Or.inl ⟨by rfl, ?_⟩) (by assumption) ?_
                  rotate_left
                  · (intro w' hSw; (try dsimp only at hSw); (try simp only [List.getElem_toArray, List.getElem_cons_succ, List.getElem_cons_zero]); go_simp; try (with_reducible rfl))
                  simp only [Act.put, List.getElem_toArray, List.getElem_cons_succ, List.getElem_cons_zero, List.setIfInBounds_toArray, List.set_cons_zero, List.set_cons_succ]
                  refine wpAnyG_take (v := ?_) 9 (by rfl) (by kernel_rfl) (by kernel_rfl) (by kernel_rfl) (by kernel_rfl) (fun _ _ _ h => h) (Or.inl ⟨by rfl, ?_⟩) (by assumption) ?_
                  rotate_left
                  · (intro w' hSw; (try dsimp only at hSw); (try simp only [List.getElem_toArray, List.getElem_cons_succ, List.getElem_cons_zero]); go_simp; try (with_reducible rfl))
                  simp only [Act.put, List.getElem_toArray, List.getElem_cons_succ, List.getElem_cons_zero, List.setIfInBounds_toArray, List.set_cons_zero, List.set_cons_succ]
                  refine wpAnyG_take (v := ?_) 10 (by rfl) (by kernel_rfl) (by kernel_rfl) (by kernel_rfl) (by kernel_rfl) (fun _ _ _ h => h) (Or.inl ⟨by rfl, ?_⟩) (by assumption) ?_
                  rotate_left
                  · (intro w' hSw; (try dsimp only at hSw); (try simp only [List.getElem_toArray, List.getElem_cons_succ, List.getElem_cons_zero]); go_simp; try (with_reducible rfl))
                  simp only [Act.put, List.getElem_toArray, List.getElem_cons_succ, List.getElem_cons_zero, List.setIfInBounds_toArray, List.set_cons_zero, List.set_cons_succ]
                  refine wpAnyG_take (v := ?_) 11 (by rfl) (by kernel_rfl) (by kernel_rfl) (by kernel_rfl) (by kernel_rfl) (fun _ _ _ h => h) (Or.inl ⟨by rfl, ?_⟩) (by assumption) ?_
                  rotate_left
                  · (intro w' hSw; (try dsimp only at hSw); (try simp only [List.getElem_toArray, List.getElem_cons_succ, List.getElem_cons_zero]); go_simp; try (with_reducible rfl))
                  simp only [Act.put, List.getElem_toArray, List.getElem_cons_succ, List.getElem_cons_zero, List.setIfInBounds_toArray, List.set_cons_zero, List.set_cons_succ]
                  refine wpAnyG_take (v := ?_) 12 (by rfl) (by kernel_rfl) (by kernel_rfl) (by kernel_rfl) (by kernel_rfl) (fun _ _ _ h => h) (Or.inl ⟨by rfl, ?_⟩) (by assumption) ?_
                  rotate_left
                  · (intro w' hSw; (try dsimp only at hSw); (try simp only [List.getElem_toArray, List.getElem_cons_succ, List.getElem_cons_zero]); go_simp; try (with_reducible rfl))
                  simp only [Act.put, List.getElem_toArray, List.getElem_cons_succ, List.getElem_cons_zero, List.setIfInBounds_toArray, List.set_cons_zero, List.set_cons_succ]
                  refine wpAnyG_take (v := ?_) 13 (by rfl) (by kernel_rfl) (by kernel_rfl) (by kernel_rfl) (by kernel_rfl) (fun _ _ _ h => h) (Or.inl ⟨by rfl, ?_⟩) (by assumption) ?_
                  rotate_left
                  · (intro w' hSw; (try dsimp only at hSw); (try simp only [List.getElem_toArray, List.getElem_cons_succ, List.getElem_cons_zero]); go_simp; try (with_reducible rfl))
                  simp only [Act.put, List.getElem_toArray, List.getElem_cons_succ, List.getElem_cons_zero, List.setIfInBounds_toArray, List.set_cons_zero, List.set_cons_succ]
                  refine wpAnyG_take (v := ?_) 14 (by rfl) (by kernel_rfl) (by kernel_rfl) (by kernel_rfl) (by kernel_rfl) (fun _ _ _ h => h) (Or.inl ⟨by rfl, ?_⟩) (by assumption) ?_
                  rotate_left
                  · (intro w' hSw; (try dsimp only at hSw); (try simp only [List.getElem_toArray, List.getElem_cons_succ, List.getElem_cons_zero]); go_simp; try (with_reducible rfl))
                  simp only [Act.put, List.getElem_toArray, List.getElem_cons_succ, List.getElem_cons_zero, List.setIfInBounds_toArray, List.set_cons_zero, List.set_cons_succ]
                  refine wpAnyG_take (v := ?_) 15 (by rfl) (by kernel_rfl) (by kernel_rfl) (by kernel_rfl) (by kernel_rfl) (fun _ _ _ h => h) (Or.inl ⟨by rfl, ?_⟩) (by assumption) ?_
                  rotate_left
                  · (intro w' hSw; (try dsimp only at hSw); (try simp only [List.getElem_toArray, List.getElem_cons_succ, List.getElem_cons_zero]); go_simp; try (with_reducible rfl))
                  simp only [Act.put, List.getElem_toArray, List.getElem_cons_succ, List.getElem_cons_zero, List.setIfInBounds_toArray, List.set_cons_zero, List.set_cons_succ]
                  refine wpAnyG_take (v := ?_) 16 (by rfl) (by kernel_rfl) (by kernel_rfl) (by kernel_rfl) (by kernel_rfl) (fun _ _ _ h => h) (Or.inl ⟨by rfl, ?_⟩) (by assumption) ?_
                  rotate_left
                  · (intro w' hSw; (try dsimp only at hSw); (try simp only [List.getElem_toArray, List.getElem_cons_succ, List.getElem_cons_zero]); go_simp; try (with_reducible rfl))
                  simp only [Act.put, List.getElem_toArray, List.getElem_cons_succ, List.getElem_cons_zero, List.setIfInBounds_toArray, List.set_cons_zero, List.set_cons_succ]
                  refine wpAnyG_done (by kernel_rfl) ?_ _
                  refine NoPanic.normal ?_
                  have hflN : fl2.length ≤ N := (unhide HSt).le
                  go_upto_region 19 with fail
                  have HA2 := hide (unhide HA _ rfl)
                  generalize (W9.setCell ⟨G2, y, none⟩ (.bool true)).setCell ⟨w.heap.size + 1, y, none⟩ (.int .i64 ((Sp.oth d : Nat) : Int)) = WA at *
                  have hszA := (unhide HA2).2.2.2.2
                  clear HA HS8 cu cu' fu fu' cf ff cq ct z0 z1 z2 z3 hHeld hW9
                  go_wp2_with (at_builtin; refine wpList_app (w := WA.alloc (.cells #[.int .i64 (y : Int)] 3)) rfl _ _ rfl (G2 + 1) _ _ fl2 [(y : Int)] rfl rfl (World.ownsRow.alloc (unhide HA2).2.2.1 _) (OwnI.ints (own_lit WA 0 _ 1 [(y : Int)] rfl rfl (by omega) (by simp))) (fl2.length + 1) (by simp) (by omega) (by simp; omega) ?_)
                  intro a6 c6 w6 hown6 hb6 hgr6
                  have hl6 : (fl2 ++ [(y : Int)]).length = fl2.length + 1 := by simp
                  have hbA : Below (G2 + 1) WA w6 := ((Below.refl (G2 + 1) WA).alloc (by omega) _).trans hb6
                  have HF : Hid (SpW W1 w6 w.heap.size N G2 (fl2 ++ [(y : Int)]) (up2.set y ((Sp.oth d : Nat) : Int)) a6 c6) := hide ⟨(unhide HA2).2.2.2.1.trans (hbA.mono (by omega)), own_same (unhide HA2).1 (hbA.block _ (by omega)), own_same (unhide HA2).2.1 (hbA.block _ (by omega)), by rw [hl6]; exact hown6, Nat.lt_of_lt_of_le hszA hbA.size⟩
                  clear hown6 hb6 hgr6 hbA HA2
                  go_wp2
                  go_roundg c'
                  case rel => exact ⟨d + 1, fl2 ++ [(y : Int)], _, a6, c6, by omega, by rw [hl6], by go_num, hide ⟨unhide HF, unhide HSt2, unhide HR2, (unhide HFU2).1, (unhide HFU2).2⟩⟩
                  case measure => omega
              · rw [if_neg htu] at HRc
                have htu' : (t == u) = false := beq_eq_false_iff_ne.2 htu
                generalize decide ((y : Int) ∈ fl2) = bd at *
                refine wp_region_G (fun w' => w'.cell? ⟨w.heap.size, 1, none⟩ = some (.slice (some ⟨tb, tt, none⟩) T.length tc) ∧ w'.cell? ⟨tb, tt + d, none⟩ = some (.int .i64 t) ∧ w'.cell? ⟨g3, i, none⟩ = some (.int .i64 u)) (fun _ => false) (by kernel_rfl) (by rw [hW9]; exact ⟨z1, ct, cq⟩) (fun hHeld => ?_)
                rw [hW9] at hHeld ⊢
                refine wpAnyG_take (v := ?_) 0 (by rfl) (by kernel_rfl) (by kernel_rfl) (by kernel_rfl) (by kernel_rfl) (fun _ _ _ h => h) (Or.inl ⟨by rfl, ?_⟩) (by assumption) ?_
                rotate_left
                · (intro w' hSw; (try dsimp only at hSw); (try simp only [List.getElem_toArray, List.getElem_cons_zero]); go_simp; try (with_reducible rfl))
                simp only [Act.put, List.getElem_toArray, List.getElem_cons_zero, List.setIfInBounds_toArray, List.set_cons_zero, List.set_cons_succ]
                refine wpAnyG_take (v := ?_) 1 (by rfl) (by kernel_rfl) (by kernel_rfl) (by kernel_rfl) (by kernel_rfl) (fun _ _ _ h => h) (Or.inl ⟨by rfl, ?_⟩) (by assumption) ?_
                rotate_left
                · (intro w' hSw; (try dsimp only at hSw); (try simp only [List.getElem_toArray, List.getElem_cons_succ, List.getElem_cons_zero]); go_simp; try (with_reducible rfl))
                simp only [Act.put, List.getElem_toArray, List.getElem_cons_succ, List.getElem_cons_zero, List.setIfInBounds_toArray, List.set_cons_zero, List.set_cons_succ]
                refine wpAnyG_take (v := ?_) 2 (by rfl) (by kernel_rfl) (by kernel_rfl) (by kernel_rfl) (by kernel_rfl) (fun _ _ _ h => h) (Or.inl ⟨by rfl, ?_⟩) (by assumption) ?_
                rotate_left
                · (intro w' hSw; (try dsimp only at hSw); (try simp only [List.getElem_toArray, List.getElem_cons_succ, List.getElem_cons_zero]); go_simp; try (with_reducible rfl))
                simp only [Act.put, List.getElem_toArray, List.getElem_cons_succ, List.getElem_cons_zero, List.setIfInBounds_toArray, List.set_cons_zero, List.set_cons_succ]
                refine wpAnyG_take (v := ?_) 3 (by rfl) (by kernel_rfl) (by kernel_rfl) (by kernel_rfl) (by kernel_rfl) (fun _ _ _ h => h) (Or.inl ⟨by rfl, ?_⟩) (by assumption) ?_
                rotate_left
                · (intro w' hSw; (try dsimp only at hSw); (try simp only [List.getElem_toArray, List.getElem_cons_succ, List.getElem_cons_zero]); go_simp; try (with_reducible rfl))
                simp only [Act.put, List.getElem_toArray, List.getElem_cons_succ, List.getElem_cons_zero, List.setIfInBounds_toArray, List.set_cons_zero, List.set_cons_succ]
                refine wpAnyG_take (v := ?_) 4 (by rfl) (by kernel_rfl) (by kernel_rfl) (by kernel_rfl) (by kernel_rfl) (fun _ _ _ h => h) (Or.inl ⟨by rfl, ?_⟩) (by assumption) ?_
                rotate_left
                · (intro w' hSw; (try dsimp only at hSw); (try simp only [List.getElem_toArray, List.getElem_cons_succ, List.getElem_cons_zero]); go_simp; try (with_reducible rfl))
                simp only [Act.put, List.getElem_toArray, List.getElem_cons_succ, List.getElem_cons_zero, List.setIfInBounds_toArray, List.set_cons_zero, List.set_cons_succ]
                refine wpAnyG_take (v := ?_) 5 (by rfl) (by kernel_rfl) (by kernel_rfl) (by kernel_rfl) (by kernel_rfl) (fun _ _ _ h => h) (Or.inl ⟨by rfl, ?_⟩) (by assumption) ?_
                rotate_left
                · (intro w' hSw; (try dsimp only at hSw); (try simp only [List.getElem_toArray, List.getElem_cons_succ, List.getElem_cons_zero]); go_simp; try (with_reducible rfl))
                simp only [Act.put, List.getElem_toArray, List.getElem_cons_succ, List.getElem_cons_zero, List.setIfInBounds_toArray, List.set_cons_zero, List.set_cons_succ]
                refine wpAnyG_take (v := ?_) 6 (by rfl) (by kernel_rfl) (by kernel_rfl) (by kernel_rfl) (by kernel_rfl) (fun _ _ _ h => h) (Or.inl ⟨by rfl, ?_⟩) (by assumption) ?_
                rotate_left
                · (intro w' hSw; (try dsimp only at hSw); (try simp only [List.getElem_toArray, List.getElem_cons_succ, List.getElem_cons_zero]); go_simp; try (with_reducible rfl))
                simp only [Act.put, List.getElem_toArray, List.getElem_cons_succ, List.getElem_cons_zero, List.setIfInBounds_toArray, List.set_cons_zero, List.set_cons_succ]
                refine wpAnyG_take (v := ?_) 7 (by rfl) (by kernel_rfl) (by kernel_rfl) (by kernel_rfl) (by kernel_rfl) (fun _ _ _ h => h) (Or.inl ⟨by rfl, ?_⟩) (by assumption) ?_
                rotate_left
                · (intro w' hSw; (try dsimp only at hSw); (try simp only [List.getElem_toArray, List.getElem_cons_succ, List.getElem_cons_zero]); go_simp; try (with_reducible rfl))
                simp only [Act.put, List.getElem_toArray, List.getElem_cons_succ, List.getElem_cons_zero, List.setIfInBounds_toArray, List.set_cons_zero, List.set_cons_succ]
                refine wpAnyG_take (v := ?_) 8 (by rfl) (by kernel_rfl) (by kernel_rfl) (by kernel_rfl) (by kernel_rfl) (fun _ _ _ h => h) (Or.inl ⟨by rfl, ?_⟩) (by assumption) ?_
                rotate_left
                · (intro w' hSw; (try dsimp only at hSw); (try simp only [List.getElem_toArray, List.getElem_cons_succ, List.getElem_cons_zero]); go_simp; try (with_reducible rfl))
                simp only [Act.put, List.getElem_toArray, List.getElem_cons_succ, List.getElem_cons_zero, List.setIfInBounds_toArray, List.set_cons_zero, List.set_cons_succ]
                refine wpAnyG_take (v := ?_) 9 (by rfl) (by kernel_rfl) (by kernel_rfl) (by kernel_rfl) (by kernel_rfl) (fun _ _ _ h => h) (Or.inl ⟨by rfl, ?_⟩) (by assumption) ?_
                rotate_left
                · (intro w' hSw; (try dsimp only at hSw); (try simp only [List.getElem_toArray, List.getElem_cons_succ, List.getElem_cons_zero]); go_simp; try (with_reducible rfl))
                simp only [Act.put, List.getElem_toArray, List.getElem_cons_succ, List.getElem_cons_zero, List.setIfInBounds_toArray, List.set_cons_zero, List.set_cons_succ]
                refine wpAnyG_take (v := ?_) 10 (by rfl) (by kernel_rfl) (by kernel_rfl) (by kernel_rfl) (by kernel_rfl) (fun _ _ _ h => h) (Or.inl ⟨by rfl, ?_⟩) (by assumption) ?_
                rotate_left
                · (intro w' hSw; (try dsimp only at hSw); (try simp only [List.getElem_toArray, List.getElem_cons_succ, List.getElem_cons_zero]); go_simp; try (with_reducible rfl))
                simp only [Act.put, List.getElem_toArray, List.getElem_cons_succ, List.getElem_cons_zero, List.setIfInBounds_toArray, List.set_cons_zero, List.set_cons_succ]
                refine wpAnyG_take (v := undef) 11 (by rfl) (by kernel_rfl) (by kernel_rfl) (by kernel_rfl) (by kernel_rfl) (fun _ _ _ h => h) (Or.inr ⟨by rfl, rfl⟩) (by assumption) ?_
                simp only [Act.put, List.getElem_toArray, List.getElem_cons_succ, List.getElem_cons_zero, List.setIfInBounds_toArray, List.set_cons_zero, List.set_cons_succ]
                refine wpAnyG_take (v := undef) 12 (by rfl) (by kernel_rfl) (by kernel_rfl) (by kernel_rfl) (by kernel_rfl) (fun _ _ _ h => h) (Or.inr ⟨by rfl, rfl⟩) (by assumption) ?_
                simp only [Act.put, List.getElem_toArray, List.getElem_cons_succ, List.getElem_cons_zero, List.setIfInBounds_toArray, List.set_cons_zero, List.set_cons_succ]
                refine wpAnyG_take (v := undef) 13 (by rfl) (by kernel_rfl) (by kernel_rfl) (by kernel_rfl) (by kernel_rfl) (fun _ _ _ h => h) (Or.inr ⟨by rfl, rfl⟩) (by assumption) ?_
                simp only [Act.put, List.getElem_toArray, List.getElem_cons_succ, List.getElem_cons_zero, List.setIfInBounds_toArray, List.set_cons_zero, List.set_cons_succ]
                refine wpAnyG_take (v := undef) 14 (by rfl) (by kernel_rfl) (by kernel_rfl) (by kernel_rfl) (by kernel_rfl) (fun _ _ _ h => h) (Or.inr ⟨by rfl, rfl⟩) (by assumption) ?_
                simp only [Act.put, List.getElem_toArray, List.getElem_cons_succ, List.getElem_cons_zero, List.setIfInBounds_toArray, List.set_cons_zero, List.set_cons_succ]
                refine wpAnyG_take (v := undef) 15 (by rfl) (by kernel_rfl) (by kernel_rfl) (by kernel_rfl) (by kernel_rfl) (fun _ _ _ h => h) (Or.inr ⟨by rfl, rfl⟩) (by assumption) ?_
                simp only [Act.put, List.getElem_toArray, List.getElem_cons_succ, List.getElem_cons_zero, List.setIfInBounds_toArray, List.set_cons_zero, List.set_cons_succ]
                refine wpAnyG_take (v := ?_) 16 (by rfl) (by kernel_rfl) (by kernel_rfl) (by kernel_rfl) (by kernel_rfl) (fun _ _ _ h => h) (Or.inl ⟨by rfl, ?_⟩) (by assumption) ?_
                rotate_left
                · (intro w' hSw; (try dsimp only at hSw); (try simp only [List.getElem_toArray, List.getElem_cons_succ, List.getElem_cons_zero]); go_simp; try (with_reducible rfl))
                simp only [Act.put, List.getElem_toArray, List.getElem_cons_succ, List.getElem_cons_zero, List.setIfInBounds_toArray, List.set_cons_zero, List.set_cons_succ]
                refine wpAnyG_done (by kernel_rfl) ?_ _
                refine NoPanic.normal ?_
                go_wp2
                go_roundg c'
                case rel => exact ⟨d + 1, fl2, up2, _, _, by omega, rfl, by go_num, hide ⟨unhide HS8, unhide HSt, unhide HRc, unhide HFU, unhide HIL⟩⟩
                case measure => omega
            · have hdI : ¬ (d : Int) < (T.length : Int) := by omega
              obtain rfl : gk = 0 := by omega
              have HF : Hid (SP = Sp.spanGo T (r : Int) g' (i + 1) fl2 up2) := hide (by rw [unhide HR, (unhide HI).2.2.1]; rfl)
              have HG := hide (And.intro (unhide HI).1 (unhide HI).2.1)
              clear HI HR
              go_wp2
              go_roundg g'
              case rel => exact ⟨i + 1, fl2, up2, qa2, qc2, by omega, rfl, by go_num, hide ⟨(unhide HG).1, (unhide HG).2, unhide HF⟩⟩
              case measure => omega
        · have hiI : ¬ (i : Int) < (fl.length : Int) := by omega
          have HF : Hid (SP = (fl, up)) := hide (by
            rw [(unhide HI).2.2]
            cases gk with
            | zero => rfl
            | succ g' => rw [Sp.spanGo, if_neg hi])
          have HG := hide (unhide HI).1
          clear HI
          go_wp2
          rw [unhide HP]
          exact ⟨_, rfl, by rw [unhide HSp, unhide HF]; exact own_base (unhide HG).up (Nat.le_succ _), unhide HW _ (unhide HG).bel⟩
end Go.Proofs.Ytenffkplneimlaa


