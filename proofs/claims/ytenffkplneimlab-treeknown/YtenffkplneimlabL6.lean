/- What the proof needs, part 6. -/
import Derived.WalkMore
import Derived.Scope
import Derived.Test.YtenffkplneimlabL5
/- Package tree: outward. -/
namespace Go.Proofs.Ytenffkplneimlab
open Go Go.RowKit

theorem wpList_app2 {w : World} {ops : Array Oper} {rest : List Oper} {o : Oper} {a : Act} {Q : Exit → Act → World → Prop} (hgd : o.guard = none) (s x : Operand)
    (ho : o.op = .call { callee := .builtin .append, args := #[s, x], argTypes := #[22, 22] })
    (B : Nat) (v xv : Value) (l1 l2 : List Int) (hs : a.eval s = v) (hx' : a.eval x = xv) (hown : OwnI w B v l1) (hx : Ints w xv l2) (n : Nat) (hn : l1.length + l2.length = n) (hlen : n ≤ 1000000) (hB : B ≤ w.heap.size)
    (h : ∀ a' c' w', OwnI w' B (.slice a' n c') (l1 ++ l2) → Below B w w' → w.grownBy w' v.ownBlock → ((Value.slice a' n c').ownBlock = v.ownBlock ∨ (Value.slice a' n c').ownBlock = some w.heap.size) → wpList Try.prog ops Q rest (a.put o.dst (.slice a' n c')) w') : wpList Try.prog ops Q (o :: rest) a w :=
  wpList_plain hgd fun _ hK => wp_app2 s x ho B v xv l1 l2 hs hx' hown hx n hn hlen hB fun a' c' w' h2 h3 h4 h5 => hK _ _ (h a' c' w' h2 h3 h4 h5)
/-- Rows of the call's own, each in a block of its own, told by block G. -/
structure OutR (w : World) (G N : Nat) (rv : Nat → Value) (D : Nat → List Int) : Prop where
  blk : ∃ c, w.heap[G]? = some (.cells c 22) ∧ c.size = N ∧ ∀ k, k < N → c[k]? = some (rv k)
  row : ∀ k, k < N → OwnI w (G + 1) (rv k) (D k)
  sep : ∀ k k', k < N → k' < N → k ≠ k' → (rv k).ownBlock = none ∨ (rv k).ownBlock ≠ (rv k').ownBlock
theorem OutR.cell {w : World} {G N : Nat} {rv : Nat → Value} {D : Nat → List Int} (h : OutR w G N rv D) {k : Nat} (hk : k < N) : w.cell? ⟨G, k, none⟩ = some (rv k) ∧ w.frozen? ⟨G, k, none⟩ = false := by
  obtain ⟨c, hc, -, hz⟩ := h.blk
  constructor
  · simp only [World.cell?, hc]; exact hz k hk
  · simp [World.frozen?, hc]
theorem OutR.lt {w : World} {G N : Nat} {rv : Nat → Value} {D : Nat → List Int} (h : OutR w G N rv D) : G < w.heap.size := by
  obtain ⟨c, hc, -⟩ := h.blk
  exact (Array.getElem?_eq_some_iff.1 hc).1
theorem OutR.below {w w' : World} {G N : Nat} {rv : Nat → Value} {D : Nat → List Int} (h : OutR w G N rv D) (hb : Below w.heap.size w w') : OutR w' G N rv D := by
  have hl := h.lt
  obtain ⟨⟨c, hc, r⟩, h2, h3⟩ := h
  exact ⟨⟨c, (hb.block G hl).trans hc, r⟩, fun k hk => own_below (h2 k hk) hb, h3⟩
/-- A row has grown. -/
theorem OutR.put {w w6 : World} {o : Obj} {G N x : Nat} {rv : Nat → Value} {D : Nat → List Int} {nv : Value} {l : List Int} (h : OutR w G N rv D) (hx : x < N) (hown : OwnI w6 (G + 1) nv l) (hg : (w.alloc o).grownBy w6 (rv x).ownBlock) (ho : nv.ownBlock = (rv x).ownBlock ∨ nv.ownBlock = some (w.heap.size + 1)) :
    OutR (w6.setCell ⟨G, x, none⟩ nv) G N (fun k => if k = x then nv else rv k) (fun k => if k = x then l else D k) := by
  have hl := h.lt
  have hlt : ∀ k, k < N → ∀ g, (rv k).ownBlock = some g → G + 1 ≤ g ∧ g < w.heap.size := fun k hk g hgk => (h.row k hk).lt g hgk
  have hsz : (w.alloc o).heap.size = w.heap.size + 1 := by show (w.heap.push _).size = _; exact Array.size_push _
  refine ⟨?_, fun k hk => ?_, fun k k' hk hk' hne => ?_⟩
  · obtain ⟨c, hc, hs, hz⟩ := h.blk
    have hc6 : w6.heap[G]? = some (.cells c 22) := by
      rw [hg.block G (by omega) (fun e => by have := (hlt x hx G e.symm).1; omega), Below.heap_alloc _ _ _ hl]; exact hc
    refine ⟨c.setIfInBounds x nv, ?_, by simpa using hs, fun k hk => ?_⟩
    · simp only [World.setCell, Array.getElem?_modify, if_pos, hc6]; rfl
    · show _ = some (if k = x then nv else rv k)
      rw [Array.getElem?_setIfInBounds]
      by_cases hxk : x = k
      · rw [if_pos hxk, if_pos (by omega), if_pos hxk.symm]
      · rw [if_neg hxk, hz k hk, if_neg (fun e : k = x => hxk e.symm)]
  · show OwnI _ (G + 1) (if k = x then nv else rv k) (if k = x then l else D k)
    by_cases hkx : k = x
    · rw [if_pos hkx, if_pos hkx]
      exact ownsRow_setCell_below hown (by show G < G + 1; omega) _
    · rw [if_neg hkx, if_neg hkx]
      exact ownsRow_setCell_below ((World.ownsRow.alloc (h.row k hk) o).kept hg (h.sep k x hk hx hkx)) (by show G < G + 1; omega) _
  · show (if k = x then nv else rv k).ownBlock = none ∨ (if k = x then nv else rv k).ownBlock ≠ (if k' = x then nv else rv k').ownBlock
    by_cases hkx : k = x
    · subst hkx
      rw [if_pos rfl, if_neg (fun e => hne e.symm)]
      rcases ho with ho | ho
      · rw [ho]; exact h.sep k k' hk hk' hne
      · refine .inr fun e => ?_
        rw [ho] at e
        have := (hlt k' hk' _ e.symm).2
        omega
    · rw [if_neg hkx]
      by_cases hkx' : k' = x
      · subst hkx'
        rw [if_pos rfl]
        rcases ho with ho | ho
        · rw [ho]; exact h.sep k k' hk hk' hne
        · refine .inr fun e => ?_
          rw [ho] at e
          have := (hlt k hk _ e).2
          omega
      · rw [if_neg hkx']; exact h.sep k k' hk hk' hne
/-- The first d darts' ones that begin at k. -/
def Sp.dts (T : List Int) (d k : Nat) : List Int := ((List.range d).filter fun e => T.getD e 0 == (k : Int)).map fun (e : Nat) => (e : Int)
theorem Sp.dts_succ (T : List Int) (d k : Nat) : Sp.dts T (d + 1) k = if T.getD d 0 = (k : Int) then Sp.dts T d k ++ [(d : Int)] else Sp.dts T d k := by
  unfold Sp.dts
  rw [List.range_succ, List.filter_append]
  by_cases h : T.getD d 0 = (k : Int)
  · have e : (T.getD d 0 == (k : Int)) = true := by rw [h]; exact beq_self_eq_true _
    rw [if_pos h, List.filter_cons, if_pos e, List.filter_nil, List.map_append]
    rfl
  · have e : ¬ (T.getD d 0 == (k : Int)) = true := by rw [beq_eq_false_iff_ne.2 h]; simp
    rw [if_neg h, List.filter_cons, if_neg e, List.filter_nil, List.append_nil]
theorem Sp.dts_len (T : List Int) (d k : Nat) : (Sp.dts T d k).length ≤ d := by
  unfold Sp.dts
  rw [List.length_map]
  have := List.length_filter_le (fun e => T.getD e 0 == (k : Int)) (List.range d)
  rw [List.length_range] at this
  exact this
theorem infoR : (Try.prog.info? 22).map (fun i => (i.zero, i.size, i.bytes)) = some (some (.slice none 0 0), 1, 24) := by kernel_rfl
set_option maxRecDepth 100000 in
set_option maxHeartbeats 4000000 in
theorem outward_any (q : Sp.Net) (N : Nat) (v tv nv cv : Value) (w : World) (hv : NetI w v q tv nv cv) (h240 : q.tail.length ≤ 240) (hN : q.n = (N : Int)) (hN2 : N ≤ 60) (hN1 : 0 < N) (hT : ∀ x ∈ q.tail, 0 ≤ x ∧ x < (N : Int)) :
    Calls Try.prog 25 #[v] w fun e w' => ∃ G rv, e = .returned (.slice (some ⟨G, 0, none⟩) N N) ∧ w.heap.size ≤ G ∧ OutR w' G N rv (Sp.dts q.tail q.tail.length) ∧ Below w.heap.size w w' := by
  obtain ⟨iS, hiS, hS0, hS1, hS2⟩ := info_parts infoR
  obtain ⟨rfl, h1, h2, h3⟩ := hv
  obtain ⟨ta, tc, rfl, -, -, HT⟩ := h1.allD
  obtain ⟨na, nc, rfl, -, -⟩ := h2.form
  obtain ⟨ca, cc, rfl, -, -⟩ := h3.form
  clear h1 h2 h3
  rw [hN]
  have HBX := hide (box_new w (N : Int) (.slice ta q.tail.length tc) (.slice na q.next.length nc) (.slice ca q.cap.length cc))
  obtain ⟨W1, hW1⟩ : ∃ W1, W1 = w.alloc (.cells #[.int .i64 (N : Int), .slice ta q.tail.length tc, .slice na q.next.length nc, .slice ca q.cap.length cc] 25) := ⟨_, rfl⟩
  rw [← hW1] at HBX
  have hb1 : Below w.heap.size w W1 := by rw [hW1]; exact (Below.refl _ w).alloc (Nat.le_refl _) _
  have hs1 : W1.heap.size = w.heap.size + 1 := by rw [hW1]; simp
  have HW : Hid (∀ w', Below (w.heap.size + 1) W1 w' → Below w.heap.size w w') := hide fun w' hb => hb1.trans (hb.mono (by omega))
  have HTC : Hid (∀ k, k < q.tail.length → ∃ b o, ta = some ⟨b, o, none⟩ ∧ ∀ w', Below (w.heap.size + 1) W1 w' → w'.cell? ⟨b, o + k, none⟩ = some (.int .i64 (q.tail.getD k 0))) := hide fun k hk => by
    obtain ⟨b, o, e, -, h⟩ := unhide HT k hk
    exact ⟨b, o, e, fun w' hb => h w' (unhide HW w' hb)⟩
  have HTb := hide hT
  have HD0 : Hid (∀ k, Sp.dts q.tail 0 k = []) := hide fun k => rfl
  have HDs := hide (Sp.dts_succ q.tail)
  have HDl := hide (Sp.dts_len q.tail)
  obtain ⟨P, hP⟩ : ∃ P : Ending → World → Prop, P = fun e w' => ∃ G rv, e = .returned (.slice (some ⟨G, 0, none⟩) N N) ∧ w.heap.size ≤ G ∧ OutR w' G N rv (Sp.dts q.tail q.tail.length) ∧ Below w.heap.size w w' := ⟨_, rfl⟩
  rw [← hP]
  have HP := hide hP
  have HS1 := hide hs1
  clear hP hb1 hT HT hs1 hN
  generalize q.tail = T at *
  subst hW1
  go_enter Try.func25, Try.ntmps25
  go_wp2_with (at_make; refine wpList_make_full _ rfl _ _ 46 rfl (w.heap.size + 1) 22 iS (.slice none 0 0) 1 Try.underlying46 hiS hS0 hS1 .i64 .i64 _ _ N rfl rfl rfl rfl (by rw [hS2]; omega) (by unfold maxLen; omega) (by simp) ?_)
  intro w5 hown5 hg5
  generalize w.alloc (.cells #[.int .i64 (N : Int), .slice ta T.length tc, .slice na q.next.length nc, .slice ca q.cap.length cc] 25) = W1 at *
  have hG : W1.heap.size = w.heap.size + 1 := unhide HS1
  have hb5 : Below (w.heap.size + 1) W1 w5 := (Below.refl _ _).grown hg5 (by omega) (by simp)
  have hout : OutR w5 (w.heap.size + 1) N (fun _ => .slice none 0 0) (Sp.dts T 0) := by
    rcases hown5.2 with ⟨-, h0⟩ | ⟨g, cap, cur, e, -, hc, h1, -, h3, h4⟩
    · omega
    · injection e with e1 _ e2
      injection e1 with e1
      injection e1 with e1
      subst e1 e2
      have hcur : cur.toList = List.replicate N (.slice none 0 0) := by
        rw [← toList_madeCells_one]
        have : cur.toList.length ≤ N * 1 := by simp [h3]
        rw [List.take_of_length_le this] at h4
        exact h4
      refine ⟨⟨cur, hc, by omega, fun k hk => ?_⟩, fun k _ => ⟨by rw [unhide HD0]; rfl, .inl ⟨rfl, by rw [unhide HD0]; rfl⟩⟩, fun _ _ _ _ _ => .inl rfl⟩
      rw [← Array.getElem?_toList, hcur, List.getElem?_replicate, if_pos hk]
  have H5 := hide (And.intro hb5 hout)
  obtain ⟨x0, x1, x2, x3, -⟩ := unhide HBX w5 hb5
  clear hown5 hg5 hb5 hout hG HD0
  go_wp2
  go_loopg [12] T.length (fun g s12 wr => ∃ (d : Nat) (rv : Nat → Value), d + g = T.length ∧ s12 = .int .i64 (d : Int) ∧ Hid (Below (w.heap.size + 1) W1 wr ∧ OutR wr (w.heap.size + 1) N rv (Sp.dts T d)))
  case atStart => exact ⟨0, _, by omega, rfl, H5⟩
  case round =>
    clear H5 x0 x1 x2 x3
    obtain ⟨d, rv, hdg, rfl, HI⟩ := hrel
    by_cases hd : d < T.length
    · have hdI : (d : Int) < (T.length : Int) := by omega
      obtain ⟨g', rfl⟩ : ∃ g', gk = g' + 1 := ⟨gk - 1, by omega⟩
      obtain ⟨tb, tt, rfl, ht⟩ := unhide HTC d hd
      have ct := ht wr (unhide HI).1
      have hxb := unhide HTb _ (Sp.getD_mem hd)
      obtain ⟨x, hx⟩ : ∃ x : Nat, T.getD d 0 = (x : Int) := ⟨(T.getD d 0).toNat, by omega⟩
      rw [hx] at ct hxb
      have hxN : x < N := by omega
      have hxI : (x : Int) < (N : Int) := by omega
      have HX := hide hx
      obtain ⟨cx, fx⟩ := (unhide HI).2.cell hxN
      have hrow := (unhide HI).2.row x hxN
      have hlr := unhide HDl d x
      have hsz := (unhide HI).2.lt
      have cx' : ∀ o : Obj, (wr.alloc o).cell? ⟨w.heap.size + 1, x, none⟩ = some (rv x) := fun o => (((unhide HI).2.below ((Below.refl _ wr).alloc (Nat.le_refl _) o)).cell hxN).1
      obtain ⟨V, hV⟩ : ∃ V, rv x = V := ⟨_, rfl⟩
      rw [hV] at cx cx' hrow
      have HV := hide hV
      have HRw := hide hrow
      clear ht hx hV hrow
      generalize hDD : Sp.dts T d x = DD at *
      have HDD := hide hDD
      clear hDD
      go_wp2_with (at_builtin; refine wpList_app2 (w := wr.alloc (.cells #[.int .i64 (d : Int)] 3)) rfl _ _ rfl (w.heap.size + 1 + 1) _ _ DD [(d : Int)] rfl rfl (World.ownsRow.alloc (unhide HRw) _) (OwnI.ints (own_lit wr 0 _ 1 [(d : Int)] rfl rfl (by omega) (by simp))) (DD.length + 1) (by simp) (by omega) (by simp; omega) ?_)
      intro a6 c6 w6 hown6 hb6 hg6 ho6
      have hb6' : Below (w.heap.size + 1) W1 w6 := ((unhide HI).1.alloc (by omega) _).trans (hb6.mono (by omega))
      have hput := (unhide HI).2.put (o := .cells #[.int .i64 (d : Int)] 3) (nv := .slice a6 (DD.length + 1) c6) hxN hown6 (by rw [unhide HV]; exact hg6) (by rw [unhide HV]; simpa using ho6)
      have HF : Hid (Below (w.heap.size + 1) W1 (w6.setCell ⟨w.heap.size + 1, x, none⟩ (.slice a6 (DD.length + 1) c6)) ∧ OutR (w6.setCell ⟨w.heap.size + 1, x, none⟩ (.slice a6 (DD.length + 1) c6)) (w.heap.size + 1) N (fun k => if k = x then .slice a6 (DD.length + 1) c6 else rv k) (Sp.dts T (d + 1))) := hide ⟨hb6'.setCell (p := ⟨w.heap.size + 1, x, none⟩) (Nat.le_refl _) _, by
        have e : (fun k => if k = x then DD ++ [(d : Int)] else Sp.dts T d k) = Sp.dts T (d + 1) := funext fun k => by
          rw [unhide HDs, unhide HX]
          by_cases hk : k = x
          · rw [if_pos hk, hk, if_pos rfl, unhide HDD]
          · rw [if_neg hk, if_neg (by omega)]
        rw [← e]
        exact hput⟩
      have cx6 : w6.cell? ⟨w.heap.size + 1, x, none⟩ = some V ∧ w6.frozen? ⟨w.heap.size + 1, x, none⟩ = false := by
        have hne : some (w.heap.size + 1) ≠ V.ownBlock := fun e => by
          have := ((unhide HRw).lt _ e.symm).1
          omega
        have e := hg6.block (w.heap.size + 1) (by simp; omega) hne
        have hz := ((unhide HI).2.below ((Below.refl _ wr).alloc (Nat.le_refl _) (.cells #[.int .i64 (d : Int)] 3))).cell hxN
        exact ⟨by rw [World.cell?_of_block e]; exact cx' _, by rw [World.frozen?_of_block e]; exact hz.2⟩
      obtain ⟨cx7, fx7⟩ := cx6
      clear hown6 hb6 hg6 ho6 hb6' hput HI HRw HV cx cx' fx ct
      go_wp2
      go_roundg g'
      case rel => exact ⟨d + 1, _, by omega, by go_num, HF⟩
      case measure => omega
    · have hdI : ¬ (d : Int) < (T.length : Int) := by omega
      obtain rfl : d = T.length := by omega
      have HF : Hid (OutR wr (w.heap.size + 1) N rv (Sp.dts T T.length) ∧ Below w.heap.size w wr) := hide ⟨(unhide HI).2, unhide HW _ (unhide HI).1⟩
      clear HI
      go_wp2
      rw [unhide HP]
      exact ⟨_, rv, rfl, Nat.le_succ _, (unhide HF).1, (unhide HF).2⟩
end Go.Proofs.Ytenffkplneimlab


/- Package tree: Span. -/
namespace Go.Proofs.Ytenffkplneimlab
open Go Go.RowKit

/-- The darts of a list, one behind the other: what is found by them. -/
def Sp.rowL (T : List Int) (root : Int) : List Int → List Int → List Int → List Int × List Int
  | [], fl, up => (fl, up)
  | d :: ds, fl, up =>
    if T.getD (Sp.oth d.toNat) 0 = root ∨ up.getD (T.getD (Sp.oth d.toNat) 0).toNat 0 ≠ -1 then Sp.rowL T root ds fl up
    else Sp.rowL T root ds (fl ++ [T.getD (Sp.oth d.toNat) 0]) (up.set (T.getD (Sp.oth d.toNat) 0).toNat ((Sp.oth d.toNat : Nat) : Int))
theorem Sp.rowGo_L (T : List Int) (root u : Int) : ∀ c d fl up, Sp.rowGo T root u c d fl up = Sp.rowL T root (((List.range' d c).filter fun e => T.getD e 0 == u).map fun (e : Nat) => (e : Int)) fl up
  | 0, d, fl, up => rfl
  | c + 1, d, fl, up => by
    rw [Sp.rowGo, List.range'_succ, List.filter_cons]
    by_cases h : T.getD d 0 = u
    · have e : (T.getD d 0 == u) = true := by rw [h]; exact beq_self_eq_true _
      rw [if_pos h, if_pos e, List.map_cons, Sp.rowL, Int.toNat_natCast]
      split
      · exact Sp.rowGo_L T root u c (d + 1) fl up
      · exact Sp.rowGo_L T root u c (d + 1) _ _
    · have e : ¬ (T.getD d 0 == u) = true := by rw [beq_eq_false_iff_ne.2 h]; simp
      rw [if_neg h, if_neg e]
      exact Sp.rowGo_L T root u c (d + 1) fl up
theorem Sp.rowGo_dts (T : List Int) (root : Int) (u : Nat) (fl up : List Int) : Sp.rowGo T root (u : Int) T.length 0 fl up = Sp.rowL T root (Sp.dts T T.length u) fl up := by
  rw [Sp.rowGo_L]
  unfold Sp.dts
  rw [List.range_eq_range']
theorem Sp.dts_mem {T : List Int} {n u : Nat} {z : Int} (h : z ∈ Sp.dts T n u) : ∃ d : Nat, z = (d : Int) ∧ d < n ∧ T.getD d 0 = (u : Int) := by
  unfold Sp.dts at h
  obtain ⟨d, hd, rfl⟩ := List.mem_map.1 h
  obtain ⟨h1, h2⟩ := List.mem_filter.1 hd
  exact ⟨d, rfl, List.mem_range.1 h1, by simpa using h2⟩
theorem Sp.SpSt.rowL {T : List Int} {root : Int} {N : Nat} (hT : ∀ x ∈ T, 0 ≤ x ∧ x < (N : Int)) (hev : T.length % 2 = 0) {u : Nat} : ∀ (D fl up : List Int), (∀ z ∈ D, ∃ d : Nat, z = (d : Int) ∧ d < T.length ∧ T.getD d 0 = (u : Int)) → (u : Int) ∈ fl → Sp.SpSt T root N fl up → Sp.SpSt T root N (Sp.rowL T root D fl up).1 (Sp.rowL T root D fl up).2
  | [], fl, up, _, _, h => h
  | z :: D, fl, up, hD, hu, h => by
    obtain ⟨d, rfl, hd, ht⟩ := hD z (by simp)
    rw [Sp.rowL, Int.toNat_natCast]
    split
    · exact Sp.SpSt.rowL hT hev D fl up (fun z hz => hD z (List.mem_cons_of_mem _ hz)) hu h
    · rename_i hn
      exact Sp.SpSt.rowL hT hev D _ _ (fun z hz => hD z (List.mem_cons_of_mem _ hz)) (List.mem_append.2 (.inl hu)) (h.find hT hev hd (by rw [ht]; exact hu) hn)
/-- The darts of each vertex, to be read as long as the blocks from G to Q are as they were. -/
theorem OutR.read {w : World} {G N : Nat} {rv : Nat → Value} {D : Nat → List Int} (h : OutR w G N rv D) {w' : World} (hf : ∀ k, G ≤ k → k < w.heap.size → w'.heap[k]? = w.heap[k]?) {k : Nat} (hk : k < N) :
    w'.cell? ⟨G, k, none⟩ = some (rv k) ∧ ∃ a c, rv k = .slice a (D k).length c ∧ ∀ j, j < (D k).length → ∃ g, a = some ⟨g, 0, none⟩ ∧ G ≤ g ∧ g < w.heap.size ∧ w.cell? ⟨g, j, none⟩ = some (.int .i64 ((D k).getD j 0)) := by
  have hl := h.lt
  refine ⟨by rw [World.cell?_of_block (w := w) (hf G (Nat.le_refl _) hl)]; exact (h.cell hk).1, ?_⟩
  have hr := h.row k hk
  have hr' := hr
  rcases hr.2 with ⟨e, h0⟩ | ⟨g, cap, cur, e, hg, -⟩
  · exact ⟨none, 0, by rw [e, h0], fun j hj => by omega⟩
  · refine ⟨some ⟨g, 0, none⟩, cap, e, fun j hj => ⟨g, rfl, by omega, (hr'.lt g (by rw [e]; rfl)).2, ?_⟩⟩
    unfold OwnI at hr'
    rw [e] at hr'
    rw [World.ownsRow.cellAt hr' j (by omega), List.getElem?_map, List.getD_eq_getElem?_getD, List.getElem?_eq_getElem hj]
    rfl
end Go.Proofs.Ytenffkplneimlab


/- Package tree: Span, walked. -/
namespace Go.Proofs.Ytenffkplneimlab
open Go Go.RowKit

/-- What Span goes over. -/
structure SpX (W1 w5 wr : World) (B N G1 G2 : Nat) (fl up : List Int) (qa : Option Addr) (qc : Nat) : Prop where
  bel : Below (B + 1) W1 wr
  up : OwnI wr (B + 1) (.slice (some ⟨G1, 0, none⟩) N N) up
  fr : ∀ k, G2 ≤ k → k < w5.heap.size → wr.heap[k]? = w5.heap[k]?
  q : OwnI wr w5.heap.size (.slice qa fl.length qc) fl
  sz : w5.heap.size < wr.heap.size
theorem SpX.below {W1 w5 wr w' : World} {B N G1 G2 : Nat} {fl up : List Int} {qa : Option Addr} {qc : Nat} (h : SpX W1 w5 wr B N G1 G2 fl up qa qc) (hB : B + 1 ≤ w5.heap.size) (hb : Below wr.heap.size wr w') : SpX W1 w5 w' B N G1 G2 fl up qa qc :=
  ⟨h.bel.trans (hb.mono (by have := h.sz; omega)), own_below h.up hb, fun k h1 h2 => (hb.block k (by have := h.sz; omega)).trans (h.fr k h1 h2), own_below h.q hb, Nat.lt_of_lt_of_le h.sz hb.size⟩
set_option maxRecDepth 100000 in
set_option maxHeartbeats 8000000 in
theorem span_any (q : Sp.Net) (r N : Nat) (v tv nv cv : Value) (w : World) (hv : NetI w v q tv nv cv) (hev : q.tail.length % 2 = 0) (h240 : q.tail.length ≤ 240) (hN : q.n = (N : Int)) (hN2 : N ≤ 60) (hn : q.n ≤ ((q.tail.length / 2 : Nat) : Int) + 1) (hr : r < N) (hT : ∀ x ∈ q.tail, 0 ≤ x ∧ x < (N : Int)) :
    Calls Try.prog 9 #[v, .int .i64 (r : Int)] w fun e w' => ∃ lv, e = .returned lv ∧ OwnI w' w.heap.size lv (Sp.span q (r : Int)) ∧ Below w.heap.size w w' := by
  have hv' := hv
  obtain ⟨rfl, h1, h2, h3⟩ := hv
  obtain ⟨ta, tc, rfl, -, -⟩ := h1.form
  obtain ⟨na, nc, rfl, -, -⟩ := h2.form
  obtain ⟨ca, cc, rfl, -, -⟩ := h3.form
  clear h1 h2 h3
  have HBX := hide (box_new w q.n (.slice ta q.tail.length tc) (.slice na q.next.length nc) (.slice ca q.cap.length cc))
  obtain ⟨W1, hW1⟩ : ∃ W1, W1 = w.alloc (.cells #[.int .i64 q.n, .slice ta q.tail.length tc, .slice na q.next.length nc, .slice ca q.cap.length cc] 25) := ⟨_, rfl⟩
  rw [← hW1] at HBX
  have hb1 : Below w.heap.size w W1 := by rw [hW1]; exact (Below.refl _ w).alloc (Nat.le_refl _) _
  have hs1 : W1.heap.size = w.heap.size + 1 := by rw [hW1]; simp
  have HW : Hid (∀ w', Below (w.heap.size + 1) W1 w' → Below w.heap.size w w') := hide fun w' hb => hb1.trans (hb.mono (by omega))
  have HV : Hid (∀ w', Below (w.heap.size + 1) W1 w' → NetI w' (.agg #[.int .i64 q.n, .slice ta q.tail.length tc, .slice na q.next.length nc, .slice ca q.cap.length cc]) q (.slice ta q.tail.length tc) (.slice na q.next.length nc) (.slice ca q.cap.length cc)) := hide fun w' hb => by
    have hb0 := unhide HW w' hb
    exact ⟨rfl, hv'.tail.below hb0, hv'.next.below hb0, hv'.cap.below hb0⟩
  have HSo := hide (fun w' (hb : Below (w.heap.size + 1) W1 w') => sound_any q _ _ _ _ w' (unhide HV w' hb) hev h240 hn (fun x hx => by rw [hN]; exact hT x hx))
  have HIs := hide (fun w' (hb : Below (w.heap.size + 1) W1 w') => isVertex_any q _ _ _ _ (r : Int) w' (unhide HV w' hb))
  rw [decide_eq_true (show 0 ≤ (r : Int) ∧ (r : Int) < q.n by omega)] at HIs
  have HOu := hide (fun w' (hb : Below (w.heap.size + 1) W1 w') => outward_any q N _ _ _ _ w' (unhide HV w' hb) h240 hN hN2 (by omega) hT)
  have HHd := hide (fun (y : Nat) w' (hy : y < q.tail.length) (hb : Below (w.heap.size + 1) W1 w') => head_any' q _ _ _ _ y w' (unhide HV w' hb) hy hev h240)
  have HTb := hide hT
  have HO := hide (fun (y : Nat) (hy : y < q.tail.length) => oth_lt hy hev)
  have HSp : Hid (Sp.span q (r : Int) = (Sp.spanGo q.tail (r : Int) N 0 [(r : Int)] (List.replicate N (-1))).2) := hide (by unfold Sp.span; rw [hN, Int.toNat_natCast])
  have HFind := hide (fun (fl up : List Int) (h : Sp.SpSt q.tail (r : Int) N fl up) (d : Nat) hd hu hn => h.find hT hev (d := d) hd hu hn)
  have HFst := hide (Sp.SpSt.first q.tail (root := (r : Int)) (N := N) (by omega) (by omega))
  have HDt := hide (Sp.rowGo_dts q.tail (r : Int))
  have HDm := hide (fun (u : Nat) (z : Int) (h : z ∈ Sp.dts q.tail q.tail.length u) => Sp.dts_mem h)
  have HDl := hide (Sp.dts_len q.tail q.tail.length)
  obtain ⟨P, hP⟩ : ∃ P : Ending → World → Prop, P = fun e w' => ∃ lv, e = .returned lv ∧ OwnI w' w.heap.size lv (Sp.span q (r : Int)) ∧ Below w.heap.size w w' := ⟨_, rfl⟩
  rw [← hP]
  have HP := hide hP
  have HS1 := hide hs1
  have hb0 : Below (w.heap.size + 1) W1 W1 := Below.refl _ _
  obtain ⟨x0, x1, x2, x3, -⟩ := unhide HBX W1 hb0
  rw [hN] at HBX HIs HSo HHd HOu x0 hW1 ⊢
  clear hP hb1 hT hev hv' hs1 hN hn HV
  subst hW1
  go_enter Try.func9, Try.ntmps9
  go_wp2_with fail
  go_at_call 22
  generalize w.alloc (.cells #[.int .i64 (N : Int), .slice ta q.tail.length tc, .slice na q.next.length nc, .slice ca q.cap.length cc] 25) = W1 at *
  refine (unhide HSo W1 hb0).mono ?_
  rintro e w2 ⟨rfl, hl2⟩
  have hs1' := unhide HS1
  have hb2 : Below (w.heap.size + 1) W1 w2 := hb0.trans (hl2.mono (by omega))
  clear hl2 x0 x1 x2 x3
  obtain ⟨x0, x1, x2, x3, hz2⟩ := unhide HBX w2 hb2
  go_wp2_with fail
  go_at_call 23
  refine (unhide HIs w2 hb2).mono ?_
  rintro e w3 ⟨rfl, hl3⟩
  have hb3 : Below (w.heap.size + 1) W1 w3 := hb2.trans (hl3.mono (by omega))
  clear hl3 x0 x1 x2 x3 hz2 hb2
  obtain ⟨-, -, -, -, hz3⟩ := unhide HBX w3 hb3
  have y0 := fun o => (unhide HBX (w3.alloc o) (hb3.alloc hz3 o)).1
  have hcr : (w3.alloc (.cells #[.int .i64 (-1)] 3)).cell? ⟨w3.heap.size, 0, none⟩ = some (.int .i64 (-1)) := by
    have e : (w3.alloc (.cells #[.int .i64 (-1)] 3)).heap[w3.heap.size]? = some (.cells #[.int .i64 (-1)] 3) := by
      show (w3.heap.push _)[w3.heap.size]? = _
      rw [Array.getElem?_push, if_pos rfl]
    simp only [World.cell?, e]
    rfl
  have hsz5 : (w3.alloc (.cells #[.int .i64 (-1)] 3)).heap.size = w3.heap.size + 1 := by show (w3.heap.push _).size = _; exact Array.size_push _
  have HRp := hide (repeat_any (-1) w3.heap.size N _ hN2 hcr (by omega))
  rw [hsz5] at HRp
  have HB3 : Hid (Below (w.heap.size + 1) W1 (w3.alloc (.cells #[.int .i64 (-1)] 3))) := hide (hb3.alloc hz3 _)
  clear hcr hsz5 hb3
  go_wp2_with fail
  go_at_call 24
  refine (unhide HRp).mono ?_
  rintro e w4 ⟨rfl, hown4, hl4⟩
  obtain ⟨G1, hG1⟩ : ∃ G1, w3.heap.size + 1 = G1 := ⟨_, rfl⟩
  rw [hG1] at hown4 hl4 ⊢
  have hG1b : w.heap.size + 1 < G1 := by omega
  have hb4 : Below (w.heap.size + 1) W1 w4 := (unhide HB3).trans (hl4.mono (by omega))
  have H4 := hide (And.intro hb4 hown4)
  have hg14 := (hown4.lt G1 rfl).2
  obtain ⟨x0, x1, x2, x3, hz4⟩ := unhide HBX w4 hb4
  clear hb4 hown4 hl4 hG1 HRp HB3 y0 hz3
  go_wp2_with fail
  go_at_call 25
  refine (unhide HOu w4 (unhide H4).1).mono ?_
  rintro e w5 ⟨G2, rv, rfl, hG2, hout, hl5⟩
  have hG2b : G2 < w5.heap.size := hout.lt
  have HOut := hide hout
  have H6 : Hid (SpX W1 w5 (w5.alloc (.cells #[.int .i64 (r : Int)] 3)) w.heap.size N G1 G2 [(r : Int)] (List.replicate N (-1)) (some ⟨w5.heap.size, 0, none⟩) 1) := hide ⟨((unhide H4).1.trans (hl5.mono (by omega))).alloc (by omega) _, own_below (own_below (own_base (unhide H4).2 (by omega)) hl5) ((Below.refl _ w5).alloc (Nat.le_refl _) _), fun k _ h2 => Below.heap_alloc _ _ _ h2, own_lit w5 w5.heap.size w5.heap.size 1 [(r : Int)] rfl rfl (Nat.le_refl _) (by simp), by
    show _ < (w5.heap.push _).size
    rw [Array.size_push]; omega⟩
  clear hout hl5 H4 x0 x1 x2 x3 hz4
  go_wp2
  generalize w5.alloc (.cells #[.int .i64 (r : Int)] 3) = W6 at *
  obtain ⟨SP, hSP⟩ : ∃ SP, SP = Sp.spanGo q.tail (r : Int) N 0 [(r : Int)] (List.replicate N (-1)) := ⟨_, rfl⟩
  rw [← hSP] at HSp
  have HSP := hide hSP
  clear hSP
  have hB5 : w.heap.size + 1 ≤ w5.heap.size := by omega
  go_loopg [7, 8] N (fun g s7 s8 wr => ∃ (i : Nat) (fl up : List Int) (qa : Option Addr) (qc : Nat), i + g = N ∧ s7 = .slice qa fl.length qc ∧ s8 = .int .i64 (i : Int) ∧ Hid (SpX W1 w5 wr w.heap.size N G1 G2 fl up qa qc ∧ Sp.SpSt q.tail (r : Int) N fl up ∧ SP = Sp.spanGo q.tail (r : Int) g i fl up))
  case atStart => exact ⟨0, [(r : Int)], _, _, _, by omega, rfl, rfl, hide ⟨unhide H6, unhide HFst, unhide HSP⟩⟩
  case round =>
    clear H6 HSP HFst
    obtain ⟨i, fl, up, qa, qc, hig, rfl, rfl, HI⟩ := hrel
    have hfl := (unhide HI).2.1.le
    by_cases hi : i < fl.length
    · have hiI : (i : Int) < (fl.length : Int) := by omega
      obtain ⟨g', rfl⟩ : ∃ g', gk = g' + 1 := ⟨gk - 1, by omega⟩
      have hub := (unhide HI).2.1.bd _ (Sp.getD_mem hi)
      obtain ⟨u, hu⟩ : ∃ u : Nat, fl.getD i 0 = (u : Int) := ⟨(fl.getD i 0).toNat, by omega⟩
      rw [hu] at hub
      have huN : u < N := by omega
      have huI : (u : Int) < (N : Int) := by omega
      have HR : Hid (SP = Sp.spanGo q.tail (r : Int) g' (i + 1) (Sp.rowL q.tail (r : Int) (Sp.dts q.tail q.tail.length u) fl up).1 (Sp.rowL q.tail (r : Int) (Sp.dts q.tail q.tail.length u) fl up).2) := hide (by rw [(unhide HI).2.2, Sp.spanGo, if_pos hi, hu, unhide HDt])
      obtain ⟨cd, a, c, hrv, HRow⟩ := (unhide HOut).read (unhide HI).1.fr huN
      rw [hrv] at cd
      have hDl := unhide HDl u
      have HDu := hide (fun z hz => unhide HDm u z hz)
      have HRow2 := hide HRow
      obtain ⟨D, hD⟩ : ∃ D, Sp.dts q.tail q.tail.length u = D := ⟨_, rfl⟩
      rw [hD] at HR cd hDl HDu HRow2
      obtain ⟨g3, cap, hqe, hg3⟩ : ∃ g3 cap, Value.slice qa fl.length qc = .slice (some ⟨g3, 0, none⟩) fl.length cap ∧ w5.heap.size ≤ g3 := by
        rcases (unhide HI).1.q.2 with ⟨-, h0⟩ | ⟨g3, cap, cur, e, hg, -⟩
        · omega
        · exact ⟨g3, cap, e, hg⟩
      injection hqe with hqe1 _ hqe2
      subst hqe1 hqe2
      have cq : wr.cell? ⟨g3, i, none⟩ = some (.int .i64 (u : Int)) := by
        have := (unhide HI).1.q
        rw [World.ownsRow.cellAt this i (by omega), List.getElem?_map, List.getElem?_eq_getElem hi, ← hu, List.getD_eq_getElem?_getD, List.getElem?_eq_getElem hi]
        rfl
      have HI3 : Hid (SpX W1 w5 wr w.heap.size N G1 G2 fl up (some ⟨g3, 0, none⟩) qc ∧ Sp.SpSt q.tail (r : Int) N fl up ∧ (u : Int) ∈ fl) := hide ⟨(unhide HI).1, (unhide HI).2.1, by rw [← hu]; exact Sp.getD_mem hi⟩
      obtain ⟨RW, hRW⟩ : ∃ RW, RW = Sp.rowL q.tail (r : Int) D fl up := ⟨_, rfl⟩
      rw [← hRW] at HR
      have HRW := hide hRW
      clear HI hu hRW hD HRow hrv hub
      go_wp2
      go_loopg [7, 43] D.length (fun c s7 s43 wr => ∃ (j : Nat) (fl up : List Int) (qa : Option Addr) (qc : Nat), j + c = D.length ∧ s7 = .slice qa fl.length qc ∧ s43 = .int .i64 (j : Int) ∧ Hid (SpX W1 w5 wr w.heap.size N G1 G2 fl up qa qc ∧ Sp.SpSt q.tail (r : Int) N fl up ∧ RW = Sp.rowL q.tail (r : Int) (D.drop j) fl up ∧ (u : Int) ∈ fl))
      case atStart => exact ⟨0, fl, up, _, _, by omega, rfl, rfl, hide ⟨(unhide HI3).1, (unhide HI3).2.1, by rw [unhide HRW, List.drop_zero], (unhide HI3).2.2⟩⟩
      case round =>
        clear HI3 HRW cq cd
        obtain ⟨j, fl2, up2, qa2, qc2, hjc, rfl, rfl, HI⟩ := hrel
        by_cases hj : j < D.length
        · have hjI : (j : Int) < (D.length : Int) := by omega
          obtain ⟨c', rfl⟩ : ∃ c', gk = c' + 1 := ⟨gk - 1, by omega⟩
          obtain ⟨d, hd, hdl, htd⟩ := unhide HDu D[j] (List.getElem_mem hj)
          have HRc : Hid (RW = if q.tail.getD (Sp.oth d) 0 = (r : Int) ∨ up2.getD (q.tail.getD (Sp.oth d) 0).toNat 0 ≠ -1 then Sp.rowL q.tail (r : Int) (D.drop (j + 1)) fl2 up2 else Sp.rowL q.tail (r : Int) (D.drop (j + 1)) (fl2 ++ [q.tail.getD (Sp.oth d) 0]) (up2.set (q.tail.getD (Sp.oth d) 0).toNat ((Sp.oth d : Nat) : Int))) := hide (by rw [(unhide HI).2.2.1, List.drop_eq_getElem_cons hj, Sp.rowL, hd, Int.toNat_natCast])
          have hyb := unhide HTb _ (Sp.getD_mem (unhide HO d hdl))
          have HH := hide (fun w' (hb : Below (w.heap.size + 1) W1 w') => unhide HHd d w' hdl hb)
          have HFd := hide (fun hn => unhide HFind fl2 up2 (unhide HI).2.1 d hdl (by rw [htd]; exact (unhide HI).2.2.2) hn)
          obtain ⟨y, hy⟩ : ∃ y : Nat, q.tail.getD (Sp.oth d) 0 = (y : Int) := ⟨(q.tail.getD (Sp.oth d) 0).toNat, by omega⟩
          rw [hy] at hyb HH HRc HFd
          rw [Int.toNat_natCast] at HRc HFd
          have hyN : y < N := by omega
          have hyI : (y : Int) < (N : Int) := by omega
          have hX := xor_oth ⟨d, by omega⟩
          simp only at hX
          obtain ⟨g, hga, hg1, hg2, hcell⟩ := unhide HRow2 j hj
          have cdj : wr.cell? ⟨g, j, none⟩ = some (.int .i64 (d : Int)) := by
            rw [World.cell?_of_block (w := w5) ((unhide HI).1.fr g hg1 hg2), hcell, Sp.getD_eq _ _ hj, hd]
          subst hga
          obtain ⟨x0, x1, x2, x3, hzr⟩ := unhide HBX wr (unhide HI).1.bel
          clear hy hyb hd htd hcell
          go_wp2_with fail
          go_at_call 26
          refine (unhide HH wr (unhide HI).1.bel).mono ?_
          rintro e w8 ⟨rfl, hb8⟩
          have hsp := (unhide HI).1.below hB5 hb8
          have HSt := hide (unhide HI).2.1
          have HMu := hide (unhide HI).2.2.2
          have hul : up2.length = N := (unhide HSt).len
          have hflN : fl2.length ≤ N := (unhide HSt).le
          have cu : w8.cell? ⟨G1, y, none⟩ = some (.int .i64 (up2.getD y 0)) := by
            have := hsp.up
            unfold OwnI at this
            rw [hul] at this
            rw [World.ownsRow.cellAt this y (by omega), List.getElem?_map, List.getD_eq_getElem?_getD, List.getElem?_eq_getElem (by omega)]
            rfl
          have fu : w8.frozen? ⟨G1, y, none⟩ = false := by
            have := hsp.up
            unfold OwnI at this
            rw [hul] at this
            exact World.ownsRow.frozenAt this y
          have HS8 := hide hsp
          have hszz := hsp.sz
          clear hsp HI HH x0 x1 x2 x3 hb8 cdj hzr
          by_cases hyr : y = r
          · have e1 : ((y : Int) == (r : Int)) = true := by rw [hyr]; exact beq_self_eq_true _
            have e2 : (y == r) = true := by rw [hyr]; exact beq_self_eq_true _
            have HR2 : Hid (RW = Sp.rowL q.tail (r : Int) (D.drop (j + 1)) fl2 up2) := hide (by rw [unhide HRc, if_pos (.inl (by rw [hyr]))])
            generalize up2.getD y 0 = uy at *
            clear HRc HFd
            subst hyr
            go_wp2
            go_roundg c'
            case rel => exact ⟨j + 1, fl2, up2, _, _, by omega, rfl, by go_num, hide ⟨unhide HS8, unhide HSt, unhide HR2, unhide HMu⟩⟩
            case measure => omega
          · have hyrI : (y : Int) ≠ (r : Int) := by omega
            have e1 : ((y : Int) == (r : Int)) = false := beq_eq_false_iff_ne.2 hyrI
            have e2 : (y == r) = false := beq_eq_false_iff_ne.2 hyr
            by_cases hm : up2.getD y 0 = -1
            · have hno : ¬ ((y : Int) = (r : Int) ∨ up2.getD y 0 ≠ -1) := fun h => h.elim hyrI (fun h => h hm)
              have HR2 : Hid (RW = Sp.rowL q.tail (r : Int) (D.drop (j + 1)) (fl2 ++ [(y : Int)]) (up2.set y ((Sp.oth d : Nat) : Int))) := hide (by rw [unhide HRc, if_neg hno])
              have HSt2 := hide (unhide HFd hno)
              rw [hm] at cu
              have HA : Hid (Below (w.heap.size + 1) W1 (w8.setCell ⟨G1, y, none⟩ (.int .i64 ((Sp.oth d : Nat) : Int))) ∧ OwnI (w8.setCell ⟨G1, y, none⟩ (.int .i64 ((Sp.oth d : Nat) : Int))) (w.heap.size + 1) (.slice (some ⟨G1, 0, none⟩) N N) (up2.set y ((Sp.oth d : Nat) : Int)) ∧ (∀ k, G2 ≤ k → k < w5.heap.size → (w8.setCell ⟨G1, y, none⟩ (.int .i64 ((Sp.oth d : Nat) : Int))).heap[k]? = w5.heap[k]?) ∧ OwnI (w8.setCell ⟨G1, y, none⟩ (.int .i64 ((Sp.oth d : Nat) : Int))) w5.heap.size (.slice qa2 fl2.length qc2) fl2 ∧ w5.heap.size < (w8.setCell ⟨G1, y, none⟩ (.int .i64 ((Sp.oth d : Nat) : Int))).heap.size) := hide ⟨(unhide HS8).bel.setCell (p := ⟨G1, y, none⟩) (by show w.heap.size + 1 ≤ G1; omega) _, own_setCell (unhide HS8).up y _, fun k h1 h2 => by rw [Below.heap_setCell _ _ _ _ (by show k ≠ G1; omega)]; exact (unhide HS8).fr k h1 h2, ownsRow_setCell_below (unhide HS8).q (by show G1 < w5.heap.size; omega) _, by rw [World.size_setCell]; exact (unhide HS8).sz⟩
              clear HRc HFd hno hm
              go_upto_region 15 with fail
              generalize w8.setCell ⟨G1, y, none⟩ (.int .i64 ((Sp.oth d : Nat) : Int)) = WA at *
              have hszA := (unhide HA).2.2.2.2
              clear cu fu HS8
              go_wp2_with (at_builtin; refine wpList_app (w := WA.alloc (.cells #[.int .i64 (y : Int)] 3)) rfl _ _ rfl w5.heap.size _ _ fl2 [(y : Int)] rfl rfl (World.ownsRow.alloc (unhide HA).2.2.2.1 _) (OwnI.ints (own_lit WA 0 _ 1 [(y : Int)] rfl rfl (by omega) (by simp))) (fl2.length + 1) (by simp) (by omega) (by simp; omega) ?_)
              intro a6 c6 w6 hown6 hb6 hgr6
              have hl6 : (fl2 ++ [(y : Int)]).length = fl2.length + 1 := by simp
              have hbA : Below w5.heap.size WA w6 := ((Below.refl w5.heap.size WA).alloc (by omega) _).trans hb6
              have HF : Hid (SpX W1 w5 w6 w.heap.size N G1 G2 (fl2 ++ [(y : Int)]) (up2.set y ((Sp.oth d : Nat) : Int)) a6 c6) := hide ⟨(unhide HA).1.trans (hbA.mono (by omega)), own_same (unhide HA).2.1 (hbA.block _ (by omega)), fun k h1 h2 => (hbA.block k h2).trans ((unhide HA).2.2.1 k h1 h2), by rw [hl6]; exact hown6, Nat.lt_of_lt_of_le hszA hbA.size⟩
              clear hown6 hb6 hgr6 hbA HA
              go_wp2
              go_roundg c'
              case rel => exact ⟨j + 1, fl2 ++ [(y : Int)], _, a6, c6, by omega, by rw [hl6], by go_num, hide ⟨unhide HF, unhide HSt2, unhide HR2, List.mem_append.2 (.inl (unhide HMu))⟩⟩
              case measure => omega
            · have HR2 : Hid (RW = Sp.rowL q.tail (r : Int) (D.drop (j + 1)) fl2 up2) := hide (by rw [unhide HRc, if_pos (.inr hm)])
              have em : (up2.getD y 0 == -1) = false := beq_eq_false_iff_ne.2 hm
              have ebm : (up2.getD y 0 != -1) = true := by simp only [bne, em]; rfl
              clear HRc HFd
              generalize up2.getD y 0 = uy at *
              go_wp2
              go_roundg c'
              case rel => exact ⟨j + 1, fl2, up2, _, _, by omega, rfl, by go_num, hide ⟨unhide HS8, unhide HSt, unhide HR2, unhide HMu⟩⟩
              case measure => omega
        · have hjI : ¬ (j : Int) < (D.length : Int) := by omega
          have HF : Hid (SP = Sp.spanGo q.tail (r : Int) g' (i + 1) fl2 up2) := hide (by rw [unhide HR, (unhide HI).2.2.1, List.drop_eq_nil_of_le (by omega)]; rfl)
          have HG := hide (And.intro (unhide HI).1 (unhide HI).2.1)
          clear HI HR
          go_wp2
          go_roundg g'
          case rel => exact ⟨i + 1, fl2, up2, qa2, qc2, by omega, rfl, by go_num, hide ⟨(unhide HG).1, (unhide HG).2, unhide HF⟩⟩
          case measure => omega
    · have hiI : ¬ (i : Int) < (fl.length : Int) := by omega
      have HF : Hid (SP = (fl, up)) := hide (by
        rw [(unhide HI).2.2]
        cases gk with
        | zero => rfl
        | succ g' => rw [Sp.spanGo, if_neg hi])
      have HG := hide (unhide HI).1
      clear HI
      go_wp2
      rw [unhide HP]
      exact ⟨_, rfl, by rw [unhide HSp, unhide HF]; exact own_base (unhide HG).up (Nat.le_succ _), unhide HW _ (unhide HG).bel⟩
end Go.Proofs.Ytenffkplneimlab


/- Package tree: Way of a tree. -/
namespace Go.Proofs.Ytenffkplneimlab
open Go Go.RowKit

set_option maxRecDepth 100000 in
set_option maxHeartbeats 4000000 in
theorem way_any (q : Sp.Net) (U : List Int) (r N x G : Nat) (R : List Int) (v tv nv cv uv : Value) (w : World) (hv : NetI w v q tv nv cv) (hu : Ints w uv U) (hev : q.tail.length % 2 = 0) (h240 : q.tail.length ≤ 240) (hN : q.n = (N : Int)) (hN2 : N ≤ 60) (hn : q.n ≤ ((q.tail.length / 2 : Nat) : Int) + 1) (hT : ∀ x ∈ q.tail, 0 ≤ x ∧ x < q.n) (hR : Sp.rightB q U (r : Int) = true) (hx : x < N) (hG : G ≤ 240) (hW : Sp.wayGo q.tail U G x [] = some R) :
    Calls Try.prog 14 #[v, uv, .int .i64 (x : Int)] w fun e w' => ∃ lv, e = .returned lv ∧ OwnI w' w.heap.size lv R ∧ Below w.heap.size w w' := by
  obtain ⟨hUl, hrN, hUr, hE, -⟩ := Sp.right_parts hN hR
  have hv' := hv
  have hu' := hu
  obtain ⟨rfl, h1, h2, h3⟩ := hv
  obtain ⟨ta, tc, rfl, -, -⟩ := h1.form
  obtain ⟨na, nc, rfl, -, -⟩ := h2.form
  obtain ⟨ca, cc, rfl, -, -⟩ := h3.form
  obtain ⟨ua, uc, rfl, -, -, HU⟩ := hu.allD
  clear h1 h2 h3 hu
  obtain ⟨bu, ou, rfl, -, -⟩ := unhide HU x (by omega)
  have HBX := hide (box_new w q.n (.slice ta q.tail.length tc) (.slice na q.next.length nc) (.slice ca q.cap.length cc))
  obtain ⟨W1, hW1⟩ : ∃ W1, W1 = w.alloc (.cells #[.int .i64 q.n, .slice ta q.tail.length tc, .slice na q.next.length nc, .slice ca q.cap.length cc] 25) := ⟨_, rfl⟩
  rw [← hW1] at HBX
  have hb1 : Below w.heap.size w W1 := by rw [hW1]; exact (Below.refl _ w).alloc (Nat.le_refl _) _
  have hs1 : W1.heap.size = w.heap.size + 1 := by rw [hW1]; simp
  have HW : Hid (∀ w', Below (w.heap.size + 1) W1 w' → Below w.heap.size w w') := hide fun w' hb => hb1.trans (hb.mono (by omega))
  have HV : Hid (∀ w', Below (w.heap.size + 1) W1 w' → NetI w' (.agg #[.int .i64 q.n, .slice ta q.tail.length tc, .slice na q.next.length nc, .slice ca q.cap.length cc]) q (.slice ta q.tail.length tc) (.slice na q.next.length nc) (.slice ca q.cap.length cc)) := hide fun w' hb => by
    have hb0 := unhide HW w' hb
    exact ⟨rfl, hv'.tail.below hb0, hv'.next.below hb0, hv'.cap.below hb0⟩
  have HTr := hide (fun w' (hb : Below (w.heap.size + 1) W1 w') => isTree_yes q U r N _ _ _ _ (.slice (some ⟨bu, ou, none⟩) U.length uc) w' (unhide HV w' hb) (hu'.below (unhide HW w' hb)) hev h240 hN hN2 hn hT hR)
  have HIs := hide (fun w' (hb : Below (w.heap.size + 1) W1 w') => isVertex_any q _ _ _ _ (x : Int) w' (unhide HV w' hb))
  rw [decide_eq_true (show 0 ≤ (x : Int) ∧ (x : Int) < q.n by omega)] at HIs
  have HHd := hide (fun (y : Nat) w' (hy : y < q.tail.length) (hb : Below (w.heap.size + 1) W1 w') => head_any' q _ _ _ _ y w' (unhide HV w' hb) hy hev h240)
  have HTb := hide (show ∀ y ∈ q.tail, 0 ≤ y ∧ y < (N : Int) from fun y hy => by have := hT y hy; omega)
  have HO := hide (fun (y : Nat) (hy : y < q.tail.length) => oth_lt hy hev)
  have HU2 : Hid (∀ k, k < N → ∀ w', Below (w.heap.size + 1) W1 w' → w'.cell? ⟨bu, ou + k, none⟩ = some (.int .i64 (U.getD k 0))) := hide fun k hk w' hb => by
    obtain ⟨b', o', e1, -, h'⟩ := unhide HU k (by omega)
    injection e1 with e1
    injection e1 with e1 e2
    subst e1 e2
    exact h' w' (unhide HW w' hb)
  have HE : Hid (∀ y, y < N → U.getD y 0 = -1 ∨ (0 ≤ U.getD y 0 ∧ U.getD y 0 < (q.tail.length : Int))) := hide fun y hy => by
    by_cases hyr : y = r
    · rw [hyr]; exact .inl hUr
    · exact .inr (hE y hy hyr)
  obtain ⟨P, hP⟩ : ∃ P : Ending → World → Prop, P = fun e w' => ∃ lv, e = .returned lv ∧ OwnI w' w.heap.size lv R ∧ Below w.heap.size w w' := ⟨_, rfl⟩
  rw [← hP]
  have HP := hide hP
  have HWy := hide hW
  have HS1 := hide hs1
  have hb0 : Below (w.heap.size + 1) W1 W1 := Below.refl _ _
  obtain ⟨x0, x1, x2, x3, -⟩ := unhide HBX W1 hb0
  rw [hUl] at HTr ⊢
  clear hP hb1 hs1 hv' hu' hR hn hT hev hN HV HU hW hE hUr hrN
  subst hW1
  go_enter Try.func14, Try.ntmps14
  go_wp2_with fail
  go_at_call 27
  generalize w.alloc (.cells #[.int .i64 q.n, .slice ta q.tail.length tc, .slice na q.next.length nc, .slice ca q.cap.length cc] 25) = W1 at *
  refine (unhide HTr W1 hb0).mono ?_
  rintro e w2 ⟨rfl, hl2⟩
  have hs1' := unhide HS1
  have hb2 : Below (w.heap.size + 1) W1 w2 := hb0.trans (hl2.mono (by omega))
  clear hl2 x0 x1 x2 x3
  obtain ⟨x0, x1, x2, x3, hz2⟩ := unhide HBX w2 hb2
  go_wp2_with fail
  go_at_call 23
  refine (unhide HIs w2 hb2).mono ?_
  rintro e w3 ⟨rfl, hl3⟩
  have hb3 : Below (w.heap.size + 1) W1 w3 := hb2.trans (hl3.mono (by omega))
  clear hl3 x0 x1 x2 x3 hz2 hb2
  have hxI : (x : Int) < (N : Int) := by omega
  have c1 := unhide HU2 x hx w3 hb3
  have HB0 : Hid (Below (w.heap.size + 1) W1 w3 ∧ OwnI w3 (w.heap.size + 1) (.slice none 0 0) [] ∧ Sp.wayGo q.tail U G x [] = some R) := hide ⟨hb3, ⟨by simp, .inl ⟨rfl, rfl⟩⟩, unhide HWy⟩
  obtain ⟨z0, hz0⟩ : ∃ z0, U.getD x 0 = z0 := ⟨_, rfl⟩
  rw [hz0] at c1
  have HZ0 := hide hz0
  clear hb3 HWy hb0 HTr HIs hz0
  go_wp2
  go_loopg [7, 8] G (fun g s7 s8 wr => ∃ (x : Nat) (out : List Int) (oa : Option Addr) (oc : Nat) (z : Int), x < N ∧ out.length + g = G ∧ s8 = .int .i64 z ∧ s7 = .slice oa out.length oc ∧ Hid (U.getD x 0 = z) ∧ Hid (Below (w.heap.size + 1) W1 wr ∧ OwnI wr (w.heap.size + 1) (.slice oa out.length oc) out ∧ Sp.wayGo q.tail U g x out = some R))
  case atStart => exact ⟨x, [], none, 0, z0, hx, by simp, rfl, rfl, HZ0, HB0⟩
  case round =>
    clear HB0 HZ0 c1 hx hxI
    obtain ⟨y, out, oa, oc, z, hy, hog, rfl, rfl, HZ, HI⟩ := hrel
    have hE := unhide HE y hy
    rw [unhide HZ] at hE
    by_cases hz : z = -1
    · subst hz
      have HF : Hid (out = R ∧ OwnI wr w.heap.size (.slice oa out.length oc) out ∧ Below w.heap.size w wr) := hide ⟨by
        have := (unhide HI).2.2
        rw [Sp.wayGo_neg _ _ _ _ _ (by rw [unhide HZ]; omega)] at this
        exact Option.some.inj this, own_base (unhide HI).2.1 (Nat.le_succ _), unhide HW _ (unhide HI).1⟩
      clear HI HZ hE
      go_wp2
      rw [unhide HP]
      exact ⟨_, rfl, by rw [← (unhide HF).1]; exact (unhide HF).2.1, (unhide HF).2.2⟩
    · have hE2 := hE.resolve_left hz
      obtain ⟨d, rfl⟩ : ∃ d : Nat, z = (d : Int) := ⟨z.toNat, by omega⟩
      have hdl : d < q.tail.length := by omega
      have ez : ((d : Int) == -1) = false := beq_eq_false_iff_ne.2 (by omega)
      have eb : ((d : Int) != -1) = true := by simp only [bne, ez]; rfl
      cases gk with
      | zero =>
        exfalso
        have := (unhide HI).2.2
        rw [Sp.wayGo, if_pos (by rw [unhide HZ]; omega)] at this
        cases this
      | succ g' =>
        have hyb := unhide HTb _ (Sp.getD_mem (unhide HO d hdl))
        obtain ⟨t, ht⟩ : ∃ t : Nat, q.tail.getD (Sp.oth d) 0 = (t : Int) := ⟨(q.tail.getD (Sp.oth d) 0).toNat, by omega⟩
        have HR0 : Hid (Sp.wayGo q.tail U g' t (out ++ [(d : Int)]) = some R) := hide (by
          have := (unhide HI).2.2
          rw [Sp.wayGo, if_pos (by rw [unhide HZ]; omega), unhide HZ, Int.toNat_natCast, ht, Int.toNat_natCast] at this
          exact this)
        have HH := hide (fun w' (hb : Below (w.heap.size + 1) W1 w') => unhide HHd d w' hdl hb)
        rw [ht] at HH
        have htN : t < N := by omega
        have htI : (t : Int) < (N : Int) := by omega
        have hszr := (unhide HBX wr (unhide HI).1).2.2.2.2
        have HB := hide (And.intro (unhide HI).1 (unhide HI).2.1)
        clear HI HZ hE hE2 hz hyb ht
        go_wp2_with (at_builtin; refine wpList_app (w := wr.alloc (.cells #[.int .i64 (d : Int)] 3)) rfl _ _ rfl (w.heap.size + 1) _ _ out [(d : Int)] rfl rfl (World.ownsRow.alloc (unhide HB).2 _) (OwnI.ints (own_lit wr 0 _ 1 [(d : Int)] rfl rfl (by omega) (by simp))) (out.length + 1) (by simp) (by omega) (by simp; omega) ?_)
        intro a6 c6 w6 hown6 hb6 hgr6
        have hb6' : Below (w.heap.size + 1) W1 w6 := ((unhide HB).1.alloc hszr _).trans hb6
        have hl6 : (out ++ [(d : Int)]).length = out.length + 1 := by simp
        have HO6 := hide hown6
        obtain ⟨x0, x1, x2, x3, hs6⟩ := unhide HBX w6 hb6'
        clear hgr6 hb6 hown6 HB
        go_wp2_with fail
        go_at_call 26
        refine (unhide HH w6 hb6').mono ?_
        rintro e w7 ⟨rfl, hl7⟩
        have hb7 : Below (w.heap.size + 1) W1 w7 := hb6'.trans (hl7.mono hs6)
        have c1 := unhide HU2 t htN w7 hb7
        obtain ⟨z2, hz2⟩ : ∃ z2, U.getD t 0 = z2 := ⟨_, rfl⟩
        rw [hz2] at c1
        have HZ2 := hide hz2
        have HF : Hid (Below (w.heap.size + 1) W1 w7 ∧ OwnI w7 (w.heap.size + 1) (.slice a6 (out.length + 1) c6) (out ++ [(d : Int)])) := hide ⟨hb7, own_below (unhide HO6) hl7⟩
        clear hz2 x0 x1 x2 x3 hl7 hb7 HO6 hb6'
        go_wp2
        go_roundg g'
        case rel => exact ⟨t, out ++ [(d : Int)], a6, c6, z2, htN, by omega, rfl, by rw [hl6], HZ2, hide ⟨(unhide HF).1, by rw [hl6]; exact (unhide HF).2, unhide HR0⟩⟩
        case measure => omega
end Go.Proofs.Ytenffkplneimlab


/- The reference's Right of any row, any root; within. -/
namespace Go.Proofs.Ytenffkplneimlab
open Go Go.RowKit

theorem tmod_casesF (a n : Int) (hn : 0 < n) : (a.tmod n < 0 ∧ a.tmod n + n = a % n) ∨ (0 ≤ a.tmod n ∧ a.tmod n = a % n) := by
  have h0 : 0 ≤ a % n := Int.emod_nonneg a (by omega)
  have h1 : a % n < n := Int.emod_lt_of_pos a hn
  have e := Int.tmod_eq_emod (a := a) (b := n)
  split at e
  · right; omega
  · left
    have : ((n.natAbs : Nat) : Int) = n := by omega
    omega
theorem ret_intF {k : IntKind} {a b : Int} (h : a = b) : Ending.returned (.int k a) = .returned (.int k b) := by rw [h]
set_option maxHeartbeats 400000 in
theorem within4_any (a n : Int) (w : World) (hn : 0 < n) (hn1 : n ≤ 4611686018427387904) :
    Calls Try.prog 8 #[.int .i64 a, .int .i64 n] w fun e w' => e = .returned (.int .i64 (a % n)) ∧ w' = w := by
  have h0 : 0 ≤ a % n := Int.emod_nonneg a (by omega)
  have h1 : a % n < n := Int.emod_lt_of_pos a hn
  rcases tmod_casesF a n hn with ⟨ha, hb⟩ | ⟨ha, hb⟩
  · have hc : -n ≤ a.tmod n := by omega
    have Hb := hide hb; clear hb h0 h1
    go_enter Try.func8, Try.ntmps8
    go_wp2
    go_ret
    exact ⟨ret_intF (unhide Hb), rfl⟩
  · have Hb := hide hb; clear hb h0 h1
    go_enter Try.func8, Try.ntmps8
    go_wp2
    go_ret
    exact ⟨ret_intF (unhide Hb), rfl⟩
end Go.Proofs.Ytenffkplneimlab


/- The fourth law's known. -/
namespace Go.Proofs.Ytenffkplneimlab
open Go Go.RowKit

theorem q1_span : Sp.span Sp.q1 0 = [-1] := by decide +kernel
theorem q0_span : Sp.span Sp.q0 0 = [-1, 1] := by decide +kernel
theorem q0_right : Sp.rightB Sp.q0 [-1, 1] 0 = true := by decide +kernel
theorem q0_way : Sp.wayGo Sp.q0.tail [-1, 1] 3 1 [] = some [1] := by decide +kernel
theorem q0_left : Sp.leftL Sp.q0 [-1, 1] = [] := by decide +kernel
set_option maxRecDepth 100000 in
set_option maxHeartbeats 2000000 in
theorem known4_any (w : World) :
    Calls Try.prog 6 #[] w fun e w' => e = .returned (.bool true) ∧ Below w.heap.size w w' := by
  have HL := hide (lit_net w 2 [0, 1] [0, 1] [5, 3] 2 2 2 rfl rfl rfl (by simp))
  obtain ⟨P, hP⟩ : ∃ P : Ending → World → Prop, P = fun e w' => e = .returned (.bool true) ∧ Below w.heap.size w w' := ⟨_, rfl⟩
  rw [← hP]
  have HP := hide hP
  clear hP
  go_enter Try.func6, Try.ntmps6
  go_upto_region 2 with fail
  have hWW : ((((w.alloc (.cells #[.int .i64 0, .int .i64 1] 3)).alloc (.cells #[.int .i64 0, .int .i64 1] 3)).alloc (.cells #[.int .i64 5, .int .i64 3] 3)).alloc (.cells #[.int .i64 2, .slice (some ⟨w.heap.size, 0, none⟩) 2 2, .slice (some ⟨w.heap.size + 1, 0, none⟩) 2 2, .slice (some ⟨w.heap.size + 1 + 1, 0, none⟩) 2 2] 25)) = ((((w.alloc (.cells (([0, 1] : List Int).map (Value.int .i64)).toArray 3)).alloc (.cells (([0, 1] : List Int).map (Value.int .i64)).toArray 3)).alloc (.cells (([5, 3] : List Int).map (Value.int .i64)).toArray 3)).alloc (.cells #[.int .i64 2, .slice (some ⟨w.heap.size, 0, none⟩) 2 2, .slice (some ⟨w.heap.size + 1, 0, none⟩) 2 2, .slice (some ⟨w.heap.size + 1 + 1, 0, none⟩) 2 2] 25)) := rfl
  rw [← hWW] at HL
  clear hWW
  have hs4 : ((((w.alloc (.cells #[.int .i64 0, .int .i64 1] 3)).alloc (.cells #[.int .i64 0, .int .i64 1] 3)).alloc (.cells #[.int .i64 5, .int .i64 3] 3)).alloc (.cells #[.int .i64 2, .slice (some ⟨w.heap.size, 0, none⟩) 2 2, .slice (some ⟨w.heap.size + 1, 0, none⟩) 2 2, .slice (some ⟨w.heap.size + 1 + 1, 0, none⟩) 2 2] 25)).heap.size = w.heap.size + 4 := by simp
  generalize ((((w.alloc (.cells #[.int .i64 0, .int .i64 1] 3)).alloc (.cells #[.int .i64 0, .int .i64 1] 3)).alloc (.cells #[.int .i64 5, .int .i64 3] 3)).alloc (.cells #[.int .i64 2, .slice (some ⟨w.heap.size, 0, none⟩) 2 2, .slice (some ⟨w.heap.size + 1, 0, none⟩) 2 2, .slice (some ⟨w.heap.size + 1 + 1, 0, none⟩) 2 2] 25)) = W4 at *
  have HT : Hid (∀ w2 w3, Below (w.heap.size + 4) W4 w2 → Below w2.heap.size w2 w3 → Below (w.heap.size + 4) W4 w3) := hide fun w2 w3 h2 h3 => h2.trans (h3.mono (unhide HL w2 h2).2.2.1)
  have hb4 : Below (w.heap.size + 4) W4 W4 := Below.refl _ _
  have HX : Hid (∀ w', Below (w.heap.size + 4) W4 w' → w'.cell? ⟨w.heap.size + 1 + 1 + 1, 0, none⟩ = some (.int .i64 2) ∧ w'.cell? ⟨w.heap.size + 1 + 1 + 1, 1, none⟩ = some (.slice (some ⟨w.heap.size, 0, none⟩) 2 2) ∧ w'.cell? ⟨w.heap.size + 1 + 1 + 1, 2, none⟩ = some (.slice (some ⟨w.heap.size + 1, 0, none⟩) 2 2) ∧ w'.cell? ⟨w.heap.size + 1 + 1 + 1, 3, none⟩ = some (.slice (some ⟨w.heap.size + 1 + 1, 0, none⟩) 2 2)) := hide fun w' hb => (unhide HL w' hb).2.2.2
  have HS1 : Hid (∀ w', Below (w.heap.size + 4) W4 w' → Calls Try.prog 9 #[.agg #[.int .i64 1, .slice none 0 0, .slice none 0 0, .slice none 0 0], .int .i64 0] w' fun e w'' => ∃ g c, e = .returned (.slice (some ⟨g, 0, none⟩) 1 c) ∧ OwnI w'' w'.heap.size (.slice (some ⟨g, 0, none⟩) 1 c) [-1] ∧ Below w'.heap.size w' w'') := by
    refine hide fun w' hb => (span_any Sp.q1 0 1 _ _ _ _ w' ⟨rfl, ints_nil _, ints_nil _, ints_nil _⟩ rfl (by decide) rfl (by decide) (by decide) (by decide) (fun x hx => by cases hx)).mono ?_
    rw [show ((0 : Nat) : Int) = 0 from rfl, q1_span]
    rintro e w'' ⟨lv, rfl, ho, hl⟩
    obtain ⟨g, c, rfl, -, -, -, -⟩ := own_form ho (by decide)
    exact ⟨g, c, rfl, ho, hl⟩
  have HS0 : Hid (∀ w', Below (w.heap.size + 4) W4 w' → Calls Try.prog 9 #[.agg #[.int .i64 2, .slice (some ⟨w.heap.size, 0, none⟩) 2 2, .slice (some ⟨w.heap.size + 1, 0, none⟩) 2 2, .slice (some ⟨w.heap.size + 1 + 1, 0, none⟩) 2 2], .int .i64 0] w' fun e w'' => ∃ g c, e = .returned (.slice (some ⟨g, 0, none⟩) 2 c) ∧ OwnI w'' w'.heap.size (.slice (some ⟨g, 0, none⟩) 2 c) [-1, 1] ∧ Below w'.heap.size w' w'') := by
    refine hide fun w' hb => (span_any Sp.q0 0 2 _ _ _ _ w' (unhide HL w' hb).1 (by decide) (by decide) rfl (by decide) (by decide) (by decide) (by decide)).mono ?_
    rw [show ((0 : Nat) : Int) = 0 from rfl, q0_span]
    rintro e w'' ⟨lv, rfl, ho, hl⟩
    obtain ⟨g, c, rfl, -, -, -, -⟩ := own_form ho (by decide)
    exact ⟨g, c, rfl, ho, hl⟩
  clear hs4
  go_region_held3 (fun w' => w'.cell? ⟨w.heap.size + 1 + 1 + 1, 0, none⟩ = some (.int .i64 2) ∧ w'.cell? ⟨w.heap.size + 1 + 1 + 1, 1, none⟩ = some (.slice (some ⟨w.heap.size, 0, none⟩) 2 2) ∧ w'.cell? ⟨w.heap.size + 1 + 1 + 1, 2, none⟩ = some (.slice (some ⟨w.heap.size + 1, 0, none⟩) 2 2) ∧ w'.cell? ⟨w.heap.size + 1 + 1 + 1, 3, none⟩ = some (.slice (some ⟨w.heap.size + 1 + 1, 0, none⟩) 2 2))
    (first
      | exact unhide HX _ hb6
      | exact unhide HX _ hb5
      | exact unhide HX _ hb4.drew)
    (first
      | (go_at_call_of 9 (Value.agg #[.int .i64 1, .slice none 0 0, .slice none 0 0, .slice none 0 0])
         refine (unhide HS1 _ hb4.drew).mono ?_
         rintro e w5 ⟨g5, c5, rfl, ho5, hl5⟩
         have hb5 := unhide HT _ _ hb4.drew hl5)
      | (go_at_call 9
         refine (unhide HS0 _ hb5).mono ?_
         rintro e w6 ⟨g6, c6, rfl, ho6, hl6⟩
         have hb6 := unhide HT _ _ hb5 hl6))
  all_goals
    have HO5 := hide (own_below ho5 hl6)
    have HO6 := hide ho6
    obtain ⟨x0, x1, x2, x3⟩ := unhide HX w6 hb6
    have Hb6 := hide hb6
    clear ho5 ho6 hl5 hl6 hb4 hb5 hb6
    go_wp2_with fail
    have HLit := hide (own_lit w6 w6.heap.size w6.heap.size 2 [-1, 1] rfl rfl (Nat.le_refl _) (by decide))
    have hWW : (w6.alloc (.cells #[.int .i64 (-1), .int .i64 1] 3)) = w6.alloc (.cells (([-1, 1] : List Int).map (Value.int .i64)).toArray 3) := rfl
    rw [← hWW] at HLit
    clear hWW
    have hl7 : Below w6.heap.size w6 (w6.alloc (.cells #[.int .i64 (-1), .int .i64 1] 3)) := (Below.refl _ _).alloc (Nat.le_refl _) _
    clear x0 x1 x2 x3
    generalize w6.alloc (.cells #[.int .i64 (-1), .int .i64 1] 3) = W7 at *
    have hb7 := unhide HT _ _ (unhide Hb6) hl7
    have HO5' := hide (own_below (unhide HO5) hl7)
    have HO6' := hide (own_below (unhide HO6) hl7)
    go_at_call 14
    refine (way_any Sp.q0 [-1, 1] 0 2 1 3 [1] _ _ _ _ _ W7 (unhide HL W7 hb7).1 (unhide HLit).ints (by decide) (by decide) rfl (by decide) (by decide) (by decide) q0_right (by decide) (by decide) q0_way).mono ?_
    rintro e w8 ⟨lv, rfl, ho8, hl8⟩
    obtain ⟨g8, c8, rfl, -, -, -, -⟩ := own_form ho8 (by decide)
    have hb8 := unhide HT _ _ hb7 hl8
    have HP5 := hide (own_below (unhide HO5') hl8)
    have HP6 := hide (own_below (unhide HO6') hl8)
    have HP8 := hide ho8
    obtain ⟨x0, x1, x2, x3⟩ := unhide HX w8 hb8
    have c0 := own_cell (unhide HP5) 0 (by decide)
    have c1 := own_cell (unhide HP6) 1 (by decide)
    have Hb8 := hide hb8
    clear ho8 hl8 hb8 hl7 hb7 HO5 HO6 HO5' HO6' HLit
    go_wp2_with fail
    go_at_call 15
    refine (right_any Sp.q0 [-1, 1] 0 2 _ _ _ _ _ w8 (unhide HL w8 (unhide Hb8)).1 (OwnI.ints (unhide HP6)) (by decide) (by decide) rfl (by decide) (by decide) (by decide)).mono ?_
    rw [q0_right]
    rintro e w9 ⟨rfl, hl9⟩
    have hb9 := unhide HT _ _ (unhide Hb8) hl9
    have HQ6 := hide (own_below (unhide HP6) hl9)
    have HQ8 := hide (own_below (unhide HP8) hl9)
    clear x0 x1 x2 x3 c0 c1 hl9
    obtain ⟨x0, x1, x2, x3⟩ := unhide HX w9 hb9
    have Hb9 := hide hb9
    clear hb9 HP5 HP6 HP8 Hb8
    go_wp2_with fail
    go_at_call 12
    refine (left_any Sp.q0 [-1, 1] 0 2 _ _ _ _ _ w9 (unhide HL w9 (unhide Hb9)).1 (OwnI.ints (unhide HQ6)) (by decide) (by decide) rfl (by decide) (by decide) (by decide) q0_right).mono ?_
    rw [q0_left]
    rintro e w10 ⟨lv, rfl, ho10, hl10⟩
    obtain ⟨_, _, rfl, -, -⟩ := ho10.ints.form
    have hb10 := unhide HT _ _ (unhide Hb9) hl10
    have c2 := own_cell (own_below (unhide HQ8) hl10) 0 (by decide)
    have HB := hide (unhide HL w10 hb10).2.1
    clear x0 x1 x2 x3 hl10 hb10 ho10 HQ6 HQ8 Hb9
    go_wp2
    rw [unhide HP]
    exact ⟨rfl, unhide HB⟩
end Go.Proofs.Ytenffkplneimlab


/- Package dual: a mesh's own questions. -/
namespace Go.Proofs.Ytenffkplneimlab
open Go Go.RowKit

/-- A mesh. -/
structure MeshI (w : World) (v : Value) (q : Sp.Net) (F : List Int) (K : Nat) (tv nv cv fv : Value) : Prop where
  val : v = .agg #[.int .i64 q.n, tv, nv, cv, fv, .int .i64 (K : Int)]
  tail : Ints w tv q.tail
  next : Ints w nv q.next
  cap : Ints w cv q.cap
  of : Ints w fv F
theorem MeshI.below {w w' : World} {v : Value} {q : Sp.Net} {F : List Int} {K : Nat} {tv nv cv fv : Value} (h : MeshI w v q F K tv nv cv fv) (hb : Below w.heap.size w w') : MeshI w' v q F K tv nv cv fv :=
  ⟨h.val, h.tail.below hb, h.next.below hb, h.cap.below hb, h.of.below hb⟩
end Go.Proofs.Ytenffkplneimlab


/- Package dual: meshOf. -/
namespace Go.Proofs.Ytenffkplneimlab
open Go Go.RowKit

/-- Along a face that is not laid yet. -/
theorem Sp.FSt.along {st : List Int} (hp : Sp.Perm st) {d k : Nat} {of : List Int} (h : Sp.FSt st d of k) (hd : d < st.length) (h0 : of.getD d 0 = -1) (t : Nat) (ht : t < Sp.per st d) :
    (Sp.paint k of (Sp.rounds st d t)).getD (itf (Sp.fn st) d t) 0 = -1 := by
  have hx := hp.fnP.it hd t
  have hin : ∀ m, of.getD (itf (Sp.fn st) d m) 0 = -1 := fun m => by
    induction m with
    | zero => exact h0
    | succ m ih => exact (h.inv _ (hp.fnP.it hd m)).trans ih
  rw [Sp.paint_get k _ of _ (fun x hx' => ?_) (by rw [h.len]; exact hx), if_neg ?_]
  · exact hin t
  · intro hm
    obtain ⟨i, hi, e⟩ := List.mem_map.1 hm
    rw [List.mem_range] at hi
    rw [hp.nth_it hd] at e
    have e2 : Sp.nth st d (i + (t - i)) = Sp.nth st d i := by rw [show i + (t - i) = t by omega, hp.nth_it hd, hp.nth_it hd, e]
    exact (hp.per hd).2.2.2 (t - i) (by omega) (by omega) (hp.back hd i (t - i) e2)
  · obtain ⟨i, -, rfl⟩ := List.mem_map.1 hx'
    rw [hp.nth_it hd]
    omega
theorem Sp.FSt.round {st : List Int} (hp : Sp.Perm st) {d k : Nat} {of : List Int} (h : Sp.FSt st d of k) (hd : d < st.length) :
    (Sp.paint k of (Sp.rounds st d (Sp.per st d))).getD d 0 = (k : Int) := by
  have hpp := hp.per hd
  rw [Sp.paint_get k _ of _ (fun x hx' => ?_) (by rw [h.len]; exact hd), if_pos ?_]
  · exact List.mem_map.2 ⟨0, List.mem_range.2 (by omega), rfl⟩
  · obtain ⟨i, -, rfl⟩ := List.mem_map.1 hx'
    rw [hp.nth_it hd]
    omega
end Go.Proofs.Ytenffkplneimlab


/- Package dual: Make. -/
namespace Go.Proofs.Ytenffkplneimlab
open Go Go.RowKit

/-- The dual (P301). -/
def Sp.dual (q : Sp.Net) : Sp.Net := ⟨((max (Sp.faces2 q).2 1 : Nat) : Int), (Sp.faces2 q).1, Sp.behindL q.next, q.cap⟩
/-- What Make and the others ask of a net. -/
structure Sp.LinkQ (q : Sp.Net) : Prop where
  nx : q.next.length = q.tail.length
  cp : q.cap.length = q.tail.length
  le : q.tail.length ≤ 60
  ev : q.tail.length % 2 = 0
  pm : Sp.Perm q.next
end Go.Proofs.Ytenffkplneimlab


/- Package dual: Shared; the reference's. -/
namespace Go.Proofs.Ytenffkplneimlab
open Go Go.RowKit

theorem Sp.faces2Go_le (st : List Int) : ∀ g d of k, (Sp.faces2Go st g d of k).2 ≤ k + g
  | 0, _, _, _ => by rw [Sp.faces2Go]; omega
  | g + 1, d, of, k => by
    rw [Sp.faces2Go]
    split
    · have := Sp.faces2Go_le st g (d + 1) of k; omega
    · have := Sp.faces2Go_le st g (d + 1) (Sp.paint k of (Sp.rounds st d (Sp.per st d))) (k + 1); omega
theorem Sp.faces2_le (q : Sp.Net) : (Sp.faces2 q).2 ≤ q.tail.length := by
  have := Sp.faces2Go_le (Sp.behindL q.next) q.tail.length 0 (List.replicate q.tail.length (-1)) 0
  unfold Sp.faces2
  omega
end Go.Proofs.Ytenffkplneimlab


/- How many places a round has; the rounds the other way about. -/
namespace Go.Proofs.Ytenffkplneimlab
open Go Go.RowKit

theorem nodup_sub : ∀ (l1 l2 : List Int), l1.Nodup → (∀ x ∈ l1, x ∈ l2) → l1.length ≤ l2.length
  | [], _, _, _ => Nat.zero_le _
  | a :: t, l2, hd, hs => by
    rw [List.nodup_cons] at hd
    have ha := hs a (by simp)
    have h1 := nodup_sub t (l2.erase a) hd.2 (fun x hx => by
      have hne : x ≠ a := fun e => hd.1 (by rw [← e]; exact hx)
      exact (List.mem_erase_of_ne hne).2 (hs x (by simp [hx])))
    rw [List.length_erase_of_mem ha] at h1
    have := List.length_pos_of_mem ha
    rw [List.length_cons]
    omega
/-- How many places below n are so. -/
def Sp.cnt (p : Nat → Bool) (n : Nat) : Nat := ((List.range n).filter p).length
theorem Sp.cnt_succ (p : Nat → Bool) (n : Nat) : Sp.cnt p (n + 1) = Sp.cnt p n + if p n then 1 else 0 := by
  unfold Sp.cnt
  rw [List.range_succ, List.filter_append, List.length_append]
  by_cases h : p n = true
  · rw [if_pos h]; simp [h]
  · rw [if_neg h]; simp [h]
theorem Sp.cnt_le (p : Nat → Bool) (n : Nat) : Sp.cnt p n ≤ n := by
  have := List.length_filter_le p (List.range n)
  rw [List.length_range] at this
  exact this
theorem Sp.cnt_congr {p p' : Nat → Bool} (n : Nat) (h : ∀ i, i < n → p i = p' i) : Sp.cnt p n = Sp.cnt p' n := by
  unfold Sp.cnt
  rw [List.filter_congr (fun i hi => h i (List.mem_range.1 hi))]
theorem Sp.rounds_nodup {st : List Int} (hp : Sp.Perm st) {x : Nat} (hx : x < st.length) : (Sp.rounds st x (Sp.per st x)).Nodup := by
  obtain ⟨p1, p2, p3, p4⟩ := hp.per hx
  unfold List.Nodup
  rw [List.pairwise_iff_getElem]
  intro i j hi hj hij e
  rw [Sp.rounds_len] at hi hj
  simp only [Sp.rounds, List.getElem_map, List.getElem_range] at e
  have e2 : Sp.nth st x (i + (j - i)) = Sp.nth st x i := by rw [show i + (j - i) = j by omega]; exact e.symm
  exact p4 (j - i) (by omega) (by omega) (hp.back hx i (j - i) e2)
/-- A round has as many places as bear its label. -/
theorem Sp.Perm.count {st : List Int} (hp : Sp.Perm st) {lab : Nat → Nat} {k : Nat} (hc : Cls st.length (Sp.fn st) lab k) {x : Nat} (hx : x < st.length) : Sp.per st x = Sp.cnt (fun i => decide (lab i = lab x)) st.length := by
  have hmem : ∀ i : Nat, (i : Int) ∈ Sp.rounds st x (Sp.per st x) ↔ i < st.length ∧ lab i = lab x := fun i => by
    constructor
    · intro h
      obtain ⟨j, e, o⟩ := (hp.mem_rounds hx _).1 h
      have : i = j := by omega
      subst this
      refine ⟨?_, (hc.orb hp.fnP.mp hx o).symm⟩
      obtain ⟨m, rfl⟩ := o
      exact hp.fnP.it hx m
    · intro ⟨h1, h2⟩
      exact (hp.mem_rounds hx _).2 ⟨i, rfl, hc.sep x i hx h1 h2.symm⟩
  have hnd : (((List.range st.length).filter fun i => decide (lab i = lab x)).map fun i : Nat => (i : Int)).Nodup := by
    unfold List.Nodup
    rw [List.pairwise_map]
    refine List.Pairwise.imp (R := fun a b : Nat => a ≠ b) (fun {a b} (h : a ≠ b) (e : (a : Int) = (b : Int)) => h (by omega)) ?_
    exact List.Pairwise.filter _ List.nodup_range
  have hlen : (((List.range st.length).filter fun i => decide (lab i = lab x)).map fun i : Nat => (i : Int)).length = Sp.cnt (fun i => decide (lab i = lab x)) st.length := by
    rw [List.length_map]; rfl
  have h1 := nodup_sub _ _ (Sp.rounds_nodup hp hx) (fun y hy => by
    obtain ⟨j, rfl, o⟩ := (hp.mem_rounds hx y).1 hy
    have := (hmem j).1 hy
    exact List.mem_map.2 ⟨j, List.mem_filter.2 ⟨List.mem_range.2 this.1, decide_eq_true this.2⟩, rfl⟩)
  have h2 := nodup_sub _ _ hnd (fun y hy => by
    obtain ⟨j, hj, rfl⟩ := List.mem_map.1 hy
    obtain ⟨a, b⟩ := List.mem_filter.1 hj
    exact (hmem j).2 ⟨List.mem_range.1 a, of_decide_eq_true b⟩)
  rw [hlen, Sp.rounds_len] at h1 h2
  omega
theorem Sp.invGo_len (nx : List Int) : ∀ f d acc, (Sp.invGo nx f d acc).length = acc.length
  | 0, _, _ => rfl
  | f + 1, d, acc => by
    rw [Sp.invGo, Sp.invGo_len nx f, List.length_set]
theorem Sp.invGo_get {nx : List Int} (hp : Sp.Perm nx) : ∀ f d acc, d + f = nx.length → acc.length = nx.length → ∀ i, i < nx.length → (Sp.invGo nx f d acc).getD (Sp.fn nx i) 0 = if d ≤ i then (i : Int) else acc.getD (Sp.fn nx i) 0
  | 0, d, acc, hd, hl, i, hi => by rw [if_neg (by omega)]; rfl
  | f + 1, d, acc, hd, hl, i, hi => by
    rw [Sp.invGo, Sp.invGo_get hp f (d + 1) _ (by omega) (by rw [List.length_set]; exact hl) i hi]
    by_cases h1 : d + 1 ≤ i
    · rw [if_pos h1, if_pos (by omega)]
    · rw [if_neg h1]
      have hfd : (nx.getD d 0).toNat < acc.length := by rw [hl]; exact hp.fnP.mp d (by omega)
      rw [getD_set_eq acc _ _ _ hfd]
      by_cases h2 : i = d
      · rw [if_pos (by rw [h2]; rfl), if_pos (by omega), h2]
      · have hne : ¬ Sp.fn nx i = (nx.getD d 0).toNat := fun e => h2 (hp.fnP.inj i d hi (by omega) e)
        rw [if_neg hne, if_neg (by omega)]
theorem Sp.turnL_len (nx : List Int) : (Sp.turnL nx).length = nx.length := by
  unfold Sp.turnL
  rw [Sp.invGo_len, List.length_replicate]
theorem Sp.turnL_back {nx : List Int} (hp : Sp.Perm nx) {i : Nat} (hi : i < nx.length) : (Sp.turnL nx).getD (Sp.fn nx i) 0 = (i : Int) := by
  unfold Sp.turnL
  rw [Sp.invGo_get hp nx.length 0 _ (by omega) (by simp) i hi, if_pos (Nat.zero_le _)]
theorem Sp.Perm.onto {st : List Int} (hp : Sp.Perm st) {j : Nat} (hj : j < st.length) : ∃ i, i < st.length ∧ Sp.fn st i = j := by
  obtain ⟨p1, p2, p3, p4⟩ := hp.per hj
  refine ⟨itf (Sp.fn st) j (Sp.per st j - 1), hp.fnP.it hj _, ?_⟩
  have e := hp.nth_it hj (Sp.per st j)
  rw [p3] at e
  have e2 : itf (Sp.fn st) j (Sp.per st j - 1 + 1) = j := by rw [show Sp.per st j - 1 + 1 = Sp.per st j by omega]; omega
  exact e2
theorem Sp.Perm.turn {nx : List Int} (hp : Sp.Perm nx) : Sp.Perm (Sp.turnL nx) := by
  refine ⟨fun x hx => ?_, fun i j hi hj e => ?_⟩
  · rw [Sp.turnL_len]
    obtain ⟨k, hk, rfl⟩ := List.mem_iff_getElem.1 hx
    rw [Sp.turnL_len] at hk
    rw [← Sp.getD_eq]
    obtain ⟨i, hi, rfl⟩ := hp.onto hk
    rw [Sp.turnL_back hp hi]
    omega
  · rw [Sp.turnL_len] at hi hj
    obtain ⟨a, ha, rfl⟩ := hp.onto hi
    obtain ⟨b, hb, rfl⟩ := hp.onto hj
    rw [Sp.turnL_back hp ha, Sp.turnL_back hp hb] at e
    rw [show a = b by omega]
theorem Sp.fn_turn {nx : List Int} (hp : Sp.Perm nx) {i : Nat} (hi : i < nx.length) : Sp.fn (Sp.turnL nx) (Sp.fn nx i) = i := by
  show ((Sp.turnL nx).getD (Sp.fn nx i) 0).toNat = i
  rw [Sp.turnL_back hp hi, Int.toNat_natCast]
theorem Sp.fn_turn' {nx : List Int} (hp : Sp.Perm nx) {i : Nat} (hi : i < nx.length) : Sp.fn nx (Sp.fn (Sp.turnL nx) i) = i := by
  obtain ⟨a, ha, rfl⟩ := hp.onto hi
  rw [Sp.fn_turn hp ha]
end Go.Proofs.Ytenffkplneimlab


/- Each net that Plane makes is plane. -/
namespace Go.Proofs.Ytenffkplneimlab
open Go Go.RowKit

theorem cls_const (f : Nat → Nat) (h : f 0 = 1 ∧ f 1 = 0) (lab : Nat → Nat) (l0 : lab 0 = 0) (l1 : lab 1 = 0) : Cls 2 f lab 1 := by
  have hc : ∀ i, i < 2 → i = 0 ∨ i = 1 := fun i hi => by omega
  refine ⟨fun i hi => ?_, fun c hc' => ⟨0, by omega, by omega⟩, fun i hi => ?_, fun i j hi hj _ => ?_⟩
  · rcases hc i hi with rfl | rfl <;> omega
  · rcases hc i hi with rfl | rfl
    · rw [h.1, l0, l1]
    · rw [h.2, l0, l1]
  · rcases hc i hi with rfl | rfl <;> rcases hc j hj with rfl | rfl
    · exact OrbF.refl _ _
    · exact ⟨1, h.1⟩
    · exact ⟨1, h.2⟩
    · exact OrbF.refl _ _
theorem cls_each (f : Nat → Nat) (h : f 0 = 0 ∧ f 1 = 1) (lab : Nat → Nat) (l0 : lab 0 = 0) (l1 : lab 1 = 1) : Cls 2 f lab 2 := by
  have hc : ∀ i, i < 2 → i = 0 ∨ i = 1 := fun i hi => by omega
  refine ⟨fun i hi => ?_, fun c hc' => ?_, fun i hi => ?_, fun i j hi hj e => ?_⟩
  · rcases hc i hi with rfl | rfl <;> omega
  · rcases hc c hc' with rfl | rfl
    · exact ⟨0, by omega, l0⟩
    · exact ⟨1, by omega, l1⟩
  · rcases hc i hi with rfl | rfl
    · rw [h.1]
    · rw [h.2]
  · rcases hc i hi with rfl | rfl <;> rcases hc j hj with rfl | rfl
    · exact OrbF.refl _ _
    · omega
    · omega
    · exact OrbF.refl _ _
theorem Sp.Plain.loop (c d : Int) : Sp.Plain ⟨1, [0, 0], [1, 0], [c, d]⟩ := by
  refine ⟨cls_const _ ⟨rfl, rfl⟩ _ rfl rfl, ⟨fun i => i, 2, cls_each _ ⟨rfl, rfl⟩ _ rfl rfl, by show (1 : Int) - ((2 / 2 : Nat) : Int) + ((2 : Nat) : Int) = 2; decide⟩, fun v h0 h1 => ?_⟩
  have h1' : v < 1 := h1
  obtain rfl : v = 0 := by omega
  exact .refl _
theorem Sp.Plain.edge (c d : Int) : Sp.Plain ⟨2, [0, 1], [0, 1], [c, d]⟩ := by
  refine ⟨cls_each _ ⟨rfl, rfl⟩ _ rfl rfl, ⟨fun _ => 0, 1, cls_const _ ⟨rfl, rfl⟩ _ rfl rfl, by show (2 : Int) - ((2 / 2 : Nat) : Int) + ((1 : Nat) : Int) = 2; decide⟩, fun v h0 h1 => ?_⟩
  have h1' : v < 2 := h1
  rcases (show v = 0 ∨ v = 1 by omega) with rfl | rfl
  · exact .refl _
  · exact Sp.Reach.step (tl := [0, 1]) (d := 0) (.refl _) (by decide)
end Go.Proofs.Ytenffkplneimlab


/- The reference's Split. -/
namespace Go.Proofs.Ytenffkplneimlab
open Go Go.RowKit

theorem ButRow.dn {g : Nat} {w w' : World} (h : ButRow g w w') (n : Nat) : ButRow g w (w'.drewN n) := ⟨h.os, h.tape, h.output, h.size, h.block⟩
end Go.Proofs.Ytenffkplneimlab


