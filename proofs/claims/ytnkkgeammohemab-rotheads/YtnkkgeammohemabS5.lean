/- The walks of the second law's within and lay, of the second reference's Head. -/
import Derived.Test.YtnkkgeammohemabS4
namespace Go.Proofs.Ytnkkgeammohemab
open Go Go.RowKit

set_option maxHeartbeats 400000 in
theorem within2_any (a n : Int) (w : World) (hn : 0 < n) (hn1 : n ≤ 4611686018427387904) :
    Calls Try.prog 10 #[.int .i64 a, .int .i64 n] w fun e w' => e = .returned (.int .i64 (a % n)) ∧ w' = w := by
  have h0 : 0 ≤ a % n := Int.emod_nonneg a (by omega)
  have h1 : a % n < n := Int.emod_lt_of_pos a hn
  rcases tmod_cases a n hn with ⟨ha, hb⟩ | ⟨ha, hb⟩
  · have hc : -n ≤ a.tmod n := by omega
    have Hb := hide hb; clear hb h0 h1
    go_enter Try.func10, Try.ntmps10
    go_wp2
    go_ret
    exact ⟨ret_int (unhide Hb), rfl⟩
  · have Hb := hide hb; clear hb h0 h1
    go_enter Try.func10, Try.ntmps10
    go_wp2
    go_ret
    exact ⟨ret_int (unhide Hb), rfl⟩
/-- A row of the caller's own, another one laid behind a dart. -/
def Sp.layIn (l : List Int) (bh d : Nat) : List Int := (l.set d (l.getD bh 0)).set bh (d : Int)
set_option maxRecDepth 100000 in
set_option maxHeartbeats 400000 in
theorem lay_any (l : List Int) (B g n c bh d : Nat) (w : World) (hO : OwnI w B (.slice (some ⟨g, 0, none⟩) n c) l) (hl : l.length = n) (_hn : n ≤ 1000) (hbh : bh < n) (hd : d < n) (hne : bh ≠ d) :
    Calls Try.prog 30 #[.slice (some ⟨g, 0, none⟩) n c, .int .i64 (bh : Int), .int .i64 (d : Int)] w fun e w' => (∃ v, e = .returned v) ∧ OwnI w' B (.slice (some ⟨g, 0, none⟩) n c) (Sp.layIn l bh d) ∧ ButRow g w w' := by
  have r1 := own_cell hO bh (by omega)
  have r2 := own_cell hO d (by omega)
  have y1 := own_frozen hO bh
  have y2 := own_frozen hO d
  have HL : Hid (Sp.layIn l bh d = (l.set d (l.getD bh 0)).set bh (d : Int)) := hide rfl
  have HG : Hid (l.getD bh 0 = l[bh]'(by omega)) := hide (Sp.getD_eq _ _ (by omega))
  generalize Sp.layIn l bh d = R at *
  have HO := hide hO
  clear hO
  generalize l[bh]'_ = z at *
  generalize l[d]'_ = z2 at *
  have hbI : (bh : Int) < n := by omega
  have hdI : (d : Int) < n := by omega
  clear hl
  go_enter Try.func30, Try.ntmps30
  go_wp2
  exact ⟨rfl, .tuple #[], by simp [results, Try.results30, go_sem], ⟨_, rfl⟩, by rw [unhide HL, unhide HG]; exact own_setCell (own_setCell (unhide HO) d z) bh d, ((ButRow.refl g w).setCell d _).setCell bh _⟩
end Go.Proofs.Ytnkkgeammohemab


