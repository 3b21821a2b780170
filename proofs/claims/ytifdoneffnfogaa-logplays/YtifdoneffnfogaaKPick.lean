/- The contract of package disk's picked. -/
import Derived.Test.YtifdoneffnfogaaProg
import Derived.Test.YtifdoneffnfogaaBase
import Derived.Test.YtifdoneffnfogaaTmod
namespace Go.Proofs.Ytifdoneffnfogaa
open Go.RowKit
set_option linter.unusedSimpArgs false
set_option linter.unusedVariables false

theorem tmod_picked (a n : Int) (hn : 0 < n) : (a.tmod n + n).tmod n = a % n := by
  have h2 := Int.emod_nonneg a (b := n) (by omega)
  have h3 := Int.emod_lt_of_pos a hn
  by_cases h : a.tmod n < 0
  · rw [tmod_neg a n hn h] at h2 h3 ⊢
    exact Int.tmod_eq_of_lt h2 h3
  · rw [tmod_pos a n hn (by omega)] at h2 h3 ⊢
    rw [Int.tmod_eq_emod_of_nonneg (by omega), Int.add_emod_right, Int.emod_eq_of_lt h2 h3]

theorem kpicked_any (a n : Int) (h0 : 0 < n) (h1 : n ≤ 2147483648) (w : World) : Calls Try.prog 42 #[.int .i64 a, .int .i64 n] w fun e w' => e = .returned (.int .i64 (a % n)) ∧ w' = w := by
  have h4 := Int.lt_tmod_of_pos a h0
  have h5 := Int.tmod_lt_of_pos a h0
  have HP := hid (show (a.tmod n + n) % n = a % n from (Int.tmod_eq_emod_of_nonneg (show 0 ≤ a.tmod n + n by omega)).symm.trans (tmod_picked a n h0))
  go_enter Try.func42, Try.ntmps42
  go_wp2
  go_ret
  exact ⟨by rw [← HP.out]; rfl, rfl⟩

end Go.Proofs.Ytifdoneffnfogaa
