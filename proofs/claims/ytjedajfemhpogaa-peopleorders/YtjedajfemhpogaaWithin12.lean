/- The contract of the laws' own within (chapter 12). -/
import Derived.Test.YtjedajfemhpogaaProg
import Derived.Test.YtjedajfemhpogaaBase
import Derived.Test.YtjedajfemhpogaaTmod
namespace Go.Proofs.Ytjedajfemhpogaa
open Go.RowKit
set_option linter.unusedSimpArgs false
set_option linter.unusedVariables false

set_option maxHeartbeats 400000 in
theorem within12_any (a n : Int) (h0 : 0 < n) (h1 : n ≤ 2147483648) (w : World) :
    Calls Try.prog 7 #[.int .i64 a, .int .i64 n] w fun e w' => e = .returned (.int .i64 (a % n)) ∧ w' = w := by
  have h4 := Int.lt_tmod_of_pos a h0
  have h5 := Int.tmod_lt_of_pos a h0
  have hneg := tmod_neg a n h0
  have hpos := tmod_pos a n h0
  have HN : Hid (a.tmod n < 0 → a % n = a.tmod n + n) := hneg
  have HP : Hid (0 ≤ a.tmod n → a % n = a.tmod n) := hpos
  clear hneg hpos
  go_enter Try.func7, Try.ntmps7
  go_wp2
  · go_ret
    exact ⟨by rw [HN.out (by assumption)]; rfl, rfl⟩
  · go_ret
    exact ⟨by rw [HP.out (by assumption)]; rfl, rfl⟩

end Go.Proofs.Ytjedajfemhpogaa
