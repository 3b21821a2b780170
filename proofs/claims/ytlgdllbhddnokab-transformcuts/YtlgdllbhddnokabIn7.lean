/- The contract of the laws' own function in (chapter 7): does a cut take a place away. -/
import Derived.Test.YtlgdllbhddnokabRows
import Derived.Test.YtlgdllbhddnokabBase
import Derived.Deep.DeepCutAuto
namespace Go.Proofs.Ytlgdllbhddnokab
open Go.RowKit
set_option linter.unusedSimpArgs false
set_option linter.unusedVariables false

def clampZ (x m : Int) : Int := if x < 0 then 0 else if m < x then m else x
def atZ (n a : Int) : Int := clampZ (a.tmod n) (n - 1)
def inB (n a b i : Int) : Bool := decide (atZ n a ≤ i) && decide (i < atZ n a + 1 + clampZ (b.tmod (n - atZ n a)) (n - atZ n a - 1))
theorem clamp_le {x m : Int} (h : 0 ≤ m) : 0 ≤ clampZ x m ∧ clampZ x m ≤ m := by
  unfold clampZ
  split
  · omega
  · split <;> omega

set_option maxRecDepth 100000 in
set_option maxHeartbeats 1000000 in
theorem in_any (n i : Nat) (h1 : 1 ≤ n) (h2 : n ≤ 400) (hi : i < n) (a b : Int) (w : World) :
    Calls Try.prog 18 #[.int .i64 (n : Int), .int .i64 a, .int .i64 b, .int .i64 (i : Int)] w fun e w' => e = .returned (.bool (inB n a b i)) ∧ w' = w := by
  have hn0 : ¬ ((n : Int) = 0) := by omega
  have hn1 : ((n : Int) == 0) = false := by simp; omega
  go_enter Try.func18, Try.ntmps18
  go_upto_region 1 with fail
  go_cut [9] (fun s9 w' => s9 = .int .i64 (atZ n a) ∧ w = w')
  case first =>
    go_wp2_with fail
    all_goals
      go_meet
      case rel => exact ⟨congrArg (Value.int .i64) (by unfold atZ clampZ; split <;> (try split) <;> omega), rfl⟩
  case rest =>
  obtain ⟨rfl, rfl⟩ := hcut
  have HB := hid (show inB n a b i = (decide (atZ n a ≤ i) && decide ((i : Int) < atZ n a + 1 + clampZ (b.tmod (n - atZ n a)) (n - atZ n a - 1))) from rfl)
  have hA0 := clamp_le (x := a.tmod n) (m := (n : Int) - 1) (by omega)
  rw [show clampZ (a.tmod n) ((n : Int) - 1) = atZ n a from rfl] at hA0
  obtain ⟨A, hA⟩ : ∃ A, atZ n a = A := ⟨_, rfl⟩
  rw [hA] at HB hA0 ⊢
  clear hA hn0 hn1
  obtain ⟨hA1, hA2⟩ := hA0
  by_cases hle : A ≤ i
  · have hd0 : ¬ ((n : Int) - A = 0) := by omega
    have hd1 : ((n : Int) - A == 0) = false := by simp; omega
    go_wp2_with fail
    all_goals
      go_ret
      refine ⟨?_, rfl⟩
      rw [HB.out, decide_eq_true hle, Bool.true_and]
      refine congrArg (fun x => Ending.returned (Value.bool x)) ?_
      exact decide_eq_decide.2 (by unfold clampZ; split <;> (try split) <;> omega)
  · go_wp2_with fail
    go_ret
    exact ⟨by rw [HB.out, decide_eq_false (by omega)]; rfl, rfl⟩
end Go.Proofs.Ytlgdllbhddnokab
