/- The contract of the second say's Pair, in short. -/
import Derived.Test.YtlgdllbhddnokaaRPair
import Derived.Test.YtlgdllbhddnokaaObT
namespace Go.Proofs.Ytlgdllbhddnokaa
open Go.RowKit
set_option linter.unusedSimpArgs false
set_option linter.unusedVariables false

section
variable {w w' : World} {v va vb : Value} {o a b X Y : List Cp} {i u j t r : Nat}
theorem rpair_ob (ha : Ob w va a i u) (hb : Ob w vb b i t) (hP : PX a b X Y r) (hr : r ≤ 400) :
    Calls Try.prog 13 #[va, vb] w fun e w' => ∃ vx vy, e = .returned (.tuple #[vx, vy, .int .i64 0]) ∧ Ob w' vx (normS X) t r ∧ Ob w' vy (normS Y) u r ∧ Below w.heap.size w w' := by
  have h1 := ha.outs
  have h2 := hb.outs
  refine (refPair_any va vb a b X Y i u i t w ha hb (fun _ => hP.pr)).mono ?_
  rintro e w' ⟨_, h, hb'⟩
  obtain ⟨vx, vy, rfl, hX, hY⟩ := h rfl
  obtain ⟨k1, k2, k3, k4, k5, k6⟩ := hP.x ha.good hb.good
  exact ⟨vx, vy, rfl, ⟨hX.reads, k5, by omega, k3, hb.hu, hr⟩, ⟨hY.reads, k6, by omega, k4, ha.hu, hr⟩, hb'⟩
theorem rpair_bad (ha : Ob w va a i u) (hb : Ob w vb b j t) (hne : i ≠ j) :
    Calls Try.prog 13 #[va, vb] w fun e w' => e = .returned (.tuple #[.slice none 0 0, .slice none 0 0, .int .i64 7]) ∧ Below w.heap.size w w' := by
  refine (refPair_any va vb a b [] [] i u j t w ha hb (fun h => absurd h hne)).mono ?_
  rintro e w' ⟨h, _, hb'⟩
  exact ⟨h hne, hb'⟩
end
end Go.Proofs.Ytlgdllbhddnokaa
