/- The contract of Make with a whole number; nothing and nothing are the same. -/
import Derived.Test.YtlgdllbhddnokaaObR
namespace Go.Proofs.Ytlgdllbhddnokaa
open Go.RowKit
set_option linter.unusedSimpArgs false
set_option linter.unusedVariables false

theorem make_obz {w : World} (z : Int) (h0 : 0 ≤ z) (h1 : z ≤ 120) (ao : Option Addr) (len cap : Nat) (hns : NS w ao len) (hcap : len ≤ cap) (hlen : len ≤ 9223372036854775807) :
    Calls Try.prog 11 #[.int .i64 z, .slice ao len cap] w fun e w' => ∃ v, e = .returned v ∧ ∃ (o : List Cp) (k u : Nat), Ob w' v o k u ∧ u ≤ 120 ∧ Below w.heap.size w w' := by
  obtain ⟨k, rfl⟩ : ∃ k : Nat, z = (k : Int) := Int.eq_ofNat_of_zero_le h0
  refine (make_ob k (by omega) ao len cap hns hcap hlen).mono ?_
  rintro e w' ⟨v, rfl, o, u, ho, hu, hb⟩
  exact ⟨v, rfl, o, k, u, ho, hu, hb⟩
theorem nil_same {w : World} (va vb : Value) (ha : va = .slice none 0 0) (hb : vb = .slice none 0 0) :
    Calls Try.prog 14 #[va, vb] w fun e w' => e = .returned (.bool true) ∧ Below w.heap.size w w' := by
  subst ha hb
  refine (refSame_any _ _ [] [] w (RC.nil _) (RC.nil _) (by simp) (by simp)).mono ?_
  rintro e w' ⟨rfl, hb⟩
  exact ⟨rfl, hb⟩
end Go.Proofs.Ytlgdllbhddnokaa
