/- Go's remainder and the one that is never negative; of no program. -/
import Derived.WalkKit
namespace Go.Proofs.Ytjedajfemhpogaa
open Go.RowKit
set_option linter.unusedSimpArgs false
set_option linter.unusedVariables false

theorem tmod_neg (a n : Int) (hn : 0 < n) (h : a.tmod n < 0) : a % n = a.tmod n + n := by
  have h1 := Int.tmod_eq_emod_of_nonneg (a := a) (b := n)
  have h2 := Int.emod_nonneg a (b := n) (by omega)
  have h3 := Int.emod_lt_of_pos a hn
  have h4 := Int.lt_tmod_of_pos a hn
  have h5 : (n ∣ a % n - a.tmod n) := by
    have e1 := Int.emod_add_mul_ediv a n
    have e2 := Int.tmod_add_mul_tdiv a n
    refine ⟨a.tdiv n - a / n, ?_⟩
    rw [Int.mul_sub]
    omega
  obtain ⟨k, hk⟩ := h5
  have hk1 : n * 0 < n * k := by omega
  have hk2 : n * k < n * 2 := by omega
  have k1 : 0 < k := Int.lt_of_mul_lt_mul_left hk1 (by omega)
  have k2 : k < 2 := Int.lt_of_mul_lt_mul_left hk2 (by omega)
  have : k = 1 := by omega
  subst this
  omega

theorem tmod_pos (a n : Int) (hn : 0 < n) (h : 0 ≤ a.tmod n) : a % n = a.tmod n := by
  have h2 := Int.emod_nonneg a (b := n) (by omega)
  have h3 := Int.emod_lt_of_pos a hn
  have h4 := Int.tmod_lt_of_pos a hn
  have h5 : (n ∣ a % n - a.tmod n) := by
    have e1 := Int.emod_add_mul_ediv a n
    have e2 := Int.tmod_add_mul_tdiv a n
    refine ⟨a.tdiv n - a / n, ?_⟩
    rw [Int.mul_sub]
    omega
  obtain ⟨k, hk⟩ := h5
  have hk1 : n * (-1) < n * k := by omega
  have hk2 : n * k < n * 1 := by omega
  have k1 : -1 < k := Int.lt_of_mul_lt_mul_left hk1 (by omega)
  have k2 : k < 1 := Int.lt_of_mul_lt_mul_left hk2 (by omega)
  have : k = 0 := by omega
  subst this
  omega
end Go.Proofs.Ytjedajfemhpogaa
