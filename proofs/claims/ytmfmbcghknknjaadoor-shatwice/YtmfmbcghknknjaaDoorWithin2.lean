/- The contract of within. -/
import Derived.Test.YtmfmbcghknknjaaDoorEqH
import Derived.Test.YtmfmbcghknknjaaDoorKnown2
namespace Go.Proofs.YtmfmbcghknknjaaDoor
open Go.RowKit
set_option linter.unusedSimpArgs false
set_option linter.unusedVariables false

theorem tmod_neg (a n : Int) (hn : 0 < n) (h : a.tmod n < 0) : a % n = a.tmod n + n := by
  have h1 := Int.tmod_eq_emod_of_nonneg (a := a) (b := n)
  have h2 := Int.emod_nonneg a (b := n) (by omega)
  have h3 := Int.emod_lt_of_pos a hn
  have h4 := Int.lt_tmod_of_pos a hn
  have h5 : (n ∣ a % n - a.tmod n) := by
    have e1 := Int.emod_add_mul_ediv a n
    have e2 := Int.tmod_add_mul_tdiv a n
    refine ⟨a.tdiv n - a / n, ?_⟩
    rw [Int.mul_sub]
    omega
  obtain ⟨k, hk⟩ := h5
  have hk1 : n * 0 < n * k := by omega
  have hk2 : n * k < n * 2 := by omega
  have k1 : 0 < k := Int.lt_of_mul_lt_mul_left hk1 (by omega)
  have k2 : k < 2 := Int.lt_of_mul_lt_mul_left hk2 (by omega)
  have : k = 1 := by omega
  subst this
  omega

theorem tmod_pos (a n : Int) (hn : 0 < n) (h : 0 ≤ a.tmod n) : a % n = a.tmod n := by
  have h2 := Int.emod_nonneg a (b := n) (by omega)
  have h3 := Int.emod_lt_of_pos a hn
  have h4 := Int.tmod_lt_of_pos a hn
  have h5 : (n ∣ a % n - a.tmod n) := by
    have e1 := Int.emod_add_mul_ediv a n
    have e2 := Int.tmod_add_mul_tdiv a n
    refine ⟨a.tdiv n - a / n, ?_⟩
    rw [Int.mul_sub]
    omega
  obtain ⟨k, hk⟩ := h5
  have hk1 : n * (-1) < n * k := by omega
  have hk2 : n * k < n * 1 := by omega
  have k1 : -1 < k := Int.lt_of_mul_lt_mul_left hk1 (by omega)
  have k2 : k < 1 := Int.lt_of_mul_lt_mul_left hk2 (by omega)
  have : k = 0 := by omega
  subst this
  omega

set_option maxHeartbeats 400000 in
theorem within_any (a n : Int) (h0 : 0 < n) (h1 : n ≤ 1000) (w : World) :
    Calls Tryd.prog 9 #[.int .i64 a, .int .i64 n] w fun e w' => e = .returned (.int .i64 (a % n)) ∧ w' = w := by
  have h4 := Int.lt_tmod_of_pos a h0
  have h5 := Int.tmod_lt_of_pos a h0
  have hneg := tmod_neg a n h0
  have hpos := tmod_pos a n h0
  have HN : Hid (a.tmod n < 0 → a % n = a.tmod n + n) := hneg
  have HP : Hid (0 ≤ a.tmod n → a % n = a.tmod n) := hpos
  clear hneg hpos
  go_enter Tryd.func9, Tryd.ntmps9
  go_wp2
  · go_ret
    exact ⟨by rw [HN.out (by assumption)]; rfl, rfl⟩
  · go_ret
    exact ⟨by rw [HP.out (by assumption)]; rfl, rfl⟩
end Go.Proofs.YtmfmbcghknknjaaDoor
