/- The contract of within, sums compared, and a row of bytes that is written to. -/
import Derived.Test.YtmfmbcghknknjaaDoorRefSum
import Derived.Test.YtmfmbcghknknjaaDoorLaid2
namespace Go.Proofs.YtmfmbcghknknjaaDoor
open Go.RowKit
set_option linter.unusedSimpArgs false
set_option linter.unusedVariables false

theorem tmod_neg (a n : Int) (hn : 0 < n) (h : a.tmod n < 0) : a % n = a.tmod n + n := by
  have h1 := Int.tmod_eq_emod_of_nonneg (a := a) (b := n)
  have h2 := Int.emod_nonneg a (b := n) (by omega)
  have h3 := Int.emod_lt_of_pos a hn
  have h4 := Int.lt_tmod_of_pos a hn
  have h5 : (n ∣ a % n - a.tmod n) := by
    have e1 := Int.emod_add_mul_ediv a n
    have e2 := Int.tmod_add_mul_tdiv a n
    refine ⟨a.tdiv n - a / n, ?_⟩
    rw [Int.mul_sub]
    omega
  obtain ⟨k, hk⟩ := h5
  have hk1 : n * 0 < n * k := by omega
  have hk2 : n * k < n * 2 := by omega
  have k1 : 0 < k := Int.lt_of_mul_lt_mul_left hk1 (by omega)
  have k2 : k < 2 := Int.lt_of_mul_lt_mul_left hk2 (by omega)
  have : k = 1 := by omega
  subst this
  omega

theorem tmod_pos (a n : Int) (hn : 0 < n) (h : 0 ≤ a.tmod n) : a % n = a.tmod n := by
  have h2 := Int.emod_nonneg a (b := n) (by omega)
  have h3 := Int.emod_lt_of_pos a hn
  have h4 := Int.tmod_lt_of_pos a hn
  have h5 : (n ∣ a % n - a.tmod n) := by
    have e1 := Int.emod_add_mul_ediv a n
    have e2 := Int.tmod_add_mul_tdiv a n
    refine ⟨a.tdiv n - a / n, ?_⟩
    rw [Int.mul_sub]
    omega
  obtain ⟨k, hk⟩ := h5
  have hk1 : n * (-1) < n * k := by omega
  have hk2 : n * k < n * 1 := by omega
  have k1 : -1 < k := Int.lt_of_mul_lt_mul_left hk1 (by omega)
  have k2 : k < 1 := Int.lt_of_mul_lt_mul_left hk2 (by omega)
  have : k = 0 := by omega
  subst this
  omega

set_option maxHeartbeats 400000 in
theorem within_any (a n : Int) (h0 : 0 < n) (h1 : n ≤ 1000) (w : World) :
    Calls Tryd.prog 9 #[.int .i64 a, .int .i64 n] w fun e w' => e = .returned (.int .i64 (a % n)) ∧ w' = w := by
  have h4 := Int.lt_tmod_of_pos a h0
  have h5 := Int.tmod_lt_of_pos a h0
  have hneg := tmod_neg a n h0
  have hpos := tmod_pos a n h0
  have HN : Hid (a.tmod n < 0 → a % n = a.tmod n + n) := hneg
  have HP : Hid (0 ≤ a.tmod n → a % n = a.tmod n) := hpos
  clear hneg hpos
  go_enter Tryd.func9, Tryd.ntmps9
  go_wp2
  · go_ret
    exact ⟨by rw [HN.out (by assumption)]; rfl, rfl⟩
  · go_ret
    exact ⟨by rw [HP.out (by assumption)]; rfl, rfl⟩

theorem eqH (l : List UInt8) (hl : l.length = 32) (w : World) : (Op.equalIn 10000 24 (.agg (B l).toArray) (.agg (B l).toArray)).run Tryd.prog w = .ok true w := by
  have h := run_equalIn_bytes (P := Tryd.prog) w 9998 24 5 32 Tryd.underlying24 Tryd.underlying5 Tryd.sizeByte l l hl hl
  rw [show (l == l) = true by simp] at h
  exact h

theorem u8_val (v : Int) (h0 : 0 ≤ v) (h1 : v < 256) : Value.int .u8 v = Value.int .u8 (UInt8.ofNat v.toNat).toNat := by
  rw [UInt8.toNat_ofNat']
  congr 1
  omega

theorem Owns.setByte {w : World} {e : TypeId} {g cap n : Nat} {l : List UInt8} (h : Owns w e g cap n (B l)) (j : Nat) (v : Int) (h0 : 0 ≤ v) (h1 : v < 256) :
    Owns (w.setCell ⟨g, j, none⟩ (.int .u8 v)) e g cap n (B (l.set j (UInt8.ofNat v.toNat))) := by
  obtain ⟨l1, l2, l3, cur, hg, h4, h5⟩ := h
  rw [setCell_eq_setRow w g j cur e (0, 0) _ hg, u8_val v h0 h1]
  refine ⟨by rw [B_length, List.length_set]; rw [B_length] at l1; exact l1, l2, l3, _, setRow_heap w g cur _ e _ hg, by rw [Array.size_setIfInBounds]; exact h4, ?_⟩
  rw [Array.toList_setIfInBounds, List.take_set, h5]
  simp [B, List.map_set]
end Go.Proofs.YtmfmbcghknknjaaDoor
