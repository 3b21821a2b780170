/- The contracts of known and within. -/
import Derived.Test.YtbbmeeijebkpbaaWrite
namespace Go.Proofs.Ytbbmeeijebkpbaa
open Go.RowKit

theorem Reads.nil (w : World) : Reads w (.slice none 0 0) [] := ⟨none, 0, rfl, Nat.le_refl _, fun _ => rfl, fun _ h => by cases h⟩

theorem le_minus2 : le 8 ((-2 : Int) % 18446744073709551616).toNat = [254, 255, 255, 255, 255, 255, 255, 255] := by decide +kernel

set_option maxRecDepth 100000 in
set_option maxHeartbeats 400000 in
theorem known_any (w : World) : Calls Try.prog 9 #[] w fun e w' => e = .returned (.bool true) ∧ Below w.heap.size w w' := by
  go_enter Try.func9, Try.ntmps9
  go_wp2_with fail
  refine (wInt_any _ [] (-2) _ (Reads.nil _) (by simp) (by simp)).mono ?_
  rintro e w1 ⟨g, cap, rfl, hg, ho, hb1⟩
  rw [le_minus2] at ho
  have c0 : w1.cell? ⟨g, 0, none⟩ = some (.int .u8 254) := ho.cell (j := 0) rfl
  have c7 : w1.cell? ⟨g, 7, none⟩ = some (.int .u8 255) := ho.cell (j := 7) rfl
  simp only [List.length_nil, Nat.zero_add]
  have hc8 : 8 ≤ cap := ho.2.1
  clear ho
  go_wp2_with fail
  refine (wText_short _ [] ⟨#[97, 98]⟩ _ (Reads.nil _) (by simp) (by decide) (by decide)).mono ?_
  rintro e w2 ⟨g2, cap2, rfl, hg2, ho2, hb2⟩
  have h4 : ([] : List Value).length + 2 + ByteArray.size ⟨#[97, 98]⟩ = 4 := rfl
  rw [h4]
  clear h4 ho2
  have HB : Hid (Below w.heap.size w w2) := hb1.trans (hb2.mono hb1.size)
  clear hb1 hb2 c0 c7
  go_wp2_with fail
  go_ret
  exact ⟨rfl, HB.out⟩

theorem tmod_neg (a n : Int) (hn : 0 < n) (h : a.tmod n < 0) : a % n = a.tmod n + n := by
  have h1 := Int.tmod_eq_emod_of_nonneg (a := a) (b := n)
  have h2 := Int.emod_nonneg a (b := n) (by omega)
  have h3 := Int.emod_lt_of_pos a hn
  have h4 := Int.lt_tmod_of_pos a hn
  have h5 : (n ∣ a % n - a.tmod n) := by
    have e1 := Int.emod_add_mul_ediv a n
    have e2 := Int.tmod_add_mul_tdiv a n
    refine ⟨a.tdiv n - a / n, ?_⟩
    rw [Int.mul_sub]
    omega
  obtain ⟨k, hk⟩ := h5
  have hk1 : n * 0 < n * k := by omega
  have hk2 : n * k < n * 2 := by omega
  have k1 : 0 < k := Int.lt_of_mul_lt_mul_left hk1 (by omega)
  have k2 : k < 2 := Int.lt_of_mul_lt_mul_left hk2 (by omega)
  have : k = 1 := by omega
  subst this
  omega

theorem tmod_pos (a n : Int) (hn : 0 < n) (h : 0 ≤ a.tmod n) : a % n = a.tmod n := by
  have h2 := Int.emod_nonneg a (b := n) (by omega)
  have h3 := Int.emod_lt_of_pos a hn
  have h4 := Int.tmod_lt_of_pos a hn
  have h5 : (n ∣ a % n - a.tmod n) := by
    have e1 := Int.emod_add_mul_ediv a n
    have e2 := Int.tmod_add_mul_tdiv a n
    refine ⟨a.tdiv n - a / n, ?_⟩
    rw [Int.mul_sub]
    omega
  obtain ⟨k, hk⟩ := h5
  have hk1 : n * (-1) < n * k := by omega
  have hk2 : n * k < n * 1 := by omega
  have k1 : -1 < k := Int.lt_of_mul_lt_mul_left hk1 (by omega)
  have k2 : k < 1 := Int.lt_of_mul_lt_mul_left hk2 (by omega)
  have : k = 0 := by omega
  subst this
  omega

set_option maxHeartbeats 400000 in
theorem within_any (a n : Int) (h0 : 0 < n) (h1 : n ≤ 1000) (w : World) :
    Calls Try.prog 18 #[.int .i64 a, .int .i64 n] w fun e w' => e = .returned (.int .i64 (a % n)) ∧ w' = w := by
  have h4 := Int.lt_tmod_of_pos a h0
  have h5 := Int.tmod_lt_of_pos a h0
  have hneg := tmod_neg a n h0
  have hpos := tmod_pos a n h0
  have HN : Hid (a.tmod n < 0 → a % n = a.tmod n + n) := hneg
  have HP : Hid (0 ≤ a.tmod n → a % n = a.tmod n) := hpos
  clear hneg hpos
  go_enter Try.func18, Try.ntmps18
  go_wp2
  · go_ret
    exact ⟨by rw [HN.out (by assumption)]; rfl, rfl⟩
  · go_ret
    exact ⟨by rw [HP.out (by assumption)]; rfl, rfl⟩
end Go.Proofs.Ytbbmeeijebkpbaa
