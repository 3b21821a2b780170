/- Whole numbers as floats of 64 bits: below 2^53 they are exact: their sums, their order, and back again; of no program. -/
import Derived.Laws.ComplexArith
namespace Go.Proofs.Ytifdoneffnfogab
open Ieee

theorem cut_zero (way : Toward) (hw : way = .even ∨ way = .zero) (n : Nat) : way.cut false n 0 = n := by
  rcases hw with rfl | rfl <;> simp [Toward.cut, Nat.mod_one]

theorem cut_exact (way : Toward) (hw : way = .even ∨ way = .zero) (n d : Nat) : way.cut false (n * 2 ^ d) d = n := by
  have h2 : 0 < 2 ^ d := Nat.two_pow_pos d
  by_cases h0 : n = 0
  · subst h0
    rcases hw with rfl | rfl <;> simp [Toward.cut]
  · have hl : d ≤ (n * 2 ^ d).log2 := (Nat.le_log2 (Nat.mul_ne_zero h0 (Nat.ne_of_gt h2))).2 (by calc 2 ^ d = 1 * 2 ^ d := by rw [Nat.one_mul]
                                                                                              _ ≤ n * 2 ^ d := Nat.mul_le_mul_right _ (by omega))
    have hm : min d ((n * 2 ^ d).log2 + 2) = d := Nat.min_eq_left (by omega)
    have hg : 1 <<< min d ((n * 2 ^ d).log2 + 2) = 2 ^ d := by rw [hm, Nat.one_shiftLeft]
    rcases hw with rfl | rfl
    · simp only [Toward.cut, hg, Nat.mul_div_cancel _ h2, Nat.mul_mod_left]
      simp
    · simp only [Toward.cut, hg, Nat.mul_div_cancel _ h2]
      simp

theorem log2_mul_pow (n k : Nat) (h0 : n ≠ 0) : (n * 2 ^ k).log2 = n.log2 + k := by
  have h2 : 0 < 2 ^ k := Nat.two_pow_pos k
  have hne : n * 2 ^ k ≠ 0 := Nat.mul_ne_zero h0 (Nat.ne_of_gt h2)
  apply Nat.le_antisymm
  · have : (n * 2 ^ k).log2 < n.log2 + k + 1 := (Nat.log2_lt hne).2 (by
      have := Nat.lt_log2_self (n := n)
      calc n * 2 ^ k < 2 ^ (n.log2 + 1) * 2 ^ k := Nat.mul_lt_mul_of_pos_right this h2
        _ = 2 ^ (n.log2 + k + 1) := by rw [← Nat.pow_add]; congr 1; omega)
    omega
  · refine (Nat.le_log2 hne).2 ?_
    rw [Nat.pow_add]
    exact Nat.mul_le_mul_right _ (Nat.log2_self_le h0)

/-- n times 2^k, at the place -k, is written as n. -/
theorem nearest_scaled (n k : Nat) (hn : n < 2 ^ 53) : double.nearest false (n * 2 ^ k) (-(k : Int)) = double.nearest false n 0 := by
  by_cases h0 : n = 0
  · subst h0; simp [Format.nearest]
  · have h2 : 0 < 2 ^ k := Nat.two_pow_pos k
    have hne : n * 2 ^ k ≠ 0 := Nat.mul_ne_zero h0 (Nat.ne_of_gt h2)
    have hL : n.log2 < 53 := (Nat.log2_lt h0).2 hn
    obtain ⟨d, hd⟩ : ∃ d, n.log2 + d = 52 := ⟨52 - n.log2, by omega⟩
    have key : ∀ (m i : Nat), m = n * 2 ^ i → Toward.even.cut false (m <<< ((-(i : Int)) - (-(d : Int))).toNat) ((-(d : Int)) - (-(i : Int))).toNat = n * 2 ^ d := by
      rintro m i rfl
      by_cases hi : i ≤ d
      · have e1 : ((-(i : Int)) - (-(d : Int))).toNat = d - i := by omega
        have e2 : ((-(d : Int)) - (-(i : Int))).toNat = 0 := by omega
        rw [e1, e2, cut_zero _ (.inl rfl), Nat.shiftLeft_eq, Nat.mul_assoc, ← Nat.pow_add]
        congr 2; omega
      · have e1 : ((-(i : Int)) - (-(d : Int))).toNat = 0 := by omega
        have e2 : ((-(d : Int)) - (-(i : Int))).toNat = i - d := by omega
        rw [e1, e2, Nat.shiftLeft_zero, show n * 2 ^ i = (n * 2 ^ d) * 2 ^ (i - d) by rw [Nat.mul_assoc, ← Nat.pow_add]; congr 2; omega]
        exact cut_exact _ (.inl rfl) _ _
    have hf : (double.fractionBits : Int) = 52 := rfl
    have hp : double.leastPlace = -1074 := by decide
    have l1 : max (-(k : Int) + ((n * 2 ^ k).log2 : Int) - (double.fractionBits : Int)) double.leastPlace = -(d : Int) := by rw [log2_mul_pow n k h0, hf, hp]; omega
    have l2 : max (0 + (n.log2 : Int) - (double.fractionBits : Int)) double.leastPlace = -(d : Int) := by rw [hf, hp]; omega
    have k1 := key (n * 2 ^ k) k rfl
    have k2 := key n 0 (by simp)
    simp only [Format.nearest, if_neg h0, if_neg hne, l1, l2, k1]
    rw [show ((0 : Int) - -(d : Int)) = (-((0 : Nat) : Int)) - -(d : Int) by omega, show (-(d : Int) - (0 : Int)) = -(d : Int) - (-((0 : Nat) : Int)) by omega, k2]

/-- The bits of a whole number. -/
def fl (n : Nat) : Nat := floatOfInt .f64 (n : Int)

theorem fl_eq (n : Nat) : fl n = double.nearest false n 0 := by
  have : ¬ ((n : Int) < 0) := by omega
  simp [fl, floatOfInt, FloatKind.nearest, FloatKind.encode, FloatKind.format, Format.write, this]

theorem fl_zero : fl 0 = 0 := rfl
theorem fl_one : fl 1 = 4607182418800017408 := by decide

/-- What the bits of a whole number stand for. -/
theorem read_fl (n : Nat) (hn : n < 2 ^ 53) : ∃ k : Nat, double.read (fl n) = .number false (n * 2 ^ k) (-(k : Int)) := by
  by_cases h0 : n = 0
  · subst h0
    have e : ∀ k : Nat, 0 * 2 ^ k = 0 := fun k => Nat.zero_mul _
    obtain ⟨k, hk⟩ : ∃ k : Nat, (k : Int) = 1074 := ⟨1074, rfl⟩
    refine ⟨k, ?_⟩
    rw [e, hk]
    rfl
  · have hL : n.log2 < 53 := (Nat.log2_lt h0).2 hn
    obtain ⟨d, hd⟩ : ∃ d, n.log2 + d = 52 := ⟨52 - n.log2, by omega⟩
    have hK1 : 2 ^ 52 ≤ n * 2 ^ d := by
      have := Nat.mul_le_mul_right (2 ^ d) (Nat.log2_self_le h0)
      rwa [← Nat.pow_add, hd] at this
    have hK2 : n * 2 ^ d < 2 ^ 53 := by
      have := Nat.mul_lt_mul_of_pos_right (Nat.lt_log2_self (n := n)) (Nat.two_pow_pos d)
      rw [← Nat.pow_add] at this
      rwa [show n.log2 + 1 + d = 53 by omega] at this
    have hw : fl n = (1074 - d) * 2 ^ 52 + n * 2 ^ d := by
      rw [fl_eq]
      have l2 : max (0 + (n.log2 : Int) - (double.fractionBits : Int)) double.leastPlace = -(d : Int) := by
        rw [show (double.fractionBits : Int) = 52 from rfl, show double.leastPlace = -1074 by decide]; omega
      have e1 : ((0 : Int) - (-(d : Int))).toNat = d := by omega
      have e2 : ((-(d : Int)) - (0 : Int)).toNat = 0 := by omega
      have e3 : ((-(d : Int)) - double.leastPlace).toNat = 1074 - d := by rw [show double.leastPlace = -1074 by decide]; omega
      simp only [Format.nearest, if_neg h0, l2, e1, e2, e3, cut_zero _ (.inl rfl), Nat.shiftLeft_eq, Format.word]
      rw [show double.binade = 2 ^ 52 from rfl, show double.infRung = 2047 * 2 ^ 52 from rfl]
      simp only [Bool.false_eq_true, if_false]
      exact Nat.min_eq_left (by omega)
    refine ⟨d, ?_⟩
    have hs : double.signWeight = 2 ^ 63 := rfl
    have hb : double.binade = 2 ^ 52 := rfl
    have hi : double.infRung = 2047 * 2 ^ 52 := rfl
    have hp : double.leastPlace = -1074 := by decide
    rw [hw]
    generalize n * 2 ^ d = K at hK1 hK2 ⊢
    have m1 : ((1074 - d) * 2 ^ 52 + K) % 2 ^ 63 = (1074 - d) * 2 ^ 52 + K := Nat.mod_eq_of_lt (by omega)
    have m2 : ((1074 - d) * 2 ^ 52 + K) / 2 ^ 63 = 0 := Nat.div_eq_of_lt (by omega)
    have m3 : ((1074 - d) * 2 ^ 52 + K) % 2 ^ 52 = K - 2 ^ 52 := by omega
    have m4 : ((1074 - d) * 2 ^ 52 + K) / 2 ^ 52 = 1075 - d := by omega
    simp only [Format.read, hs, hb, hi, hp, m1, m2, m3, m4]
    rw [if_neg (by omega), if_pos (by omega)]
    simp only [show (0 % 2 == 1) = false from rfl]
    have a : 2 ^ 52 + (K - 2 ^ 52) = K := by omega
    have b : (-1074 : Int) + ((1075 - d - 1 : Nat) : Int) = -(d : Int) := by omega
    rw [a, b]

theorem fl_add (n m : Nat) (h : n + m < 2 ^ 53) : double.add (fl n) (fl m) = some (fl (n + m)) := by
  obtain ⟨i, hi⟩ := read_fl n (by omega)
  obtain ⟨j, hj⟩ := read_fl m (by omega)
  obtain ⟨K, hK⟩ : ∃ K : Nat, min (-(i : Int)) (-(j : Int)) = -(K : Int) ∧ i ≤ K ∧ j ≤ K := ⟨max i j, by omega, by omega, by omega⟩
  have e1 : ((-(i : Int)) - (-(K : Int))).toNat = K - i := by omega
  have e2 : ((-(j : Int)) - (-(K : Int))).toNat = K - j := by omega
  have s1 : signed false (n * 2 ^ i) (K - i) = ((n * 2 ^ K : Nat) : Int) := by
    simp only [signed, Bool.false_eq_true, if_false, Nat.shiftLeft_eq]
    rw [Nat.mul_assoc, ← Nat.pow_add]; congr 3; omega
  have s2 : signed false (m * 2 ^ j) (K - j) = ((m * 2 ^ K : Nat) : Int) := by
    simp only [signed, Bool.false_eq_true, if_false, Nat.shiftLeft_eq]
    rw [Nat.mul_assoc, ← Nat.pow_add]; congr 3; omega
  have s3 : ((n * 2 ^ K : Nat) : Int) + ((m * 2 ^ K : Nat) : Int) = (((n + m) * 2 ^ K : Nat) : Int) := by rw [Nat.add_mul]; omega
  have s4 : ¬ ((((n + m) * 2 ^ K : Nat) : Int) < 0) := by omega
  simp only [Format.add, hi, hj, Datum.sum, hK.1, e1, e2, s1, s2, s3, s4, decide_false, Bool.and_self, ite_self, Option.map_some, Int.natAbs_natCast, Format.write]
  rw [nearest_scaled _ _ h, fl_eq]

theorem fl_order (n m : Nat) (hn : n < 2 ^ 53) (hm : m < 2 ^ 53) : double.order (fl n) (fl m) = some (compare n m) := by
  obtain ⟨i, hi⟩ := read_fl n hn
  obtain ⟨j, hj⟩ := read_fl m hm
  obtain ⟨K, hK⟩ : ∃ K : Nat, min (-(i : Int)) (-(j : Int)) = -(K : Int) ∧ i ≤ K ∧ j ≤ K := ⟨max i j, by omega, by omega, by omega⟩
  have e1 : ((-(i : Int)) - (-(K : Int))).toNat = K - i := by omega
  have e2 : ((-(j : Int)) - (-(K : Int))).toNat = K - j := by omega
  have s1 : signed false (n * 2 ^ i) (K - i) = ((n * 2 ^ K : Nat) : Int) := by
    simp only [signed, Bool.false_eq_true, if_false, Nat.shiftLeft_eq]
    rw [Nat.mul_assoc, ← Nat.pow_add]; congr 3; omega
  have s2 : signed false (m * 2 ^ j) (K - j) = ((m * 2 ^ K : Nat) : Int) := by
    simp only [signed, Bool.false_eq_true, if_false, Nat.shiftLeft_eq]
    rw [Nat.mul_assoc, ← Nat.pow_add]; congr 3; omega
  simp only [Format.order, hi, hj, Datum.order, hK.1, e1, e2, s1, s2]
  have hp := Nat.two_pow_pos K
  congr 1
  simp only [compare, compareOfLessAndEq]
  rcases Nat.lt_trichotomy n m with h | h | h
  · have : n * 2 ^ K < m * 2 ^ K := Nat.mul_lt_mul_of_pos_right h hp
    rw [if_pos (by omega), if_pos h]
  · subst h; simp
  · have : m * 2 ^ K < n * 2 ^ K := Nat.mul_lt_mul_of_pos_right h hp
    rw [if_neg (by omega), if_neg (by omega), if_neg (by omega), if_neg (by omega)]

theorem fl_toInt (n : Nat) (hn : n < 2 ^ 53) : floatToIntVal .f64 (fl n) .i64 = some (n : Int) := by
  obtain ⟨i, hi⟩ := read_fl n hn
  have e1 : (-(i : Int)).toNat = 0 := by omega
  have e2 : (-(-(i : Int))).toNat = i := by omega
  have hd : FloatKind.decode .f64 (fl n) = .number false (n * 2 ^ i) (-(i : Int)) := hi
  have ht : (FloatKind.decode .f64 (fl n)).toInt .zero = some (n : Int) := by
    rw [hd]
    simp only [Datum.toInt, Datum.integral, e1, e2, Nat.shiftLeft_zero, cut_exact _ (.inr rfl)]
    simp [signed]
  simp only [floatToIntVal, ht]
  rw [if_pos]
  constructor
  · show (-9223372036854775808 : Int) ≤ n; omega
  · show (n : Int) ≤ 9223372036854775807; omega
end Go.Proofs.Ytifdoneffnfogab
