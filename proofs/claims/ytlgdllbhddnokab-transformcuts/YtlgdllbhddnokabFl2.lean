/- Whole numbers as floats, further: the difference, the lesser one; of no program. -/
import Derived.Test.YtlgdllbhddnokabFl
namespace Go.Proofs.Ytlgdllbhddnokab
open Ieee

theorem fl_lt (n : Nat) (hn : n < 2 ^ 53) : fl n < 2 ^ 63 := by
  by_cases h0 : n = 0
  · subst h0; rw [fl_zero]; omega
  · have hL : n.log2 < 53 := (Nat.log2_lt h0).2 hn
    obtain ⟨d, hd⟩ : ∃ d, n.log2 + d = 52 := ⟨52 - n.log2, by omega⟩
    have hK2 : n * 2 ^ d < 2 ^ 53 := by
      have := Nat.mul_lt_mul_of_pos_right (Nat.lt_log2_self (n := n)) (Nat.two_pow_pos d)
      rw [← Nat.pow_add] at this
      rwa [show n.log2 + 1 + d = 53 by omega] at this
    rw [fl_eq]
    have l2 : max (0 + (n.log2 : Int) - (double.fractionBits : Int)) double.leastPlace = -(d : Int) := by
      rw [show (double.fractionBits : Int) = 52 from rfl, show double.leastPlace = -1074 by decide]; omega
    have e1 : ((0 : Int) - (-(d : Int))).toNat = d := by omega
    have e2 : ((-(d : Int)) - (0 : Int)).toNat = 0 := by omega
    have e3 : ((-(d : Int)) - double.leastPlace).toNat = 1074 - d := by rw [show double.leastPlace = -1074 by decide]; omega
    simp only [Format.nearest, if_neg h0, l2, e1, e2, e3, cut_zero _ (.inl rfl), Nat.shiftLeft_eq, Format.word]
    rw [show double.binade = 2 ^ 52 from rfl, show double.infRung = 2047 * 2 ^ 52 from rfl]
    simp only [Bool.false_eq_true, if_false]
    generalize n * 2 ^ d = K at hK2 ⊢
    omega

theorem neg_fl (n : Nat) (hn : n < 2 ^ 53) : Op.negFloat .f64 (fl n) = fl n + 2 ^ 63 := by
  have h := fl_lt n hn
  show fl n ^^^ 2 ^ 63 = fl n + 2 ^ 63
  apply Nat.eq_of_testBit_eq
  intro i
  rw [Nat.testBit_xor, Nat.add_comm, Nat.testBit_two_pow]
  by_cases hi : i = 63
  · subst hi
    rw [Nat.testBit_two_pow_add_eq, Nat.testBit_lt_two_pow h]
    rfl
  · rw [decide_eq_false (fun e => hi e.symm), Bool.xor_false]
    by_cases hlt : i < 63
    · rw [Nat.testBit_two_pow_add_gt hlt]
    · have h1 : fl n < 2 ^ i := Nat.lt_of_lt_of_le h (Nat.pow_le_pow_right (by omega) (by omega))
      have h2 : 2 ^ 63 + fl n < 2 ^ i := by
        have : 2 ^ 64 ≤ 2 ^ i := Nat.pow_le_pow_right (by omega) (by omega)
        omega
      rw [Nat.testBit_lt_two_pow h1, Nat.testBit_lt_two_pow h2]

theorem read_neg (n : Nat) (hn : n < 2 ^ 53) (m : Nat) (p : Int) (h : double.read (fl n) = .number false m p) : double.read (fl n + 2 ^ 63) = .number true m p := by
  have hl := fl_lt n hn
  have m1 : (fl n) % 2 ^ 63 = fl n := Nat.mod_eq_of_lt hl
  have m2 : (fl n) / 2 ^ 63 = 0 := Nat.div_eq_of_lt hl
  have m3 : (fl n + 2 ^ 63) % 2 ^ 63 = fl n := by omega
  have m4 : (fl n + 2 ^ 63) / 2 ^ 63 = 1 := by omega
  have hs : double.signWeight = 2 ^ 63 := rfl
  simp only [Format.read, hs, m1, m2] at h
  simp only [Format.read, hs, m3, m4]
  generalize fl n = x at *
  generalize double.binade = B at *
  generalize double.infRung = I at *
  generalize double.leastPlace = L at *
  clear m1 m2 m3 m4 hs hl
  rw [show ((1 : Nat) % 2 == 1) = true from rfl]
  by_cases h1 : x < B
  · rw [if_pos h1] at h ⊢
    simp only [Datum.number.injEq] at h ⊢
    exact ⟨trivial, h.2⟩
  · rw [if_neg h1] at h ⊢
    by_cases h2 : x < I
    · rw [if_pos h2] at h ⊢
      simp only [Datum.number.injEq] at h ⊢
      exact ⟨trivial, h.2⟩
    · rw [if_neg h2] at h
      by_cases h3 : x = I
      · rw [if_pos h3] at h; cases h
      · rw [if_neg h3] at h; cases h

theorem fl_sub (n m : Nat) (h : m ≤ n) (hn : n < 2 ^ 53) : double.add (fl n) (Op.negFloat .f64 (fl m)) = some (fl (n - m)) := by
  obtain ⟨i, hi⟩ := read_fl n hn
  obtain ⟨j, hj⟩ := read_fl m (by omega)
  have hj' := read_neg m (Nat.lt_of_le_of_lt h hn) _ _ hj
  rw [neg_fl m (by omega)]
  obtain ⟨K, hK⟩ : ∃ K : Nat, min (-(i : Int)) (-(j : Int)) = -(K : Int) ∧ i ≤ K ∧ j ≤ K := ⟨max i j, by omega, by omega, by omega⟩
  have e1 : ((-(i : Int)) - (-(K : Int))).toNat = K - i := by omega
  have e2 : ((-(j : Int)) - (-(K : Int))).toNat = K - j := by omega
  have s1 : signed false (n * 2 ^ i) (K - i) = ((n * 2 ^ K : Nat) : Int) := by
    simp only [signed, Bool.false_eq_true, if_false, Nat.shiftLeft_eq]
    rw [Nat.mul_assoc, ← Nat.pow_add, show i + (K - i) = K from Nat.add_sub_cancel' hK.2.1]
  have s2 : signed true (m * 2 ^ j) (K - j) = -((m * 2 ^ K : Nat) : Int) := by
    simp only [signed, if_true, Nat.shiftLeft_eq]
    rw [Nat.mul_assoc, ← Nat.pow_add, show j + (K - j) = K from Nat.add_sub_cancel' hK.2.2]
  have hmul : m * 2 ^ K ≤ n * 2 ^ K := Nat.mul_le_mul_right _ h
  have s3 : ((n * 2 ^ K : Nat) : Int) + -((m * 2 ^ K : Nat) : Int) = (((n - m) * 2 ^ K : Nat) : Int) := by rw [Nat.sub_mul]; omega
  have s4 : ¬ ((((n - m) * 2 ^ K : Nat) : Int) < 0) := by omega
  simp only [Format.add, hi, hj', Datum.sum, hK.1, e1, e2, s1, s2, s3, s4, decide_false, Bool.false_and, ite_self, Option.map_some, Int.natAbs_natCast, Format.write]
  rw [nearest_scaled _ _ (by omega), fl_eq]

theorem run_fl_min (P : Program) (w : World) (ts : Array TypeId) (t : TypeId) (n m : Nat) (hn : n < 2 ^ 53) (hm : m < 2 ^ 53) : (Builtin.min_ ts t #[.float .f64 (fl n), .float .f64 (fl m)]).run P w = .ok (.float .f64 (fl (min n m))) w := by
  have h := fl_order n m hn hm
  have h' : FloatKind.f64.format.order (fl n) (fl m) = some (compare n m) := h
  rcases Nat.lt_trichotomy n m with hc | hc | hc
  · have e : compare n m = .lt := Nat.compare_eq_lt.2 hc
    rw [e] at h'
    simp [Builtin.min_, Builtin.min2, h', Nat.min_eq_left (Nat.le_of_lt hc)]
  · subst hc
    have e : compare n n = .eq := Nat.compare_eq_eq.2 rfl
    rw [e] at h'
    simp [Builtin.min_, Builtin.min2, h']
  · have e : compare n m = .gt := Nat.compare_eq_gt.2 hc
    rw [e] at h'
    simp [Builtin.min_, Builtin.min2, h', Nat.min_eq_right (Nat.le_of_lt hc)]
end Go.Proofs.Ytlgdllbhddnokab
