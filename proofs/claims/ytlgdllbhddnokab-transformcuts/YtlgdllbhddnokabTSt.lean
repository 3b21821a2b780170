/- The contracts of package transform's stretch. -/
import Derived.Test.YtlgdllbhddnokabStretch
import Derived.Test.YtlgdllbhddnokabFl2
namespace Go.Proofs.Ytlgdllbhddnokab
open Go.RowKit
set_option linter.unusedSimpArgs false
set_option linter.unusedVariables false

section
open Ieee
theorem fl_minus (n m : Nat) (h : m ≤ n) (hn : n < 2 ^ 53) : double.sub (fl n) (fl m) = some (fl (n - m)) := by
  obtain ⟨i, hi⟩ := read_fl n hn
  obtain ⟨j, hj⟩ := read_fl m (by omega)
  have hj' : (double.read (fl m)).opposite = .number true (m * 2 ^ j) (-(j : Int)) := by rw [hj]; rfl
  obtain ⟨K, hK⟩ : ∃ K : Nat, min (-(i : Int)) (-(j : Int)) = -(K : Int) ∧ i ≤ K ∧ j ≤ K := ⟨max i j, by omega, by omega, by omega⟩
  have e1 : ((-(i : Int)) - (-(K : Int))).toNat = K - i := by omega
  have e2 : ((-(j : Int)) - (-(K : Int))).toNat = K - j := by omega
  have s1 : signed false (n * 2 ^ i) (K - i) = ((n * 2 ^ K : Nat) : Int) := by
    simp only [signed, Bool.false_eq_true, if_false, Nat.shiftLeft_eq]
    rw [Nat.mul_assoc, ← Nat.pow_add, show i + (K - i) = K from Nat.add_sub_cancel' hK.2.1]
  have s2 : signed true (m * 2 ^ j) (K - j) = -((m * 2 ^ K : Nat) : Int) := by
    simp only [signed, if_true, Nat.shiftLeft_eq]
    rw [Nat.mul_assoc, ← Nat.pow_add, show j + (K - j) = K from Nat.add_sub_cancel' hK.2.2]
  have hmul : m * 2 ^ K ≤ n * 2 ^ K := Nat.mul_le_mul_right _ h
  have s3 : ((n * 2 ^ K : Nat) : Int) + -((m * 2 ^ K : Nat) : Int) = (((n - m) * 2 ^ K : Nat) : Int) := by rw [Nat.sub_mul]; omega
  have s4 : ¬ ((((n - m) * 2 ^ K : Nat) : Int) < 0) := by omega
  simp only [Format.sub, hi, hj', Datum.sum, hK.1, e1, e2, s1, s2, s3, s4, decide_false, Bool.false_and, ite_self, Option.map_some, Int.natAbs_natCast, Format.write]
  rw [nearest_scaled _ _ (by omega), fl_eq]
end

theorem run_fl_minus (w : World) (t : TypeId) (n m : Nat) (h : m ≤ n) (hn : n < 2 ^ 53) : (binOp .sub t (.float .f64 (fl n)) (.float .f64 (fl m))).run Try.prog w = .ok (.float .f64 (fl (n - m))) w :=
  run_float_arith w .sub t .f64 _ _ _ (fl_minus n m h hn)
theorem run_fl_max (P : Program) (w : World) (ts : Array TypeId) (t : TypeId) (n m : Nat) (hn : n < 2 ^ 53) (hm : m < 2 ^ 53) : (Builtin.max_ ts t #[.float .f64 (fl n), .float .f64 (fl m)]).run P w = .ok (.float .f64 (fl (max n m))) w := by
  have h := fl_order n m hn hm
  have h' : FloatKind.f64.format.order (fl n) (fl m) = some (compare n m) := h
  rcases Nat.lt_trichotomy n m with hc | hc | hc
  · have e : compare n m = .lt := Nat.compare_eq_lt.2 hc
    rw [e] at h'
    simp [Builtin.max_, Builtin.max2, h', Nat.max_eq_right (Nat.le_of_lt hc)]
  · subst hc
    have e : compare n n = .eq := Nat.compare_eq_eq.2 rfl
    rw [e] at h'
    simp [Builtin.max_, Builtin.max2, h']
  · have e : compare n m = .gt := Nat.compare_eq_gt.2 hc
    rw [e] at h'
    simp [Builtin.max_, Builtin.max2, h', Nat.max_eq_left (Nat.le_of_lt hc)]
theorem fl_leq (t : TypeId) (n m : Nat) (hn : n < 2 ^ 53) (hm : m < 2 ^ 53) : binOp .leq t (.float .f64 (fl n)) (.float .f64 (fl m)) = pure (.bool (decide (n ≤ m))) := by
  have h4 : (FloatKind.f64.format.order (fl n) (fl m) == some .lt || FloatKind.f64.format.order (fl n) (fl m) == some .eq) = decide (n ≤ m) := by
    rw [show FloatKind.f64.format = Ieee.double from rfl, fl_order _ _ hn hm, compare_le]
  rw [binOp_float_cmp_leq, h4]

theorem tend_any (p n : Nat) (h : p + n < 2 ^ 53) (w : World) :
    Calls Try.prog 22 #[st p n] w fun e w' => e = .returned (.float .f64 (fl (p + n))) ∧ w' = w := by
  have h1 := fun t => run_fl_add w t p n h
  unfold st
  go_enter Try.func22, Try.ntmps22
  go_wp2
  go_ret
  exact ⟨rfl, rfl⟩

theorem tnext_any (p n k : Nat) (h : p + n < 2 ^ 53) (w : World) :
    Calls Try.prog 23 #[st p n, .int .i64 (k : Int)] w fun e w' => e = .returned (st (p + n) k) ∧ w' = w := by
  have h2 := run_int_fl w k
  go_enter Try.func23, Try.ntmps23
  go_wp2_with fail
  refine (tend_any p n h _).mono ?_
  rintro _ wx ⟨rfl, rfl⟩
  unfold st
  go_wp2_with fail
  go_ret
  exact ⟨rfl, rfl⟩

theorem tshared_any (p n q m : Nat) (h1 : p + n < 2 ^ 53) (h2 : q + m < 2 ^ 53) (h3 : p ≤ q + m) (h4 : q ≤ p + n) (w : World) :
    Calls Try.prog 25 #[st p n, st q m] w fun e w' => e = .returned (.int .i64 ((min (p + n) (q + m) - max p q : Nat) : Int)) ∧ w' = w := by
  have k1 := fun ts t => run_fl_min Try.prog w ts t (p + n) (q + m) h1 h2
  have k2 := fun ts t => run_fl_max Try.prog w ts t p q (by omega) (by omega)
  have k3 := fun t => run_fl_minus w t (min (p + n) (q + m)) (max p q) (by omega) (by omega)
  have k4 := run_fl_int w (min (p + n) (q + m) - max p q) (by omega)
  have HA := hid (tend_any p n h1)
  have HB := hid (tend_any q m h2)
  obtain ⟨x, hx⟩ : ∃ x, p + n = x := ⟨_, rfl⟩
  obtain ⟨y, hy⟩ : ∃ y, q + m = y := ⟨_, rfl⟩
  rw [hx] at k1 k3 k4 HA ⊢
  rw [hy] at k1 k3 k4 HB ⊢
  generalize min x y - max p q = z at *
  generalize min x y = u at *
  generalize max p q = v at *
  clear hx hy h1 h2 h3 h4
  go_enter Try.func25, Try.ntmps25
  go_wp2_with fail
  refine (HA.out _).mono ?_
  rintro _ wx ⟨rfl, rfl⟩
  go_wp2_with fail
  refine (HB.out _).mono ?_
  rintro _ wx ⟨rfl, rfl⟩
  unfold st
  go_wp2_with fail
  go_ret
  exact ⟨rfl, rfl⟩
end Go.Proofs.Ytlgdllbhddnokab
