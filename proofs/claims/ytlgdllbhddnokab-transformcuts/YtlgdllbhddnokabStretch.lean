/- The contracts of the stretch's functions, and of over. -/
import Derived.Test.YtlgdllbhddnokabRows
import Derived.Test.YtlgdllbhddnokabCp
import Derived.Test.YtlgdllbhddnokabFl
import Derived.WalkLawsBesides
namespace Go.Proofs.Ytlgdllbhddnokab
open Go.RowKit
set_option linter.unusedSimpArgs false
set_option linter.unusedVariables false

/-- The stretch of n from p on. -/
def st (p n : Nat) : Value := .complex .f64 (fl p) (fl n)

theorem run_fl_add (w : World) (t : TypeId) (n m : Nat) (h : n + m < 2 ^ 53) : (binOp .add t (.float .f64 (fl n)) (.float .f64 (fl m))).run Try.prog w = .ok (.float .f64 (fl (n + m))) w :=
  run_float_arith w .add t .f64 _ _ _ (fl_add n m h)
theorem run_fl_int (w : World) (n : Nat) (h : n < 2 ^ 53) : (convert 53 3 (.float .f64 (fl n))).run Try.prog w = .ok (.int .i64 n) w :=
  run_convert_float_int w 53 3 .f64 .i64 _ _ (by kernel_rfl) Try.underlying3 (fl_toInt n h)
theorem run_int_fl (w : World) (n : Nat) : (convert 3 53 (.int .i64 (n : Int))).run Try.prog w = .ok (.float .f64 (fl n)) w :=
  run_convert_int_float w 3 53 .i64 .f64 _ (by kernel_rfl) Try.underlying53

theorem next_any (p n k : Nat) (h : p + n < 2 ^ 53) (w : World) :
    Calls Try.prog 36 #[st p n, .int .i64 (k : Int)] w fun e w' => e = .returned (st (p + n) k) ∧ w' = w := by
  have h1 := fun t => run_fl_add w t p n h
  have h2 := run_int_fl w k
  unfold st
  go_enter Try.func36, Try.ntmps36
  go_wp2
  go_ret
  exact ⟨rfl, rfl⟩

theorem from_any (p n : Nat) (h : p < 2 ^ 53) (w : World) :
    Calls Try.prog 32 #[st p n] w fun e w' => e = .returned (.int .i64 (p : Int)) ∧ w' = w := by
  have h2 := run_fl_int w p h
  unfold st
  go_enter Try.func32, Try.ntmps32
  go_wp2
  go_ret
  exact ⟨rfl, rfl⟩

theorem end_any (p n : Nat) (h : p + n < 2 ^ 53) (w : World) :
    Calls Try.prog 33 #[st p n] w fun e w' => e = .returned (.int .i64 ((p + n : Nat) : Int)) ∧ w' = w := by
  have h1 := fun t => run_fl_add w t p n h
  have h2 := run_fl_int w (p + n) h
  unfold st
  go_enter Try.func33, Try.ntmps33
  go_wp2
  go_ret
  exact ⟨rfl, rfl⟩

theorem compare_le (n m : Nat) : (some (compare n m) == some .lt || some (compare n m) == some .eq) = decide (n ≤ m) := by
  simp only [compare, compareOfLessAndEq]
  rcases Nat.lt_trichotomy n m with h | h | h
  · rw [if_pos h, decide_eq_true (by omega)]; rfl
  · subst h; simp
  · rw [if_neg (by omega), if_neg (by omega), decide_eq_false (by omega)]; rfl
theorem compare_ge (n : Nat) : (some (compare n 0) == some .gt || some (compare n 0) == some .eq) = true := by
  simp only [compare, compareOfLessAndEq]
  rcases Nat.eq_zero_or_pos n with h | h
  · subst h; rfl
  · rw [if_neg (by omega), if_neg (by omega)]; rfl

theorem over_any (c : Cp) (w : World) :
    Calls Try.prog 29 #[.agg c.vals.toArray] w fun e w' => e = .returned (.int .i64 (if c.k = 1 ∨ c.k = 3 then c.n else 0)) ∧ Below w.heap.size w w' := by
  obtain ⟨k, n, s⟩ := c
  simp only [Cp.vals]
  by_cases h1 : k = 1
  · subst h1
    go_enter Try.func29, Try.ntmps29
    go_wp2
    go_ret
    exact ⟨rfl, (Below.refl _ _).alloc (Nat.le_refl _) _⟩
  · by_cases h3 : k = 3
    · subst h3
      go_enter Try.func29, Try.ntmps29
      go_wp2
      go_ret
      exact ⟨rfl, (Below.refl _ _).alloc (Nat.le_refl _) _⟩
    · rw [if_neg (by simp [h1, h3])]
      have e1 : (k == 1) = false := by simpa using h1
      have e3 : (k == 3) = false := by simpa using h3
      go_enter Try.func29, Try.ntmps29
      go_wp2
      go_ret
      exact ⟨rfl, (Below.refl _ _).alloc (Nat.le_refl _) _⟩
end Go.Proofs.Ytlgdllbhddnokab
