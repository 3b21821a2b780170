/- The contracts of package disk's stretch, of picked, and of stops. -/
import Derived.Test.YtifdoneffnfogabDkS
import Derived.WalkLawsBesides
namespace Go.Proofs.Ytifdoneffnfogab
open Go.RowKit
set_option linter.unusedSimpArgs false
set_option linter.unusedVariables false

theorem kfrom_any (p n : Nat) (h : p < 2 ^ 53) (w : World) : Calls Try.prog 29 #[st p n] w fun e w' => e = .returned (.int .i64 (p : Int)) ∧ w' = w := by
  have h2 := run_fl_int w p h
  unfold st
  go_enter Try.func29, Try.ntmps29
  go_wp2
  go_ret
  exact ⟨rfl, rfl⟩
theorem ksize_any (p n : Nat) (h : n < 2 ^ 53) (w : World) : Calls Try.prog 30 #[st p n] w fun e w' => e = .returned (.int .i64 (n : Int)) ∧ w' = w := by
  have h2 := run_fl_int w n h
  unfold st
  go_enter Try.func30, Try.ntmps30
  go_wp2
  go_ret
  exact ⟨rfl, rfl⟩
theorem kend_any (p n : Nat) (h : p + n < 2 ^ 53) (w : World) : Calls Try.prog 20 #[st p n] w fun e w' => e = .returned (.int .i64 ((p + n : Nat) : Int)) ∧ w' = w := by
  go_enter Try.func20, Try.ntmps20
  go_wp2_with fail
  refine (kfrom_any p n (by omega) _).mono ?_
  rintro _ w1 ⟨rfl, rfl⟩
  go_wp2_with fail
  refine (ksize_any p n (by omega) _).mono ?_
  rintro _ w2 ⟨rfl, rfl⟩
  go_wp2_with fail
  go_ret
  exact ⟨by simp, rfl⟩
theorem klonger_any (p n m : Nat) (h : n + m < 2 ^ 53) (hp : p < 2 ^ 53) (w : World) : Calls Try.prog 27 #[st p n, .int .i64 (m : Int)] w fun e w' => e = .returned (st p (n + m)) ∧ w' = w := by
  have h1 := run_int_fl w m
  have e1 : floatBits .add .f64 (fl p) 0 = some (fl p) := by have := fl_add p 0 (by omega); exact this
  have e2 : floatBits .add .f64 (fl n) (fl m) = some (fl (n + m)) := fl_add n m h
  have h3 := fun t => run_complex_sum (P := Try.prog) w .add (.inl rfl) t .f64 (fl p) (fl n) 0 (fl m) (fl p) (fl (n + m)) (by simp [cSumBits, e1, e2])
  unfold st
  clear e1 e2
  go_enter Try.func27, Try.ntmps27
  go_wp2
  go_ret
  exact ⟨rfl, rfl⟩
theorem knone_any (n : Nat) (w : World) : Calls Try.prog 26 #[.int .i64 (n : Int)] w fun e w' => e = .returned (st n 0) ∧ w' = w := by
  have h1 := run_int_fl w n
  unfold st
  rw [fl_zero]
  go_enter Try.func26, Try.ntmps26
  go_wp2
  go_ret
  exact ⟨rfl, rfl⟩

set_option maxRecDepth 100000 in
theorem kstops_any (d r : Nat) (s : Dk) (w : World) (h : DK w d r s) :
    Calls Try.prog 25 #[.pointer (some ⟨d, 0, none⟩)] w fun e w' => e = .returned (.bool (decide (s.left = 1))) ∧ DK w' d r ⟨s.b, s.kept, s.size, s.left - 1, s.gone⟩ ∧ Only w w' d r := by
  obtain ⟨b, kept, size, left, gone⟩ := s
  have hl := h.ok.left
  have HK := hid h
  have c2 := h.c2
  have f2 := h.blk.frozen 2
  clear h
  simp only at hl c2
  cases left with
  | zero =>
    go_enter Try.func25, Try.ntmps25
    go_wp2
    go_ret
    exact ⟨rfl, HK.out, Only.refl _ _ _⟩
  | succ m =>
    have hne : (((m + 1 : Nat) : Int) == 0) = false := by rw [beq_eq_false_iff_ne]; omega
    have hd : decide (m + 1 = 1) = ((m : Int) == 0) := by
      by_cases hm : m = 0
      · subst hm; rfl
      · rw [decide_eq_false (by omega), eq_comm, beq_eq_false_iff_ne]; omega
    have HD := hid hd
    have HX := hid (show DK (w.setCell ⟨d, 2, none⟩ (.int .i64 (m : Int))) d r ⟨b, kept, size, m, gone⟩ ∧ Only w (w.setCell ⟨d, 2, none⟩ (.int .i64 (m : Int))) d r from ⟨HK.out.setLeft m (by omega), Only.set _ _ _ _ _⟩)
    have hsub : ((m + 1 : Nat) : Int) - 1 = (m : Int) := by omega
    clear hd
    go_enter Try.func25, Try.ntmps25
    go_wp2
    go_ret
    exact ⟨by rw [HD.out]; rfl, HX.out⟩
end Go.Proofs.Ytifdoneffnfogab
