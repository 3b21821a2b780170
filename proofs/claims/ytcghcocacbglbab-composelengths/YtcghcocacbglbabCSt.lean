/- The contracts of package compose's stretch, of made, met and joined. -/
import Derived.Test.YtcghcocacbglbabNorm
import Derived.Test.YtcghcocacbglbabFl2
import Derived.Test.YtcghcocacbglbabCompS
namespace Go.Proofs.Ytcghcocacbglbab
open Go.RowKit
set_option linter.unusedSimpArgs false
set_option linter.unusedVariables false

theorem compare_lt1 (n : Nat) : (some (compare n 1) == some .lt) = decide (n = 0) := by
  simp only [compare, compareOfLessAndEq]
  rcases Nat.lt_trichotomy n 1 with h | h | h
  · rw [if_pos h, decide_eq_true (by omega)]; rfl
  · subst h; simp
  · rw [if_neg (by omega), if_neg (by omega), decide_eq_false (by omega)]; rfl

theorem empty_any (p n : Nat) (hn : n < 2 ^ 53) (w : World) :
    Calls Try.prog 14 #[st p n] w fun e w' => e = .returned (.bool (decide (n = 0))) ∧ w' = w := by
  have h4 : (FloatKind.f64.format.order (fl n) 4607182418800017408 == some .lt) = decide (n = 0) := by
    rw [← fl_one, show FloatKind.f64.format = Ieee.double from rfl, fl_order _ _ hn (by omega)]
    exact compare_lt1 _
  have h6 : ∀ t, binOp .lss t (.float .f64 (fl n)) (.float .f64 4607182418800017408) = pure (.bool (decide (n = 0))) := fun t => by rw [binOp_float_cmp_lss, h4]
  unfold st
  generalize decide (n = 0) = r at h6 ⊢
  clear h4
  go_enter Try.func14, Try.ntmps14
  go_wp2
  go_ret
  exact ⟨rfl, rfl⟩

theorem whole_any (n : Nat) (w : World) :
    Calls Try.prog 15 #[.int .i64 (n : Int)] w fun e w' => e = .returned (st 0 n) ∧ w' = w := by
  have h2 := run_int_fl w n
  unfold st
  go_enter Try.func15, Try.ntmps15
  go_wp2
  go_ret
  exact ⟨rfl, rfl⟩

theorem first_any (p n q m : Nat) (hn : n < 2 ^ 53) (hm : m < 2 ^ 53) (w : World) :
    Calls Try.prog 19 #[st p n, st q m] w fun e w' => e = .returned (st p (min n m)) ∧ w' = w := by
  have h2 := fun ts t => run_fl_min Try.prog w ts t n m hn hm
  unfold st
  generalize min n m = k at *
  go_enter Try.func19, Try.ntmps19
  go_wp2
  go_ret
  exact ⟨rfl, rfl⟩

theorem behind_any (p n q m : Nat) (hm : m ≤ n) (hp : p + n < 2 ^ 53) (w : World) :
    Calls Try.prog 21 #[st p n, st q m] w fun e w' => e = .returned (st (p + m) (n - m)) ∧ w' = w := by
  have h1 : floatBits .add .f64 (fl p) (fl m) = some (fl (p + m)) := fl_add p m (by omega)
  have h2 : floatBits .add .f64 (fl n) (Op.negFloat .f64 (fl m)) = some (fl (n - m)) := fl_sub n m hm (by omega)
  have h4 : ∀ wx, (Op.unary .neg (.float .f64 (fl m))).run Try.prog wx = .ok (.float .f64 (Op.negFloat .f64 (fl m))) wx := fun _ => rfl
  have h3 := fun t => run_complex_sum (P := Try.prog) w .add (.inl rfl) t .f64 (fl p) (fl n) (fl m) (Op.negFloat .f64 (fl m)) (fl (p + m)) (fl (n - m)) (by simp [cSumBits, h1, h2])
  unfold st
  generalize Op.negFloat .f64 (fl m) = x at h3 h4
  clear h1 h2
  go_enter Try.func21, Try.ntmps21
  go_wp2
  go_ret
  exact ⟨rfl, rfl⟩

theorem size_any (p n : Nat) (h : n < 2 ^ 53) (w : World) :
    Calls Try.prog 28 #[st p n] w fun e w' => e = .returned (.int .i64 (n : Int)) ∧ w' = w := by
  have h2 := run_fl_int w n h
  unfold st
  go_enter Try.func28, Try.ntmps28
  go_wp2
  go_ret
  exact ⟨rfl, rfl⟩

theorem of_any (p n : Nat) (s : ByteArray) (h : p + n ≤ s.size) (hs : s.size < 2 ^ 53) (w : World) :
    Calls Try.prog 29 #[st p n, .string s] w fun e w' => e = .returned (.string (s.extract p (p + n))) ∧ w' = w := by
  have h1 := fun t => run_fl_add w t p n (by omega)
  have h2 := run_fl_int w p (by omega)
  have h3 := run_fl_int w (p + n) (by omega)
  have g1 : ((p : Nat) : Int) ≤ ((p + n : Nat) : Int) := by omega
  have g2 : ((p + n : Nat) : Int) ≤ (s.size : Int) := by omega
  obtain ⟨q, hq⟩ : ∃ q, p + n = q := ⟨_, rfl⟩
  rw [hq] at h1 h3 g1 g2 ⊢
  unfold st
  clear h hq
  go_enter Try.func29, Try.ntmps29
  go_wp2
  go_ret
  exact ⟨rfl, rfl⟩

theorem made_any (c : Cp) (hc : c.Ok) (w : World) :
    Calls Try.prog 16 #[.agg c.vals.toArray] w fun e w' => e = .returned (.int .i64 ((if c.k = 3 then 0 else c.sz : Nat) : Int)) ∧ Below w.heap.size w w' := by
  rcases ok_cases hc with ⟨m, hm, rfl⟩ | ⟨s, hs, rfl⟩ | ⟨m, hm, rfl⟩
  · rw [sz_K, if_neg (by simp [pK])]
    simp only [Cp.vals, pK]
    go_enter Try.func16, Try.ntmps16
    go_wp2
    go_ret
    exact ⟨rfl, (Below.refl _ _).alloc (Nat.le_refl _) _⟩
  · rw [sz_P, if_neg (by simp [pP])]
    simp only [Cp.vals, pP]
    go_enter Try.func16, Try.ntmps16
    go_wp2
    go_ret
    exact ⟨rfl, (Below.refl _ _).alloc (Nat.le_refl _) _⟩
  · rw [if_pos (show (pX (m : Int)).k = 3 from rfl)]
    simp only [Cp.vals, pX]
    go_enter Try.func16, Try.ntmps16
    go_wp2
    go_ret
    exact ⟨rfl, (Below.refl _ _).alloc (Nat.le_refl _) _⟩

theorem met_any (c : Cp) (hc : c.Ok) (w : World) :
    Calls Try.prog 17 #[.agg c.vals.toArray] w fun e w' => e = .returned (.int .i64 ((if c.k = 2 then 0 else c.sz : Nat) : Int)) ∧ Below w.heap.size w w' := by
  rcases ok_cases hc with ⟨m, hm, rfl⟩ | ⟨s, hs, rfl⟩ | ⟨m, hm, rfl⟩
  · rw [sz_K, if_neg (by simp [pK])]
    simp only [Cp.vals, pK]
    go_enter Try.func17, Try.ntmps17
    go_wp2
    go_ret
    exact ⟨rfl, (Below.refl _ _).alloc (Nat.le_refl _) _⟩
  · rw [if_pos (show (pP s).k = 2 from rfl)]
    simp only [Cp.vals, pP]
    go_enter Try.func17, Try.ntmps17
    go_wp2
    go_ret
    exact ⟨rfl, (Below.refl _ _).alloc (Nat.le_refl _) _⟩
  · rw [sz_X, if_neg (by simp [pX])]
    simp only [Cp.vals, pX]
    go_enter Try.func17, Try.ntmps17
    go_wp2
    go_ret
    exact ⟨rfl, (Below.refl _ _).alloc (Nat.le_refl _) _⟩
end Go.Proofs.Ytcghcocacbglbab
