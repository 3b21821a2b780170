/- The contracts of package invert's stretch, and of undone. -/
import Derived.Test.YtbhojomgbjchkaaNorm
import Derived.Test.YtbhojomgbjchkaaInvS
namespace Go.Proofs.Ytbhojomgbjchkaa
open Go.RowKit
set_option linter.unusedSimpArgs false
set_option linter.unusedVariables false

theorem inext_any (p n k : Nat) (h : p + n < 2 ^ 53) (w : World) :
    Calls Try.prog 23 #[st p n, .int .i64 (k : Int)] w fun e w' => e = .returned (st (p + n) k) ∧ w' = w := by
  have h1 := fun t => run_fl_add w t p n h
  have h2 := run_int_fl w k
  unfold st
  go_enter Try.func23, Try.ntmps23
  go_wp2
  go_ret
  exact ⟨rfl, rfl⟩

theorem iwithin_any (p n : Nat) (d : ByteArray) (h : p + n ≤ d.size) (hd : d.size < 2 ^ 53) (w : World) :
    Calls Try.prog 24 #[st p n, .string d] w fun e w' => e = .returned (.bool true) ∧ w' = w := by
  have h1 := fun t => run_fl_add w t p n (by omega)
  have h2 := run_int_fl w d.size
  have h3 : (FloatKind.f64.format.order (fl n) 0 == some .gt || FloatKind.f64.format.order (fl n) 0 == some .eq) = true := by
    rw [← fl_zero, show FloatKind.f64.format = Ieee.double from rfl, fl_order n 0 (by omega) (by omega)]
    exact compare_ge n
  have h4 : (FloatKind.f64.format.order (fl (p + n)) (fl d.size) == some .lt || FloatKind.f64.format.order (fl (p + n)) (fl d.size) == some .eq) = true := by
    rw [show FloatKind.f64.format = Ieee.double from rfl, fl_order _ _ (by omega) hd, compare_le]
    exact decide_eq_true h
  have h5 : ∀ t, binOp .geq t (.float .f64 (fl n)) (.float .f64 0) = pure (.bool true) := fun t => by rw [binOp_float_cmp_geq, h3]
  have h6 : ∀ t, binOp .leq t (.float .f64 (fl (p + n))) (.float .f64 (fl d.size)) = pure (.bool true) := fun t => by rw [binOp_float_cmp_leq, h4]
  unfold st
  clear h3 h4 h
  go_enter Try.func24, Try.ntmps24
  go_wp2
  go_ret
  exact ⟨rfl, rfl⟩

theorem iof_any (p n : Nat) (s : ByteArray) (h : p + n ≤ s.size) (hs : s.size < 2 ^ 53) (w : World) :
    Calls Try.prog 26 #[st p n, .string s] w fun e w' => e = .returned (.string (s.extract p (p + n))) ∧ w' = w := by
  have h1 := fun t => run_fl_add w t p n (by omega)
  have h2 := run_fl_int w p (by omega)
  have h3 := run_fl_int w (p + n) (by omega)
  have g1 : ((p : Nat) : Int) ≤ ((p + n : Nat) : Int) := by omega
  have g2 : ((p + n : Nat) : Int) ≤ (s.size : Int) := by omega
  obtain ⟨q, hq⟩ : ∃ q, p + n = q := ⟨_, rfl⟩
  rw [hq] at h1 h3 g1 g2 ⊢
  unfold st
  clear h hq
  go_enter Try.func26, Try.ntmps26
  go_wp2
  go_ret
  exact ⟨rfl, rfl⟩

/-- A new variable behind another. -/
theorem box_new (w : World) (ob : Obj) (y : List Value) : ((w.alloc ob).alloc (.cells y.toArray 42)).rangeAt (w.heap.size + 1) 0 y
    ∧ Below w.heap.size w ((w.alloc ob).alloc (.cells y.toArray 42)) := by
  have h := Blk.new (w.alloc ob) 42 y
  rw [show (w.alloc ob).heap.size = w.heap.size + 1 by simp] at h
  exact ⟨h.range (fun j v hv => by rw [Nat.zero_add]; exact hv), ((Below.refl _ _).alloc (Nat.le_refl _) _).alloc (by simp) _⟩

theorem undone_any (c : Cp) (x : ByteArray) (hc : c.Ok) (w : World) :
    Calls Try.prog 25 #[.agg c.vals.toArray, .string x] w fun e w' => e = .returned (.agg (undC c x).vals.toArray) ∧ Below w.heap.size w w' := by
  rcases ok_cases hc with ⟨m, hm, rfl⟩ | ⟨s, hs, rfl⟩ | ⟨m, hm, rfl⟩
  · have e : undC (pK m) x = pK m := rfl
    rw [e]
    simp only [Cp.vals, pK]
    go_enter Try.func25, Try.ntmps25
    go_wp2
    exact ret_cell 4 42 rfl (w.heap.size + 1) rfl [.int .i64 1, .int .i64 m, .string Em] _ (box_new w _ _).1 Try.underlying42 rfl (by kernel_rfl) rfl ⟨rfl, (box_new w _ _).2⟩
  · have e : undC (pP s) x = pX s.size := rfl
    rw [e]
    simp only [Cp.vals, pP, pX]
    go_enter Try.func25, Try.ntmps25
    go_wp2
    exact ret_cell 4 42 rfl (w.heap.size + 1) rfl [.int .i64 3, .int .i64 s.size, .string Em] _ (box_new w _ _).1 Try.underlying42 rfl (by kernel_rfl) rfl ⟨rfl, (box_new w _ _).2⟩
  · have e : undC (pX m) x = pP x := rfl
    rw [e]
    simp only [Cp.vals, pP, pX]
    go_enter Try.func25, Try.ntmps25
    go_wp2
    exact ret_cell 4 42 rfl (w.heap.size + 1) rfl [.int .i64 2, .int .i64 0, .string x] _ (box_new w _ _).1 Try.underlying42 rfl (by kernel_rfl) rfl ⟨rfl, (box_new w _ _).2⟩
end Go.Proofs.Ytbhojomgbjchkaa
