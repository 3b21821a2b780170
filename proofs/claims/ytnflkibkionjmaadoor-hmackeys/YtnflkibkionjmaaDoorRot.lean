/- The contracts of RotateLeft32, turn, rot and words. -/
import Derived.Test.YtnflkibkionjmaaDoorRows
import Derived.Test.YtnflkibkionjmaaDoorSpec2
import Derived.Test.YtnflkibkionjmaaDoorJump
import Derived.WalkLawsBesides
namespace Go.Proofs.YtnflkibkionjmaaDoor
open Go.RowKit
set_option linter.unusedSimpArgs false
set_option linter.unusedVariables false

attribute [local go_sem] wadd wadd' wxor wand wnot

theorem ret_int {k : IntKind} {a b : Int} (h : a = b) : Ending.returned (.int k a) = .returned (.int k b) := by rw [h]

theorem and31 (n : Nat) (h0 : 1 ≤ n) (h1 : n ≤ 31) : bits .and .u64 (IntKind.u64.wrap (-(n : Int))) 31 = ((32 - n : Nat) : Int) := by
  have e : IntKind.u64.wrap (-(n : Int)) = ((18446744073709551616 - n : Nat) : Int) := by rw [IntKind.wrap_u64]; omega
  rw [e]
  rw [show (31 : Int) = ((31 : Nat) : Int) from rfl, bits_and_u64_nat _ _ (by omega) (by omega)]
  have := Nat.and_two_pow_sub_one_eq_mod (18446744073709551616 - n) 5
  rw [show (2 : Nat) ^ 5 - 1 = 31 from rfl] at this
  rw [this]
  omega

theorem rotl_any (x : UInt32) (k : Int) (n : Nat) (hk : k = -(n : Int)) (h0 : 1 ≤ n) (h1 : n ≤ 31) (w : World) :
    Calls Tryd.prog 24 #[.int .u32 (nt x), .int .i64 k] w fun e w' => e = .returned (.int .u32 (nt (rotr x n))) ∧ w' = w := by
  subst hk
  have hx0 := nt_lo x
  have hx1 := nt_hi x
  have ha := and31 n h0 h1
  obtain ⟨j, hj⟩ : ∃ j : Nat, 32 - n = j := ⟨_, rfl⟩
  rw [hj] at ha
  have hj2 : j ≤ 31 := by omega
  have HW := hid (wrotl x n)
  rw [hj] at HW
  have HJ := hid (show 32 - j = n by omega)
  clear hj
  go_enter Tryd.func24, Tryd.ntmps24
  go_wp2
  go_ret
  refine ⟨ret_int ?_, rfl⟩
  rw [HJ.out]
  exact HW.out

theorem turn_any (x : UInt32) (i j k : Int) (a b c : Nat) (ha : i = (a : Int)) (hb : j = (b : Int)) (hc : k = (c : Int)) (a0 : 1 ≤ a) (a1 : a ≤ 31) (b0 : 1 ≤ b) (b1 : b ≤ 31) (c0 : 1 ≤ c) (c1 : c ≤ 31) (w : World) :
    Calls Tryd.prog 23 #[.int .u32 (nt x), .int .i64 i, .int .i64 j, .int .i64 k] w fun e w' => e = .returned (.int .u32 (nt (rotr x a ^^^ rotr x b ^^^ rotr x c))) ∧ w' = w := by
  subst ha hb hc
  have h1 := wxor (rotr x a) (rotr x b)
  have h2 := wxor (rotr x a ^^^ rotr x b) (rotr x c)
  go_enter Tryd.func23, Tryd.ntmps23
  go_wp2_with fail
  refine (rotl_any x _ a (by omega) a0 a1 _).mono ?_
  rintro e w' ⟨rfl, rfl⟩
  go_wp2_with fail
  refine (rotl_any x _ b (by omega) b0 b1 _).mono ?_
  rintro e w' ⟨rfl, rfl⟩
  go_wp2_with fail
  refine (rotl_any x _ c (by omega) c0 c1 _).mono ?_
  rintro e w' ⟨rfl, rfl⟩
  go_wp2_with fail
  go_ret
  exact ⟨rfl, rfl⟩

theorem rot_any (x : UInt32) (k : Int) (n : Nat) (hk : k = (n : Int)) (h0 : 1 ≤ n) (h1 : n ≤ 31) (w : World) :
    Calls Tryd.prog 17 #[.int .u32 (nt x), .int .u64 k] w fun e w' => e = .returned (.int .u32 (nt (rotr x n))) ∧ w' = w := by
  subst hk
  have hx0 := nt_lo x
  have hx1 := nt_hi x
  have HW := hid (wrotr x n)
  go_enter Tryd.func17, Tryd.ntmps17
  go_wp2
  go_ret
  refine ⟨ret_int ?_, rfl⟩
  exact HW.out
end Go.Proofs.YtnflkibkionjmaaDoor
