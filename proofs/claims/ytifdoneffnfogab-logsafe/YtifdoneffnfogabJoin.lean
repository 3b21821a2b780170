/- The contract of join over a Reader's Byte. -/
import Derived.Test.YtifdoneffnfogabTake
import Derived.Test.YtifdoneffnfogabJump
namespace Go.Proofs.Ytifdoneffnfogab
open Go.RowKit
variable {N : Nat}

/-- So many bytes more, from the i-th on. -/
def jn : Nat → Nat → Nat → St → Nat × St
  | 0, _, acc, s => (acc, s)
  | k + 1, i, acc, s => jn k (i + 1) (acc + byteS s * 256 ^ i) (nextS s)

theorem nextS_len (s : St) : (nextS s).1.length ≤ s.1.length := by
  obtain ⟨l, e⟩ := s
  unfold nextS
  by_cases h : e = 0
  · cases l <;> simp [h]
  · simp [h]

theorem byteS_lt (s : St) : byteS s < 256 := by
  obtain ⟨l, e⟩ := s
  unfold byteS
  by_cases h : e = 0
  · cases l with
    | nil => simp [h]
    | cons b r => simpa [h] using b.toNat_lt
  · simp [h]

theorem pow_256 (i : Nat) : 256 ^ i = 2 ^ (8 * i) := by rw [Nat.pow_mul]

theorem or_step (acc b i sh : Nat) (h : sh = 8 * i) (ha : acc < 256 ^ i) (hb : b < 256) (hs : sh ≤ 56) :
    bits .or .u64 (acc : Int) (IntKind.u64.wrap (IntKind.u64.wrap (b : Int) * 2 ^ sh)) = ((acc + b * 256 ^ i : Nat) : Int) := by
  subst h
  rw [pow_256] at ha ⊢
  have hp : (2 : Nat) ^ (8 * i) ≤ 2 ^ 56 := Nat.pow_le_pow_right (by omega) hs
  have hm : b * 2 ^ (8 * i) ≤ 255 * 2 ^ 56 := Nat.mul_le_mul (by omega) hp
  generalize hq : 2 ^ (8 * i) = q at *
  have e1 : IntKind.u64.wrap (b : Int) = (b : Int) := by rw [IntKind.wrap_u64]; omega
  have e3 : (2 : Int) ^ (8 * i) = ((q : Nat) : Int) := by rw [← hq]; exact (Int.natCast_pow 2 (8 * i)).symm
  have e2 : IntKind.u64.wrap ((b : Int) * 2 ^ (8 * i)) = ((b * q : Nat) : Int) := by
    rw [e3, ← Int.natCast_mul, IntKind.wrap_u64]
    generalize b * q = z at *
    omega
  rw [e1, e2, bits_or_u64_nat acc (b * q) (by omega) (by omega)]
  have e4 := Nat.two_pow_add_eq_or_of_lt (i := 8 * i) (b := acc) (by rw [hq]; exact ha) b
  rw [hq] at e4
  rw [Nat.or_comm, Nat.mul_comm b q, ← e4, Nat.add_comm]

theorem pow_step (acc b i : Nat) (ha : acc < 256 ^ i) (hb : b < 256) : acc + b * 256 ^ i < 256 ^ (i + 1) := by
  rw [Nat.pow_succ]
  generalize 256 ^ i = q at *
  have : b * q ≤ 255 * q := Nat.mul_le_mul_right q (by omega)
  omega

set_option maxRecDepth 100000 in
set_option maxHeartbeats 400000 in
theorem join_nat (p : Nat) (s : St) (cnt : Nat) (w : World) (hR : RD N w p s) (hm : s.1.length ≤ maxLen) (hc : cnt ≤ 8) :
    Calls Try.prog 38 #[.func (Fn.func 35) #[.pointer (some ⟨p, 0, none⟩)] #[], .int .i64 cnt] w fun x w' => x = .returned (.int .i64 (wrap64 (jn cnt 0 0 s).1)) ∧ RD N w' p (jn cnt 0 0 s).2 ∧ w.grownBy w' (some p) := by
  have hc' : (cnt : Int) ≤ 8 := by omega
  go_enter Try.func38, Try.ntmps38
  go_wp2_with fail
  refine wp_scope_pre 0 (fun a' w' => ∃ (acc i sh k : Nat) (s1 : St) (t7 t8 t9 t10 t11 t12 t13 t14 t15 t16 t17 t18 t19 t20 t21 : Value),
      a' = { tmps := #[.func (Fn.func 35) #[.pointer (some ⟨p, 0, none⟩)] #[], .int .i64 cnt, undef, undef, .int .i64 0, .int .u64 acc, .int .i64 sh, t7, t8, t9, t10, t11, t12, t13, t14, t15, t16, t17, t18, t19, t20, t21], defers := [] } ∧
      RD N w' p s1 ∧ s1.1.length ≤ maxLen ∧ w.grownBy w' (some p) ∧ i + k = cnt ∧ sh = 8 * i ∧ acc < 256 ^ i ∧ jn k i acc s1 = jn cnt 0 0 s)
    (fun a' _ => 64 - (intOf (a'.tmps.getD 6 undef)).toNat) rfl ?_ ?_
  · go_wp2_with fail
    exact ⟨0, 0, 0, cnt, s, _, _, _, _, _, _, _, _, _, _, _, _, _, _, _, rfl, hR, hm, World.grownBy.refl _ _, by omega, rfl, by simp, rfl⟩
  · rintro x hx a' w' ⟨acc, i, sh, k, s1, t7, t8, t9, t10, t11, t12, t13, t14, t15, t16, t17, t18, t19, t20, t21, rfl, hR1, hm1, hg1, hik, hsh, hacc, hjn⟩
    have HJ : Hid (jn k i acc s1 = jn cnt 0 0 s) := hjn
    have HI : Hid (i + k = cnt) := hik
    have HS : Hid (sh = 8 * i) := hsh
    have HA : Hid (acc < 256 ^ i) := hacc
    cases k with
    | zero =>
      have ht : ((sh : Int) == 8 * (cnt : Int)) = true := by rw [beq_iff_eq]; omega
      have HF : Hid ((acc, s1) = jn cnt 0 0 s) := hjn
      clear hjn hik hsh hacc
      rcases hx with rfl | rfl
      · go_wp2_with fail
        go_step3
        go_wp2_with fail
        simp only [Exit.jump]
        go_ret
        rw [← HF.out]
        exact ⟨rfl, hR1, hg1⟩
      · go_wp2_with fail
        simp only [Exit.jump]
        go_ret
        rw [← HF.out]
        exact ⟨rfl, hR1, hg1⟩
    | succ k =>
      have ht : ((sh : Int) == 8 * (cnt : Int)) = false := by rw [beq_eq_false_iff_ne]; omega
      have hsb : (sh : Int) ≤ 56 := by omega
      have HO : Hid (bits .or .u64 (acc : Int) (IntKind.u64.wrap (IntKind.u64.wrap (byteS s1 : Int) * 2 ^ sh)) = ((acc + byteS s1 * 256 ^ i : Nat) : Int)) := or_step acc (byteS s1) i sh hsh hacc (byteS_lt s1) (by omega)
      have HP : Hid (acc + byteS s1 * 256 ^ i < 256 ^ (i + 1)) := pow_step acc (byteS s1) i hacc (byteS_lt s1)
      clear hjn hik hsh hacc
      rcases hx with rfl | rfl
      · go_wp2_with fail
        go_step3
        go_wp2_with fail
        refine (Byte_any p s1 _ hR1 hm1).mono ?_
        rintro e w2 ⟨rfl, hR2, hg2⟩
        go_wp2_with fail
        go_step3
        rw [HO.out]
        exact ⟨rfl, ⟨_, i + 1, sh + 8, k, nextS s1, _, _, _, _, _, _, _, _, _, _, _, _, _, _, _, rfl, hR2, Nat.le_trans (nextS_len s1) hm1, grownT hg1 hg2, by have := HI.out; omega, by have := HS.out; omega, HP.out, HJ.out⟩, by simp [intOf]; omega⟩
      · go_wp2_with fail
        refine (Byte_any p s1 _ hR1 hm1).mono ?_
        rintro e w2 ⟨rfl, hR2, hg2⟩
        go_wp2_with fail
        go_step3
        rw [HO.out]
        exact ⟨rfl, ⟨_, i + 1, sh + 8, k, nextS s1, _, _, _, _, _, _, _, _, _, _, _, _, _, _, _, rfl, hR2, Nat.le_trans (nextS_len s1) hm1, grownT hg1 hg2, by have := HI.out; omega, by have := HS.out; omega, HP.out, HJ.out⟩, by simp [intOf]; omega⟩
end Go.Proofs.Ytifdoneffnfogab
