/- Plain facts on what a Reader reads. -/
import Derived.Test.YtifdoneffnfogabInt0
namespace Go.Proofs.Ytifdoneffnfogab
open Go.RowKit
variable {N : Nat}

/-- The number that bytes make, the lowest first. -/
def num : List UInt8 → Nat
  | [] => 0
  | b :: r => b.toNat + 256 * num r

theorem jn_err : ∀ (k i acc : Nat) (s : St), s.2 ≠ 0 → jn k i acc s = (acc, s)
  | 0, _, _, _, _ => rfl
  | k + 1, i, acc, s, h => by
    have h1 : nextS s = s := by simp [nextS, h]
    have h2 : byteS s = 0 := by simp [byteS, h]
    rw [jn, h1, h2, Nat.zero_mul, Nat.add_zero]
    exact jn_err k (i + 1) acc s h

theorem jn_ok : ∀ (k i acc : Nat) (l : List UInt8), k ≤ l.length → jn k i acc (l, 0) = (acc + num (l.take k) * 256 ^ i, (l.drop k, 0))
  | 0, i, acc, l, _ => by simp [jn, num]
  | k + 1, i, acc, [], h => by simp at h
  | k + 1, i, acc, b :: r, h => by
    have h1 : nextS (b :: r, 0) = (r, 0) := by simp [nextS]
    have h2 : byteS (b :: r, 0) = b.toNat := by simp [byteS]
    rw [jn, h1, h2, jn_ok k (i + 1) _ r (by simpa using h)]
    simp only [List.take_succ_cons, List.drop_succ_cons, num, Nat.pow_succ]
    congr 1
    rw [Nat.add_mul, Nat.mul_comm (256 ^ i) 256, ← Nat.mul_assoc, Nat.mul_comm (num (r.take k)) 256, Nat.add_assoc]

theorem jn_short : ∀ (k i acc : Nat) (l : List UInt8), l.length < k → (jn k i acc (l, 0)).2 = ([], 8)
  | 0, i, acc, l, h => by simp at h
  | k + 1, i, acc, [], _ => by
    have h1 : nextS ([], 0) = ([], 8) := by simp [nextS]
    rw [jn, h1, jn_err k _ _ _ (by simp)]
  | k + 1, i, acc, b :: r, h => by
    have h1 : nextS (b :: r, 0) = (r, 0) := by simp [nextS]
    rw [jn, h1]
    exact jn_short k _ _ r (by simpa using h)

theorem num_le : ∀ (k u : Nat), u < 256 ^ k → num (le k u) = u
  | 0, u, h => by simp at h; simp [le, num, h]
  | k + 1, u, h => by
    rw [Nat.pow_succ] at h
    rw [le, num, num_le k (u / 256) (by omega), UInt8.toNat_ofNat']
    omega

theorem wrap_back (x : Int) (h0 : -9223372036854775808 ≤ x) (h1 : x ≤ 9223372036854775807) : wrap64 (((x % 18446744073709551616).toNat : Nat) : Int) = x := by
  simp only [wrap64]
  omega

/-- A number that was written is read. -/
theorem Int_read (p : Nat) (x : Int) (r : List UInt8) (w : World) (h0 : -9223372036854775808 ≤ x) (h1 : x ≤ 9223372036854775807) (hR : RD N w p (le 8 (x % 18446744073709551616).toNat ++ r, 0)) (hm : r.length + 8 ≤ maxLen) :
    Calls Try.prog 32 #[.pointer (some ⟨p, 0, none⟩)] w fun e w' => e = .returned (.int .i64 x) ∧ RD N w' p (r, 0) ∧ w.grownBy w' (some p) := by
  have h := Int_any p _ w hR (by simp only [List.length_append, le_length]; omega)
  have e1 : jn 8 0 0 (le 8 (x % 18446744073709551616).toNat ++ r, 0) = ((x % 18446744073709551616).toNat, (r, 0)) := by
    rw [jn_ok 8 0 0 _ (by rw [List.length_append, le_length]; omega), List.take_left' (le_length 8 _), List.drop_left' (le_length 8 _), num_le 8 _ (by omega)]
    simp
  rw [e1] at h
  have e2 : intR ((x % 18446744073709551616).toNat, (r, (0 : Int))) = x := by
    unfold intR
    rw [if_pos rfl]
    exact wrap_back x h0 h1
  rw [e2] at h
  exact h

end Go.Proofs.Ytifdoneffnfogab
