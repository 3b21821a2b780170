/- Plain facts on what a Reader reads. -/
import Derived.Test.YtbbmeeijebkpbaaInt
namespace Go.Proofs.Ytbbmeeijebkpbaa
open Go.RowKit

/-- The number that bytes make, the lowest first. -/
def num : List UInt8 → Nat
  | [] => 0
  | b :: r => b.toNat + 256 * num r

theorem jn_err : ∀ (k i acc : Nat) (s : St), s.2 ≠ 0 → jn k i acc s = (acc, s)
  | 0, _, _, _, _ => rfl
  | k + 1, i, acc, s, h => by
    have h1 : nextS s = s := by simp [nextS, h]
    have h2 : byteS s = 0 := by simp [byteS, h]
    rw [jn, h1, h2, Nat.zero_mul, Nat.add_zero]
    exact jn_err k (i + 1) acc s h

theorem jn_ok : ∀ (k i acc : Nat) (l : List UInt8), k ≤ l.length → jn k i acc (l, 0) = (acc + num (l.take k) * 256 ^ i, (l.drop k, 0))
  | 0, i, acc, l, _ => by simp [jn, num]
  | k + 1, i, acc, [], h => by simp at h
  | k + 1, i, acc, b :: r, h => by
    have h1 : nextS (b :: r, 0) = (r, 0) := by simp [nextS]
    have h2 : byteS (b :: r, 0) = b.toNat := by simp [byteS]
    rw [jn, h1, h2, jn_ok k (i + 1) _ r (by simpa using h)]
    simp only [List.take_succ_cons, List.drop_succ_cons, num, Nat.pow_succ]
    congr 1
    rw [Nat.add_mul, Nat.mul_comm (256 ^ i) 256, ← Nat.mul_assoc, Nat.mul_comm (num (r.take k)) 256, Nat.add_assoc]

theorem jn_short : ∀ (k i acc : Nat) (l : List UInt8), l.length < k → (jn k i acc (l, 0)).2 = ([], 8)
  | 0, i, acc, l, h => by simp at h
  | k + 1, i, acc, [], _ => by
    have h1 : nextS ([], 0) = ([], 8) := by simp [nextS]
    rw [jn, h1, jn_err k _ _ _ (by simp)]
  | k + 1, i, acc, b :: r, h => by
    have h1 : nextS (b :: r, 0) = (r, 0) := by simp [nextS]
    rw [jn, h1]
    exact jn_short k _ _ r (by simpa using h)

theorem num_le : ∀ (k u : Nat), u < 256 ^ k → num (le k u) = u
  | 0, u, h => by simp at h; simp [le, num, h]
  | k + 1, u, h => by
    rw [Nat.pow_succ] at h
    rw [le, num, num_le k (u / 256) (by omega), UInt8.toNat_ofNat']
    omega
end Go.Proofs.Ytbbmeeijebkpbaa
