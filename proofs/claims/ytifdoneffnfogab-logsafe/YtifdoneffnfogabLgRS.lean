/- What a Reader reads of records: so many bytes, one record; of no program. -/
import Derived.Test.YtifdoneffnfogabLgS
namespace Go.Proofs.Ytifdoneffnfogab
open Go.RowKit
set_option linter.unusedSimpArgs false
set_option linter.unusedVariables false

/-- So many bytes, each as it is read. -/
def bys : Nat → St → List UInt8 × St
  | 0, s => ([], s)
  | k + 1, s => (UInt8.ofNat (byteS s) :: (bys k (nextS s)).1, (bys k (nextS s)).2)
theorem bys_err : ∀ (k : Nat) (s : St), s.2 ≠ 0 → (bys k s).2 = s
  | 0, _, _ => rfl
  | k + 1, s, h => by
    have h1 : nextS s = s := by simp [nextS, h]
    rw [bys, h1]
    exact bys_err k s h
theorem bys_ok : ∀ (k : Nat) (l : List UInt8), k ≤ l.length → bys k (l, 0) = (l.take k, (l.drop k, 0))
  | 0, l, _ => by simp [bys]
  | k + 1, [], h => by simp at h
  | k + 1, b :: r, h => by
    have h1 : nextS (b :: r, 0) = (r, 0) := by simp [nextS]
    have h2 : byteS (b :: r, 0) = b.toNat := by simp [byteS]
    rw [bys, h1, h2, bys_ok k r (by simpa using h)]
    simp
theorem bys_short : ∀ (k : Nat) (l : List UInt8), l.length < k → (bys k (l, 0)).2 = ([], 8)
  | 0, l, h => by simp at h
  | k + 1, [], _ => by
    have h1 : nextS ([], 0) = ([], 8) := by simp [nextS]
    rw [bys, h1]
    exact bys_err k _ (by simp)
  | k + 1, b :: r, h => by
    have h1 : nextS (b :: r, 0) = (r, 0) := by simp [nextS]
    rw [bys, h1]
    exact bys_short k r (by simpa using h)
theorem bys_len : ∀ (k : Nat) (s : St), (bys k s).1.length = k
  | 0, _ => rfl
  | k + 1, s => by rw [bys, List.length_cons, bys_len k]
/-- What a Reader reads as the size of a record. -/
def szS (l : List UInt8) : Int := intR (jn 8 0 0 (l, 0))
theorem sz_short {l : List UInt8} (h : l.length < 8) : (jn 8 0 0 (l, 0)).2 = ([], 8) ∧ szS l = 0 := by
  have h1 := jn_short 8 0 0 l h
  refine ⟨h1, ?_⟩
  unfold szS intR
  rw [h1]
  rfl
theorem sz_long {l : List UInt8} (h : 8 ≤ l.length) : (jn 8 0 0 (l, 0)).2 = (l.drop 8, 0) ∧ szS l = hd l := by
  have h1 := jn_ok 8 0 0 l h
  refine ⟨by rw [h1], ?_⟩
  unfold szS intR
  rw [h1]
  simp only [Nat.zero_add, Nat.pow_zero, Nat.mul_one, if_true]
  rfl
/-- Behind a record: the Reader; what is told where none stands whole has an error. -/
def oneS (l : List UInt8) : St :=
  if szS l < 0 ∨ 16384 < szS l then failS (jn 8 0 0 (l, 0)).2 11 else (bys (szS l).toNat (jn 8 0 0 (l, 0)).2).2
theorem one_ends {l : List UInt8} (h : Ends l) : (oneS l).2 = 8 ∨ (oneS l).2 = 11 := by
  unfold oneS
  by_cases h8 : l.length < 8
  · obtain ⟨h1, h2⟩ := sz_short h8
    rw [h2, if_neg (by omega), h1]
    exact .inl rfl
  · obtain ⟨h1, h2⟩ := sz_long (l := l) (by omega)
    rw [h2, h1]
    by_cases hb : hd l < 0 ∨ 16384 < hd l
    · rw [if_pos hb]
      exact .inr (by simp [failS])
    · rw [if_neg hb]
      rw [bys_short _ _ (by rw [List.length_drop]; unfold Ends at h; omega)]
      exact .inl rfl
theorem one_whole {l : List UInt8} (h : ¬ Ends l) : ∃ m : Nat, hd l = (m : Int) ∧ szS l = (m : Int) ∧ m ≤ 16384 ∧ 8 + m ≤ l.length ∧ oneS l = (l.drop (8 + m), 0) ∧ (bys (szS l).toNat (jn 8 0 0 (l, 0)).2).1 = (l.drop 8).take m := by
  have hn := Ends.not h
  obtain ⟨h1, h2⟩ := sz_long hn.1
  obtain ⟨m, hm⟩ := Int.eq_ofNat_of_zero_le hn.2.1
  have hl : m ≤ (l.drop 8).length := by rw [List.length_drop]; omega
  refine ⟨m, hm, by rw [h2, hm], by omega, by omega, ?_, ?_⟩
  · unfold oneS
    rw [h2, hm, if_neg (by omega), h1, Int.toNat_natCast, bys_ok _ _ hl, List.drop_drop]
  · rw [h2, hm, h1, Int.toNat_natCast, bys_ok _ _ hl]
theorem bys_rest : ∀ (k : Nat) (s : St), (bys k s).2.1.length ≤ s.1.length
  | 0, _ => Nat.le_refl _
  | k + 1, s => Nat.le_trans (bys_rest k (nextS s)) (nextS_len s)
theorem one_rest (l : List UInt8) : (oneS l).1.length ≤ l.length := by
  have h := jn_len 8 0 0 (l, 0)
  unfold oneS
  split
  · unfold failS
    split
    · exact Nat.zero_le _
    · exact h
  · exact Nat.le_trans (bys_rest _ _) h
end Go.Proofs.Ytifdoneffnfogab
