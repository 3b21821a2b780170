/- Records as they stand on a disk: how they are written, what is told of any bytes; of no program. -/
import Derived.Test.YtifdoneffnfogaaPlain0
import Derived.Test.YtifdoneffnfogaaBytes0
import Derived.Test.YtifdoneffnfogaaDkS
namespace Go.Proofs.Ytifdoneffnfogaa
open Go.RowKit
set_option linter.unusedSimpArgs false
set_option linter.unusedVariables false

/-- The number that eight bytes are. -/
def hd (b : List UInt8) : Int := wrap64 (num (b.take 8) : Nat)
/-- A record as it stands on the disk. -/
def enc (r : List UInt8) : List UInt8 := i8 r.length ++ r
def encs (l : List (List UInt8)) : List UInt8 := l.flatMap enc
theorem enc_len (r : List UInt8) : (enc r).length = 8 + r.length := by rw [enc, List.length_append, i8_len]
theorem encs_cons (r : List UInt8) (l : List (List UInt8)) : encs (r :: l) = enc r ++ encs l := rfl
theorem encs_append (a b : List (List UInt8)) : encs (a ++ b) = encs a ++ encs b := by simp [encs]

/-- No whole record stands at the front. -/
abbrev Ends (b : List UInt8) : Prop := b.length < 8 ∨ hd b < 0 ∨ 16384 < hd b ∨ (b.length : Int) - 8 < hd b
theorem Ends.not {b : List UInt8} (h : ¬ Ends b) : 8 ≤ b.length ∧ 0 ≤ hd b ∧ hd b ≤ 16384 ∧ hd b ≤ (b.length : Int) - 8 := by
  unfold Ends at h
  omega
/-- The records that stand there whole, and how many bytes they are (n: at most so many). -/
def recsF : Nat → List UInt8 → List (List UInt8) × Nat
  | 0, _ => ([], 0)
  | n + 1, b => if Ends b then ([], 0) else ((b.drop 8).take (hd b).toNat :: (recsF n (b.drop (8 + (hd b).toNat))).1, 8 + (hd b).toNat + (recsF n (b.drop (8 + (hd b).toNat))).2)
def recs (b : List UInt8) : List (List UInt8) × Nat := recsF b.length b
theorem recsF_stop {b : List UInt8} (h : Ends b) : ∀ n, recsF n b = ([], 0)
  | 0 => rfl
  | n + 1 => by rw [recsF, if_pos h]
theorem recsF_eq : ∀ (n m : Nat) (b : List UInt8), b.length ≤ n → b.length ≤ m → recsF n b = recsF m b
  | 0, m, b, h, _ => by rw [recsF_stop (.inl (by omega)) m]; rfl
  | n + 1, 0, b, _, h => by rw [recsF_stop (.inl (by omega)) (n + 1)]; rfl
  | n + 1, m + 1, b, h, h' => by
    by_cases he : Ends b
    · rw [recsF_stop he, recsF_stop he]
    · have hn := Ends.not he
      have hl : (b.drop (8 + (hd b).toNat)).length = b.length - (8 + (hd b).toNat) := List.length_drop
      rw [recsF, recsF, if_neg he, if_neg he, recsF_eq n m (b.drop (8 + (hd b).toNat)) (by omega) (by omega)]
theorem recs_stop {b : List UInt8} (h : Ends b) : recs b = ([], 0) := recsF_stop h _
theorem recs_step {b : List UInt8} (h : ¬ Ends b) : recs b = ((b.drop 8).take (hd b).toNat :: (recs (b.drop (8 + (hd b).toNat))).1, 8 + (hd b).toNat + (recs (b.drop (8 + (hd b).toNat))).2) := by
  have hn := Ends.not h
  have hl : (b.drop (8 + (hd b).toNat)).length = b.length - (8 + (hd b).toNat) := List.length_drop
  unfold recs
  rw [recsF_eq b.length (b.length + 1) b (Nat.le_refl _) (by omega), recsF, if_neg h, recsF_eq b.length _ (b.drop (8 + (hd b).toNat)) (by omega) (Nat.le_refl _)]

theorem recs_le : ∀ (n : Nat) (b : List UInt8), b.length ≤ n → (recs b).2 ≤ b.length
  | 0, b, h => by
    rw [recs_stop (.inl (by omega))]
    exact Nat.zero_le _
  | n + 1, b, h => by
    by_cases he : Ends b
    · rw [recs_stop he]; exact Nat.zero_le _
    · have hn := Ends.not he
      rw [recs_step he]
      have hl : (b.drop (8 + (hd b).toNat)).length = b.length - (8 + (hd b).toNat) := List.length_drop
      have := recs_le n (b.drop (8 + (hd b).toNat)) (by omega)
      show 8 + (hd b).toNat + (recs (b.drop (8 + (hd b).toNat))).2 ≤ b.length
      omega
theorem recs_len (b : List UInt8) : (recs b).2 ≤ b.length := recs_le b.length b (Nat.le_refl _)

theorem hd_i8 (r : List UInt8) (hr : r.length ≤ 16384) (t : List UInt8) : hd (i8 r.length ++ t) = (r.length : Int) := by
  have h8 : (i8 (r.length : Int)).length = 8 := i8_len _
  have h := wrap_back (r.length : Int) (by omega) (by omega)
  unfold hd
  rw [List.take_append_of_le_length (by omega), List.take_of_length_le (by omega), i8, num_le 8 _ (by omega)]
  exact h
theorem enc_stands (r : List UInt8) (hr : r.length ≤ 16384) (t : List UInt8) : ¬ Ends (enc r ++ t) ∧ hd (enc r ++ t) = (r.length : Int) := by
  have h := hd_i8 r hr (r ++ t)
  rw [← List.append_assoc] at h
  have hl : (enc r ++ t).length = 8 + r.length + t.length := by rw [List.length_append, enc_len]
  refine ⟨?_, h⟩
  unfold Ends
  rw [show hd (enc r ++ t) = (r.length : Int) from h]
  omega
theorem recs_enc (r : List UInt8) (hr : r.length ≤ 16384) (t : List UInt8) : recs (enc r ++ t) = (r :: (recs t).1, 8 + r.length + (recs t).2) := by
  obtain ⟨h1, h2⟩ := enc_stands r hr t
  rw [recs_step h1, h2, Int.toNat_natCast]
  have e1 : (enc r ++ t).drop 8 = r ++ t := by
    rw [enc, List.append_assoc, List.drop_append_of_le_length (by rw [i8_len]; omega), List.drop_of_length_le (by rw [i8_len]; omega), List.nil_append]
  have e2 : (enc r ++ t).drop (8 + r.length) = t := by
    rw [← List.drop_drop, e1, List.drop_left]
  rw [e1, e2, List.take_left]
theorem recs_encs : ∀ (l : List (List UInt8)) (h : ∀ r ∈ l, r.length ≤ 16384) (t : List UInt8), recs (encs l ++ t) = (l ++ (recs t).1, (encs l).length + (recs t).2)
  | [], _, t => by simp [encs]
  | r :: l, h, t => by
    rw [encs_cons, List.append_assoc, recs_enc r (h r (by simp)), recs_encs l (fun x hx => h x (by simp [hx])) t, List.length_append, enc_len]
    simp only [List.cons_append, Prod.mk.injEq, true_and]
    omega
theorem recs_nil : recs [] = ([], 0) := recs_stop (.inl (by simp))
theorem recs_all (l : List (List UInt8)) (h : ∀ r ∈ l, r.length ≤ 16384) : recs (encs l) = (l, (encs l).length) := by
  have := recs_encs l h []
  rw [List.append_nil, recs_nil] at this
  simpa using this
/-- Of a record that is cut nothing is told. -/
theorem ends_torn (r : List UInt8) (hr : r.length ≤ 16384) (t : Nat) (ht : t < 8 + r.length) : Ends ((enc r).take t) := by
  have hl : ((enc r).take t).length = t := by rw [List.length_take, enc_len]; omega
  by_cases h8 : t < 8
  · exact .inl (by omega)
  · refine .inr (.inr (.inr ?_))
    have e : hd ((enc r).take t) = (r.length : Int) := by
      have h := hd_i8 r hr (r.take (t - 8))
      rw [← h]
      congr 1
      rw [enc, List.take_append, i8_len, List.take_of_length_le (by rw [i8_len]; omega)]
    rw [e, hl]
    omega
/-- Of a front of records those are told that are whole in it. -/
theorem recs_front : ∀ (l : List (List UInt8)) (h : ∀ r ∈ l, r.length ≤ 16384) (t : Nat), t ≤ (encs l).length → ∃ m, m ≤ l.length ∧ recs ((encs l).take t) = (l.take m, (encs (l.take m)).length) ∧ (encs (l.take m)).length ≤ t ∧ ∀ i, (encs (l.take i)).length ≤ t → i ≤ l.length → i ≤ m
  | [], _, t, ht => ⟨0, Nat.le_refl _, by simp [encs, recs_nil], by simp [encs], fun i _ hi => by simpa using hi⟩
  | r :: l, h, t, ht => by
    have hr := h r (by simp)
    rw [encs_cons, List.length_append, enc_len] at ht
    by_cases hlt : t < 8 + r.length
    · refine ⟨0, Nat.zero_le _, ?_, by simp [encs], fun i hi hil => ?_⟩
      · rw [encs_cons, List.take_append_of_le_length (by rw [enc_len]; omega), recs_stop (ends_torn r hr t hlt)]
        simp [encs]
      · cases i with
        | zero => exact Nat.le_refl _
        | succ i =>
          rw [List.take_succ_cons, encs_cons, List.length_append, enc_len] at hi
          omega
    · obtain ⟨m, h1, h2, h3, h4⟩ := recs_front l (fun x hx => h x (by simp [hx])) (t - (8 + r.length)) (by omega)
      refine ⟨m + 1, by simpa using h1, ?_, ?_, fun i hi hil => ?_⟩
      · rw [encs_cons, List.take_append, enc_len, List.take_of_length_le (by rw [enc_len]; omega), recs_enc r hr, h2, List.take_succ_cons, encs_cons, List.length_append, enc_len]
      · rw [List.take_succ_cons, encs_cons, List.length_append, enc_len]; omega
      · cases i with
        | zero => omega
        | succ i =>
          rw [List.take_succ_cons, encs_cons, List.length_append, enc_len] at hi
          have := h4 i (by omega) (by simpa using hil)
          omega

theorem recs_fin {b : List UInt8} {j : Nat} {done : List (List UInt8)} (h : recs b = (done ++ (recs (b.drop j)).1, j + (recs (b.drop j)).2)) (he : Ends (b.drop j)) : recs b = (done, j) := by
  rw [recs_stop he] at h
  simpa using h
theorem recs_go {b : List UInt8} {j n : Nat} {done : List (List UInt8)} (h : recs b = (done ++ (recs (b.drop j)).1, j + (recs (b.drop j)).2)) (he : ¬ Ends (b.drop j)) (hn : b.length = n) (hj : j ≤ n) :
    ∃ m : Nat, hd (b.drop j) = (m : Int) ∧ m ≤ 16384 ∧ j + 8 + m ≤ n ∧ recs b = (done ++ [(b.drop (j + 8)).take m] ++ (recs (b.drop (j + 8 + m))).1, j + 8 + m + (recs (b.drop (j + 8 + m))).2) := by
  have hen := Ends.not he
  obtain ⟨z, hz⟩ : ∃ z, hd (b.drop j) = z := ⟨_, rfl⟩
  rw [recs_step he] at h
  rw [hz] at hen h
  obtain ⟨m, hm⟩ := Int.eq_ofNat_of_zero_le hen.2.1
  have hl : (b.drop j).length = n - j := by rw [List.length_drop, hn]
  rw [hl] at hen
  subst hm
  rw [Int.toNat_natCast, List.drop_drop, List.drop_drop, show j + (8 + m) = j + 8 + m by omega] at h
  refine ⟨m, hz, by omega, by omega, ?_⟩
  rw [h]
  refine Prod.ext ?_ ?_
  · show done ++ (_ :: _) = _
    rw [List.append_assoc]
    rfl
  · show j + (8 + m + _) = _
    omega
/-- What the three tests of a length say. -/
theorem ends_tests {b : List UInt8} {n j : Nat} (hn : (b.drop j).length = n - j) (hj : j ≤ n) {z : Int} (hz : hd (b.drop j) = z) (he : Ends (b.drop j)) : (n : Int) - (j : Int) < 8 ∨ z < 0 ∨ 16384 < z ∨ (n : Int) - (j : Int) - 8 < z := by
  unfold Ends at he
  rw [hz, hn] at he
  omega
/-- Open: the error, the records, the disk behind it. -/
def openS (s : Dk) : Int × List (List UInt8) × Dk :=
  if s.gone then (18, [], s) else if (s.cut (recs s.b).2).1 ≠ 0 then ((s.cut (recs s.b).2).1, [], (s.cut (recs s.b).2).2) else (0, (recs s.b).1, (s.cut (recs s.b).2).2)
/-- Append: the error, how many records then, the disk behind it. -/
def appL (s : Dk) (n : Nat) (r : List UInt8) : Int × Nat × Dk :=
  if 16384 < r.length then (5, n, s) else ((s.app (enc r)).1, if (s.app (enc r)).1 = 0 then n + 1 else n, (s.app (enc r)).2)
/-- Sync: the error, how many are safe then, the disk behind it. -/
def syncL (s : Dk) (n k : Nat) : Int × Nat × Dk := (s.sync.1, if s.sync.1 = 0 then n else k, s.sync.2)
end Go.Proofs.Ytifdoneffnfogaa
