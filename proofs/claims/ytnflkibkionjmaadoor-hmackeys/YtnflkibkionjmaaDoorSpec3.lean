/- Bytes into blocks, blocks into the state, the padding and the sum, of no program. -/
import Derived.Test.YtnflkibkionjmaaDoorSpec2
namespace Go.Proofs.YtnflkibkionjmaaDoor
open Go.RowKit
set_option linter.unusedSimpArgs false
set_option linter.unusedVariables false

theorem S8.len (s : S8) : s.l.length = 8 := rfl

def blkAt (m : List UInt8) (i : Nat) : List UInt8 := (m.drop (64 * i)).take 64
/-- The state behind n blocks of m. -/
def runS (m : List UInt8) : Nat → S8
  | 0 => H0
  | n + 1 => stirS (runS m n) (spreadS (blkAt m n))

theorem blkAt_append (m x : List UInt8) (i : Nat) (h : 64 * i + 64 ≤ m.length) : blkAt (m ++ x) i = blkAt m i := by
  unfold blkAt
  rw [List.drop_append_of_le_length (by omega), List.take_append_of_le_length (by rw [List.length_drop]; omega)]
theorem runS_append (m x : List UInt8) : ∀ n, 64 * n ≤ m.length → runS (m ++ x) n = runS m n
  | 0, _ => rfl
  | n + 1, h => by rw [runS, runS, runS_append m x n (by omega), blkAt_append m x n (by omega)]

/-- n bytes of rest into the block, behind what it holds of m. -/
def into (blk rest : List UInt8) (held n : Nat) : List UInt8 := blk.take held ++ rest.take n ++ blk.drop (held + n)

section
variable (m rest blk : List UInt8) (n : Nat)
theorem into_len (held : Nat) (hb : blk.length = 64) (hn : n ≤ rest.length) (hf : held + n ≤ 64) : (into blk rest held n).length = 64 := by
  simp only [into, List.length_append, List.length_take, List.length_drop]
  omega
theorem into_part (hb : blk.length = 64) (hp : blk.take (m.length % 64) = m.drop (64 * (m.length / 64))) (hn : n ≤ rest.length) (hf : m.length % 64 + n < 64) :
    (m ++ rest.take n).length % 64 = m.length % 64 + n ∧ (m ++ rest.take n).length / 64 = m.length / 64 ∧
      (into blk rest (m.length % 64) n).take (m.length % 64 + n) = (m ++ rest.take n).drop (64 * (m.length / 64)) ∧ runS (m ++ rest.take n) (m.length / 64) = runS m (m.length / 64) := by
  have hl : (m ++ rest.take n).length = m.length + n := by rw [List.length_append, List.length_take]; omega
  refine ⟨by omega, by omega, ?_, runS_append _ _ _ (by omega)⟩
  rw [List.drop_append_of_le_length (by omega), ← hp]
  unfold into
  exact List.take_left' (by simp only [List.length_append, List.length_take]; omega)
theorem into_full (hb : blk.length = 64) (hp : blk.take (m.length % 64) = m.drop (64 * (m.length / 64))) (hn : n ≤ rest.length) (hf : m.length % 64 + n = 64) :
    (m ++ rest.take n).length % 64 = 0 ∧ (m ++ rest.take n).length / 64 = m.length / 64 + 1 ∧
      runS (m ++ rest.take n) (m.length / 64 + 1) = stirS (runS m (m.length / 64)) (spreadS (into blk rest (m.length % 64) n)) := by
  have hl : (m ++ rest.take n).length = m.length + n := by rw [List.length_append, List.length_take]; omega
  refine ⟨by omega, by omega, ?_⟩
  rw [runS, runS_append _ _ _ (by omega)]
  congr 2
  unfold blkAt into
  rw [List.drop_append_of_le_length (by omega), ← hp, hf, List.drop_of_length_le (by omega), List.append_nil]
  exact List.take_of_length_le (by simp only [List.length_append, List.length_take]; omega)
end

def be : Nat → Nat → List UInt8
  | 0, _ => []
  | k + 1, u => UInt8.ofNat (u / 2 ^ (8 * k)) :: be k u

theorem be_len : ∀ k u, (be k u).length = k
  | 0, _ => rfl
  | k + 1, u => by simp [be, be_len k u]

/-- The bytes with the filling: a mark, noughts, and how many bits. -/
def fill (m : List UInt8) : List UInt8 := m ++ [128] ++ List.replicate ((120 - (m.length + 1) % 64) % 64) 0 ++ be 8 (m.length * 8 % 18446744073709551616)
theorem fill_len (m : List UInt8) : (fill m).length % 64 = 0 := by
  simp only [fill, List.length_append, List.length_replicate, be_len, List.length_singleton]
  omega
/-- SHA-256. -/
def shaS (m : List UInt8) : List UInt8 := (runS (fill m) ((fill m).length / 64)).l.flatMap fun x => be 4 x.toNat
theorem shaS_len (m : List UInt8) : (shaS m).length = 32 := by
  simp [shaS, S8.l, be_len]
end Go.Proofs.YtnflkibkionjmaaDoor
