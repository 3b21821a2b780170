/- The contracts of the second say of Int, Byte and Text: appends onto a row. -/
import Derived.Test.YtifdoneffnfogaaPlain0
namespace Go.Proofs.Ytifdoneffnfogaa
open Go.RowKit

theorem le_snoc : ∀ (k u : Nat), le (k + 1) u = le k u ++ [UInt8.ofNat (u / 256 ^ k)]
  | 0, u => by simp [le]
  | k + 1, u => by
    rw [le, le_snoc k (u / 256)]
    conv => rhs; rw [le]
    rw [List.cons_append, Nat.div_div_eq_div_mul, Nat.pow_succ, Nat.mul_comm (256 ^ k) 256]

theorem byte_at (n : Int) (k : Nat) : [Value.int IntKind.u8 (IntKind.u64.wrap n / 2 ^ (8 * k) % 256)] = B [UInt8.ofNat ((n % 18446744073709551616).toNat / 256 ^ k)] := by
  have e0 : IntKind.u64.wrap n = (((n % 18446744073709551616).toNat : Nat) : Int) := by rw [IntKind.wrap_u64]; omega
  have e1 : (2 : Int) ^ (8 * k) = ((256 ^ k : Nat) : Int) := by rw [pow_256]; exact (Int.natCast_pow 2 (8 * k)).symm
  rw [e0, e1]
  simp only [B, List.map_cons, List.map_nil, UInt8.toNat_ofNat']
  generalize (n % 18446744073709551616).toNat = u
  generalize 256 ^ k = q
  rw [← Int.natCast_ediv]
  generalize u / q = z
  have : (z : Int) % 256 = ((z % 2 ^ 8 : Nat) : Int) := by omega
  rw [this]

set_option maxRecDepth 100000 in
set_option maxHeartbeats 400000 in
theorem fInt_any (g cap m : Nat) (l : List UInt8) (n : Int) (w : World) (ho : Owns w 5 g cap m (B l)) (hb : m + 8 ≤ 140737488355328) :
    Calls Try.prog 38 #[.slice (some ⟨g, 0, none⟩) m cap, .int .i64 n] w fun e w' => ∃ g' cap', e = .returned (.slice (some ⟨g', 0, none⟩) (m + 8) cap') ∧ Grew 5 w g cap m (B l) w' g' cap' (m + 8) (B (l ++ le 8 (n % 18446744073709551616).toNat)) := by
  obtain ⟨i0, hi, hz0, hz1, hz2⟩ := info_parts Try.infoByte
  go_enter Try.func38, Try.ntmps38
  go_wp2_with fail
  go_loopw [0, 5] (fun v i wr => ∃ (k g1 cap1 : Nat), k ≤ 8 ∧ i = .int .i64 k ∧ v = .slice (some ⟨g1, 0, none⟩) (m + k) cap1 ∧ Grew 5 w g cap m (B l) wr g1 cap1 (m + k) (B (l ++ le k (n % 18446744073709551616).toNat))) (fun _ i _ => 8 - (intOf i).toNat)
  case atStart => exact ⟨0, g, cap, Nat.zero_le _, rfl, rfl, by simpa [le] using Grew.refl ho⟩
  case round =>
    obtain ⟨k, g1, cap1, hk, rfl, rfl, hG⟩ := hrel
    have HG := hid hG
    have hO := hG.own
    clear hG
    by_cases hlt : k < 8
    · have hlt' : (k : Int) < 8 := by omega
      go_wp2_with (at_builtin; go_must (refine wpList_append_src _ rfl _ _ 37 37 rfl 5 i0 (.int .u8 0) Try.underlying37 hi hz0 hz1 hz2 rfl g1 cap1 (m + k) _ rfl (hO.alloc _) _ 1 _ rfl (Src.ofSlice _ Try.underlying37 ⟨wr.heap.size, 0, none⟩ 1 1 [_] rfl (cell_one_new _ _ _) (by intro u hu; simp at hu; subst hu; rfl)) (by omega) ?_); intro g2 cap2 w2 hG2)
      go_roundw
      case rel =>
        have h := HG.out.trans (hG2.of_alloc hO.lt)
        rw [byte_at, ← B_append, List.append_assoc, ← le_snoc] at h
        exact ⟨k + 1, g2, cap2, by omega, by go_num, rfl, h⟩
      case measure => simp [intOf]; omega
    · have hk8 : k = 8 := by omega
      subst hk8
      clear hlt hk
      go_wp2_with fail
      go_ret
      exact ⟨g1, cap1, rfl, HG.out⟩

end Go.Proofs.Ytifdoneffnfogaa
