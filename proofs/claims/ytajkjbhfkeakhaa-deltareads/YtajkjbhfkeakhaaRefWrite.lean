/- The contracts of the second say of Int, Byte and Text: appends onto a row. -/
import Derived.Test.YtajkjbhfkeakhaaPlain
namespace Go.Proofs.Ytajkjbhfkeakhaa
open Go.RowKit

theorem le_snoc : ∀ (k u : Nat), le (k + 1) u = le k u ++ [UInt8.ofNat (u / 256 ^ k)]
  | 0, u => by simp [le]
  | k + 1, u => by
    rw [le, le_snoc k (u / 256)]
    conv => rhs; rw [le]
    rw [List.cons_append, Nat.div_div_eq_div_mul, Nat.pow_succ, Nat.mul_comm (256 ^ k) 256]

theorem byte_at (n : Int) (k : Nat) : [Value.int IntKind.u8 (IntKind.u64.wrap n / 2 ^ (8 * k) % 256)] = B [UInt8.ofNat ((n % 18446744073709551616).toNat / 256 ^ k)] := by
  have e0 : IntKind.u64.wrap n = (((n % 18446744073709551616).toNat : Nat) : Int) := by rw [IntKind.wrap_u64]; omega
  have e1 : (2 : Int) ^ (8 * k) = ((256 ^ k : Nat) : Int) := by rw [pow_256]; exact (Int.natCast_pow 2 (8 * k)).symm
  rw [e0, e1]
  simp only [B, List.map_cons, List.map_nil, UInt8.toNat_ofNat']
  generalize (n % 18446744073709551616).toNat = u
  generalize 256 ^ k = q
  rw [← Int.natCast_ediv]
  generalize u / q = z
  have : (z : Int) % 256 = ((z % 2 ^ 8 : Nat) : Int) := by omega
  rw [this]

set_option maxRecDepth 100000 in
set_option maxHeartbeats 400000 in
theorem fByte_any (g cap m : Nat) (l : List UInt8) (n : Int) (w : World) (ho : Owns w 5 g cap m (B l)) (hb : m + 1 ≤ 140737488355328) :
    Calls Try.prog 36 #[.slice (some ⟨g, 0, none⟩) m cap, .int .i64 n] w fun e w' => ∃ g' cap', e = .returned (.slice (some ⟨g', 0, none⟩) (m + 1) cap') ∧ Grew 5 w g cap m (B l) w' g' cap' (m + 1) (B (l ++ le 1 (n % 18446744073709551616).toNat)) := by
  obtain ⟨i0, hi, hz0, hz1, hz2⟩ := info_parts Try.infoByte
  go_enter Try.func36, Try.ntmps36
  go_wp2_with (at_builtin; go_must (refine wpList_append_src _ rfl _ _ 31 31 rfl 5 i0 (.int .u8 0) Try.underlying31 hi hz0 hz1 hz2 rfl g cap m _ rfl (ho.alloc _) _ 1 _ rfl (Src.ofSlice _ Try.underlying31 ⟨w.heap.size, 0, none⟩ 1 1 [_] rfl (cell_one_new _ _ _) (by intro u hu; simp at hu; subst hu; rfl)) hb ?_); intro g2 cap2 w2 hG2)
  go_ret
  have e1 : [Value.int IntKind.u8 (n % 256)] = B (le 1 (n % 18446744073709551616).toNat) := by
    simp only [le, B, List.map_cons, List.map_nil, UInt8.toNat_ofNat']
    congr 2
    omega
  have h := hG2.of_alloc ho.lt
  rw [e1, ← B_append] at h
  exact ⟨g2, cap2, rfl, h⟩

set_option maxRecDepth 100000 in
set_option maxHeartbeats 400000 in
theorem fInt_any (g cap m : Nat) (l : List UInt8) (n : Int) (w : World) (ho : Owns w 5 g cap m (B l)) (hb : m + 8 ≤ 140737488355328) :
    Calls Try.prog 34 #[.slice (some ⟨g, 0, none⟩) m cap, .int .i64 n] w fun e w' => ∃ g' cap', e = .returned (.slice (some ⟨g', 0, none⟩) (m + 8) cap') ∧ Grew 5 w g cap m (B l) w' g' cap' (m + 8) (B (l ++ le 8 (n % 18446744073709551616).toNat)) := by
  obtain ⟨i0, hi, hz0, hz1, hz2⟩ := info_parts Try.infoByte
  go_enter Try.func34, Try.ntmps34
  go_wp2_with fail
  go_loopw [0, 5] (fun v i wr => ∃ (k g1 cap1 : Nat), k ≤ 8 ∧ i = .int .i64 k ∧ v = .slice (some ⟨g1, 0, none⟩) (m + k) cap1 ∧ Grew 5 w g cap m (B l) wr g1 cap1 (m + k) (B (l ++ le k (n % 18446744073709551616).toNat))) (fun _ i _ => 8 - (intOf i).toNat)
  case atStart => exact ⟨0, g, cap, Nat.zero_le _, rfl, rfl, by simpa [le] using Grew.refl ho⟩
  case round =>
    obtain ⟨k, g1, cap1, hk, rfl, rfl, hG⟩ := hrel
    have HG := hid hG
    have hO := hG.own
    clear hG
    by_cases hlt : k < 8
    · have hlt' : (k : Int) < 8 := by omega
      go_wp2_with (at_builtin; go_must (refine wpList_append_src _ rfl _ _ 31 31 rfl 5 i0 (.int .u8 0) Try.underlying31 hi hz0 hz1 hz2 rfl g1 cap1 (m + k) _ rfl (hO.alloc _) _ 1 _ rfl (Src.ofSlice _ Try.underlying31 ⟨wr.heap.size, 0, none⟩ 1 1 [_] rfl (cell_one_new _ _ _) (by intro u hu; simp at hu; subst hu; rfl)) (by omega) ?_); intro g2 cap2 w2 hG2)
      go_roundw
      case rel =>
        have h := HG.out.trans (hG2.of_alloc hO.lt)
        rw [byte_at, ← B_append, List.append_assoc, ← le_snoc] at h
        exact ⟨k + 1, g2, cap2, by omega, by go_num, rfl, h⟩
      case measure => simp [intOf]; omega
    · have hk8 : k = 8 := by omega
      subst hk8
      clear hlt hk
      go_wp2_with fail
      go_ret
      exact ⟨g1, cap1, rfl, HG.out⟩

set_option maxRecDepth 100000 in
set_option maxHeartbeats 400000 in
theorem fText_short (g cap m : Nat) (l : List UInt8) (s : ByteArray) (w : World) (ho : Owns w 5 g cap m (B l)) (hs : s.size ≤ 65535) (hb : m + s.size + 2 ≤ 140737488355328) :
    Calls Try.prog 35 #[.slice (some ⟨g, 0, none⟩) m cap, .string s] w fun e w' => ∃ g' cap', e = .returned (.slice (some ⟨g', 0, none⟩) (m + 2 + s.size) cap') ∧ Grew 5 w g cap m (B l) w' g' cap' (m + 2 + s.size) (B (l ++ le 2 s.size ++ s.data.toList)) := by
  obtain ⟨i0, hi, hz0, hz1, hz2⟩ := info_parts Try.infoByte
  have hs' : (s.size : Int) ≤ 65535 := by omega
  have e2 : [Value.int IntKind.u8 ((s.size : Int) % 256), Value.int IntKind.u8 ((s.size : Int) / 256)] = B (le 2 s.size) := by
    have e1 : ((s.size : Int) % 256) = ((UInt8.ofNat s.size).toNat : Int) := by rw [UInt8.toNat_ofNat']; omega
    have e2 : ((s.size : Int) / 256) = ((UInt8.ofNat (s.size / 256)).toNat : Int) := by rw [UInt8.toNat_ofNat']; omega
    rw [e1, e2]
    rfl
  have HE := hid e2
  clear e2
  go_enter Try.func35, Try.ntmps35
  go_wp2_with (first
    | (at_builtin; refine wpList_append_src _ rfl (.tmp 10) (.tmp 18) 31 31 rfl 5 i0 (.int .u8 0) Try.underlying31 hi hz0 hz1 hz2 rfl g cap m _ rfl (ho.alloc _) _ 2 _ rfl (Src.ofSlice _ Try.underlying31 ⟨w.heap.size, 0, none⟩ 2 2 [_, _] rfl (fun j u hj => by rw [Addr.add_lit, Nat.zero_add]; exact (Owns.two w 5 _ _).cell hj) (by intro u hu; simp at hu; rcases hu with rfl | rfl <;> rfl)) (by omega) ?_; intro g2 cap2 w2 hG2)
    | (at_builtin; refine wpList_append_src _ rfl (.tmp 19) (.tmp 20) 31 9 rfl 5 i0 (.int .u8 0) Try.underlying31 hi hz0 hz1 hz2 rfl g2 cap2 (m + 2) _ rfl hG2.own _ _ _ rfl (Src.ofString _ Try.underlying9 s) (by omega) ?_; intro g3 cap3 w3 hG3))
  go_ret
  have h := (hG2.of_alloc ho.lt).trans hG3
  rw [HE.out, byteCells_B, ← B_append, ← B_append] at h
  exact ⟨g3, cap3, rfl, h⟩
end Go.Proofs.Ytajkjbhfkeakhaa
