/- The contract of bigEndian: so many bytes of a number behind a slice, the highest first. -/
import Derived.Test.YtnflkibkionjmaaDoorRot
import Derived.Test.YtnflkibkionjmaaDoorHas
import Derived.Test.YtnflkibkionjmaaDoorSpec3
namespace Go.Proofs.YtnflkibkionjmaaDoor
open Go.RowKit
set_option linter.unusedSimpArgs false
set_option linter.unusedVariables false

theorem Tryd.infoByte : (Tryd.prog.info? 5).map (fun i => (i.zero, i.size, i.bytes)) = some (some (.int .u8 0), 1, 1) := by kernel_rfl

theorem byte_of (u : Nat) : Value.int .u8 ((u : Int) % 256) = Value.int .u8 ((UInt8.ofNat u).toNat : Nat) := by
  simp [UInt8.toNat_ofNat']

set_option maxRecDepth 100000 in
set_option maxHeartbeats 400000 in
theorem be_any (Bd : Nat) (v : Value) (n : Nat) (xs : List Value) (u k : Nat) (hu : u < 18446744073709551616) (hk : k ≤ 8) (hb : n + k ≤ 1000) (w : World) (hown : Has w 5 Bd v n xs) (hBd : Bd ≤ w.heap.size) :
    Calls Tryd.prog 21 #[v, .int .u64 u, .int .i64 k] w fun e w' => ∃ v', e = .returned v' ∧ Has w' 5 Bd v' (n + k) (xs ++ B (be k u)) ∧ Below Bd w w' := by
  obtain ⟨i0, hi, hz0, hz1, hz2⟩ := info_parts Tryd.infoByte
  go_enter Tryd.func21, Tryd.ntmps21
  go_wp2
  refine wp_scope_both 0 (fun a' w' => ∃ (v1 : Value) (n1 : Nat) (xs1 : List Value) (k1 : Nat) (t7 t8 t9 t10 t11 t12 t13 t14 t15 t16 t17 t18 t19 : Value),
      a' = { tmps := #[v1, .int .u64 u, .int .i64 k1, undef, undef, undef, .slice none 0 0, t7, t8, t9, t10, t11, t12, t13, t14, t15, t16, t17, t18, t19], defers := [] } ∧
      Has w' 5 Bd v1 n1 xs1 ∧ Below Bd w w' ∧ n1 + k1 = n + k ∧ xs1 ++ B (be k1 u) = xs ++ B (be k u) ∧ k1 ≤ 8)
    (fun a' _ => (intOf (a'.tmps.getD 2 undef)).toNat) rfl ⟨v, n, xs, k, _, _, _, _, _, _, _, _, _, _, _, _, _, rfl, hown, Below.refl _ _, rfl, rfl, hk⟩ ?_
  rintro x hx a' w' ⟨v1, n1, xs1, k1, t7, t8, t9, t10, t11, t12, t13, t14, t15, t16, t17, t18, t19, rfl, hG, hB, hn, hx1, hk1⟩
  have HN := hid hn
  have HX := hid hx1
  have hb1 : n1 + k1 ≤ 1000 := by omega
  have hBd' : Bd ≤ w'.heap.size := Nat.le_trans hBd hB.size
  have HG := hid hG
  have HB := hid hB
  clear hn hx1 hk hb hown hG hB hBd
  cases k1 with
  | zero =>
    have hn := HN.out
    have hx2 := HX.out
    simp only [be, B, List.map_nil, List.append_nil, Nat.add_zero] at hn hx2
    have HG2 : Hid (Has w' 5 Bd v1 (n + k) (xs ++ B (be k u))) := by rw [← hn]; exact hx2 ▸ HG.out
    clear hn hx2
    rcases hx with rfl | rfl <;> go_wp2 <;> try (go_step3; go_wp2)
    all_goals
      simp only [Exit.jump]
      go_ret
      exact ⟨v1, rfl, HG2.out, HB.out⟩
  | succ k1 =>
    have HY : Hid ((xs1 ++ [Value.int IntKind.u8 ((u : Int) / 2 ^ (8 * k1) % 256)]) ++ B (be k1 u) = xs ++ B (be k u)) := by
      have := HX.out
      simp only [be, B, List.map_cons] at this
      rw [← byte_of] at this
      show (xs1 ++ [Value.int IntKind.u8 ((u : Int) / 2 ^ (8 * k1) % 256)]) ++ B (be k1 u) = xs ++ B (be k u)
      simpa [B] using this
    clear HX
    rcases hx with rfl | rfl
    · go_wp2_with fail
      go_step3
      go_wp2_with (at_builtin; go_must (refine wpList_append_has _ rfl _ _ 22 22 rfl 5 i0 (.int .u8 0) Tryd.underlying22 hi hz0 hz1 hz2 rfl Bd v1 n1 xs1 rfl (HG.out.alloc _) (by simp; omega) _ 1 _ rfl (Src.ofSlice _ Tryd.underlying22 ⟨w'.heap.size, 0, none⟩ 1 1 [_] rfl (cell_one_new _ _ _) (by intro u hu; simp at hu; subst hu; rfl)) (by omega) (by omega) ?_); intro v2 w2 hG2 hB2)
      go_step3
      exact ⟨rfl, ⟨v2, n1 + 1, _, k1, _, _, _, _, _, _, _, _, _, _, _, _, _, rfl, hG2, (HB.out.alloc hBd' _).trans hB2, by have := HN.out; omega, HY.out, by omega⟩, by simp [intOf]⟩
    · go_wp2_with (at_builtin; go_must (refine wpList_append_has _ rfl _ _ 22 22 rfl 5 i0 (.int .u8 0) Tryd.underlying22 hi hz0 hz1 hz2 rfl Bd v1 n1 xs1 rfl (HG.out.alloc _) (by simp; omega) _ 1 _ rfl (Src.ofSlice _ Tryd.underlying22 ⟨w'.heap.size, 0, none⟩ 1 1 [_] rfl (cell_one_new _ _ _) (by intro u hu; simp at hu; subst hu; rfl)) (by omega) (by omega) ?_); intro v2 w2 hG2 hB2)
      go_step3
      exact ⟨rfl, ⟨v2, n1 + 1, _, k1, _, _, _, _, _, _, _, _, _, _, _, _, _, rfl, hG2, (HB.out.alloc hBd' _).trans hB2, by have := HN.out; omega, HY.out, by omega⟩, by simp [intOf]⟩
end Go.Proofs.YtnflkibkionjmaaDoor
