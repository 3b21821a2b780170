/- The contract of split: so many bytes of a number behind a row. -/
import Derived.Test.YtifdoneffnfogabByteI
import Derived.Test.YtifdoneffnfogabRows
import Derived.Test.YtifdoneffnfogabBase
import Derived.Test.YtifdoneffnfogabJump
import Derived.WalkLawsBesides
namespace Go.Proofs.Ytifdoneffnfogab
open Go.RowKit

def le : Nat → Nat → List UInt8
  | 0, _ => []
  | k + 1, u => UInt8.ofNat u :: le k (u / 256)


theorem Grew.of_alloc {e : TypeId} {w w' : World} {g cap n g' cap' n' : Nat} {xs xs' : List Value} {o : Obj} (h : Grew e (w.alloc o) g cap n xs w' g' cap' n' xs') (hl : g < w.heap.size) : Grew e w g cap n xs w' g' cap' n' xs' := by
  have hs := h.grown.size
  have h1 : (w.alloc o).heap.size = w.heap.size + 1 := by simp
  refine ⟨h.own, h.old, ⟨h.grown.os, h.grown.tape, h.grown.output, by omega, fun k hk hne => ?_⟩, ?_, hl, h.pre⟩
  · rw [h.grown.block k (by omega) hne]; exact Below.heap_alloc w o k hk
  · rcases h.blk with hb | hb
    · exact .inl hb
    · exact .inr (by omega)


set_option maxRecDepth 100000 in
set_option maxHeartbeats 400000 in
theorem split_nat (g cap n : Nat) (xs : List Value) (u k : Nat) (hu : u < 18446744073709551616) (hk : k ≤ 8) (hb : n + k ≤ 140737488355328) (w : World) (hown : Owns w 5 g cap n xs) :
    Calls Try.prog 36 #[.slice (some ⟨g, 0, none⟩) n cap, .int .u64 u, .int .i64 k] w fun e w' => ∃ g' cap', e = .returned (.slice (some ⟨g', 0, none⟩) (n + k) cap') ∧ Grew 5 w g cap n xs w' g' cap' (n + k) (xs ++ B (le k u)) := by
  obtain ⟨i0, hi, hz0, hz1, hz2⟩ := info_parts Try.infoByte
  go_enter Try.func36, Try.ntmps36
  go_wp2
  refine wp_scope_both 0 (fun a' w' => ∃ (g1 cap1 n1 : Nat) (xs1 : List Value) (u1 k1 : Nat) (t7 t8 t9 t10 t11 t12 t13 t14 t15 t16 t17 t18 : Value),
      a' = { tmps := #[.slice (some ⟨g1, 0, none⟩) n1 cap1, .int .u64 u1, .int .i64 k1, undef, undef, undef, .slice none 0 0, t7, t8, t9, t10, t11, t12, t13, t14, t15, t16, t17, t18], defers := [] } ∧
      Grew 5 w g cap n xs w' g1 cap1 n1 xs1 ∧ n1 + k1 = n + k ∧ xs1 ++ B (le k1 u1) = xs ++ B (le k u) ∧ u1 < 18446744073709551616 ∧ k1 ≤ 8)
    (fun a' _ => (intOf (a'.tmps.getD 2 undef)).toNat) rfl ⟨g, cap, n, xs, u, k, _, _, _, _, _, _, _, _, _, _, _, _, rfl, Grew.refl hown, rfl, rfl, hu, hk⟩ ?_
  rintro x hx a' w' ⟨g1, cap1, n1, xs1, u1, k1, t7, t8, t9, t10, t11, t12, t13, t14, t15, t16, t17, t18, rfl, hG, hn, hx1, hu1, hk1⟩
  have HN : Hid (n1 + k1 = n + k) := hn
  have HX : Hid (xs1 ++ B (le k1 u1) = xs ++ B (le k u)) := hx1
  have hb1 : n1 + k1 ≤ 140737488355328 := by omega
  clear hn hx1 hu hk hb
  cases k1 with
  | zero =>
    have hn := HN.out
    have hx2 := HX.out
    simp only [le, B, List.map_nil, List.append_nil, Nat.add_zero] at hn hx2
    have HG : Hid (Grew 5 w g cap n xs w' g1 cap1 (n + k) (xs ++ B (le k u))) := by rw [← hn]; exact hx2 ▸ hG
    have HE : Hid (n1 = n + k) := hn
    clear hn hx2
    rcases hx with rfl | rfl <;> go_wp2 <;> try (go_step3; go_wp2)
    all_goals
      simp only [Exit.jump]
      go_ret
      exact ⟨g1, cap1, by rw [← HE.out]; rfl, HG.out⟩
  | succ k1 =>
    have HL : Hid (∀ w2 g2 cap2, Grew 5 (w'.alloc (Obj.cells #[Value.int IntKind.u8 ((u1 : Int) % 256)] 5)) g1 cap1 n1 xs1 w2 g2 cap2 (n1 + 1) (xs1 ++ [Value.int IntKind.u8 ((u1 : Int) % 256)]) →
        Grew 5 w g cap n xs w2 g2 cap2 (n1 + 1) (xs1 ++ [Value.int IntKind.u8 ((u1 : Int) % 256)])) := fun w2 g2 cap2 h => hG.trans (h.of_alloc hG.own.lt)
    have HY : Hid ((xs1 ++ [Value.int IntKind.u8 ((u1 : Int) % 256)]) ++ B (le k1 (u1 / 256)) = xs ++ B (le k u)) := by
      have := HX.out
      simp only [le, B, List.map_cons] at this
      rw [← byte_of] at this
      show (xs1 ++ [Value.int IntKind.u8 ((u1 : Int) % 256)]) ++ B (le k1 (u1 / 256)) = xs ++ B (le k u)
      simpa [B] using this
    clear HX
    rcases hx with rfl | rfl
    · go_wp2_with fail
      go_step3
      go_wp2_with (at_builtin; go_must (refine wpList_append_src _ rfl _ _ 31 31 rfl 5 i0 (.int .u8 0) Try.underlying31 hi hz0 hz1 hz2 rfl g1 cap1 n1 xs1 rfl (hG.own.alloc _) _ 1 _ rfl (Src.ofSlice _ Try.underlying31 ⟨w'.heap.size, 0, none⟩ 1 1 [_] rfl (cell_one_new _ _ _) (by intro u hu; simp at hu; subst hu; rfl)) (by omega) ?_); intro g2 cap2 w2 hG2)
      go_step3
      exact ⟨rfl, ⟨g2, cap2, n1 + 1, _, u1 / 256, k1, _, _, _, _, _, _, _, _, _, _, _, _, rfl, HL.out _ _ _ hG2, by have := HN.out; omega, HY.out, by omega, by omega⟩, by simp [intOf]⟩
    · go_wp2_with (at_builtin; go_must (refine wpList_append_src _ rfl _ _ 31 31 rfl 5 i0 (.int .u8 0) Try.underlying31 hi hz0 hz1 hz2 rfl g1 cap1 n1 xs1 rfl (hG.own.alloc _) _ 1 _ rfl (Src.ofSlice _ Try.underlying31 ⟨w'.heap.size, 0, none⟩ 1 1 [_] rfl (cell_one_new _ _ _) (by intro u hu; simp at hu; subst hu; rfl)) (by omega) ?_); intro g2 cap2 w2 hG2)
      go_step3
      exact ⟨rfl, ⟨g2, cap2, n1 + 1, _, u1 / 256, k1, _, _, _, _, _, _, _, _, _, _, _, _, rfl, HL.out _ _ _ hG2, by have := HN.out; omega, HY.out, by omega, by omega⟩, by simp [intOf]⟩

theorem split_any (g cap n : Nat) (xs : List Value) (u k : Int) (hu0 : 0 ≤ u) (hu : u < 18446744073709551616) (hk0 : 0 ≤ k) (hk : k ≤ 8) (hb : n + k ≤ 140737488355328) (w : World) (hown : Owns w 5 g cap n xs) :
    Calls Try.prog 36 #[.slice (some ⟨g, 0, none⟩) n cap, .int .u64 u, .int .i64 k] w fun e w' => ∃ g' cap', e = .returned (.slice (some ⟨g', 0, none⟩) (n + k.toNat) cap') ∧ Grew 5 w g cap n xs w' g' cap' (n + k.toNat) (xs ++ B (le k.toNat u.toNat)) := by
  obtain ⟨u, rfl⟩ := Int.eq_ofNat_of_zero_le hu0
  obtain ⟨k, rfl⟩ := Int.eq_ofNat_of_zero_le hk0
  exact split_nat g cap n xs u k (by omega) (by omega) (by omega) w hown
end Go.Proofs.Ytifdoneffnfogab
