/- The law DiskSizes: as many bytes as were said find room, one more does not. -/
import Derived.Test.YtekcoeckgolhcaaKAt
import Derived.Test.YtekcoeckgolhcaaArg
import Derived.BigQuiet
namespace Go.Proofs.Ytekcoeckgolhcaa
open Go.RowKit
set_option linter.unusedSimpArgs false
set_option linter.unusedVariables false

theorem new_app (n : Int) (k : Nat) (hk : (Dk.new n).size = k) (l : List UInt8) (hl : l.length ≤ k) : (Dk.new n).app l = (0, ⟨l, 0, k, 0, false⟩) := by
  subst hk
  rw [Dk.app, if_neg (by simp [Dk.new]), if_neg (by show ¬ (Dk.new n).size - 0 < l.length; omega), if_neg (by simp [Dk.new])]
  rfl
theorem full_app (k : Nat) : (⟨List.replicate k 0, 0, k, 0, false⟩ : Dk).app [1] = (19, ⟨List.replicate k 0, 0, k, 0, false⟩) := by
  rw [Dk.app, if_neg (by simp), if_pos (by simp)]

set_option maxRecDepth 100000 in
set_option maxHeartbeats 2000000 in
theorem dsizes_any (n : Int) (w : World) : Calls Try.prog 7 #[.int .i64 n] w fun e w' => e = .returned (.bool true) ∧ Below w.heap.size w w' := by
  obtain ⟨i0, hi, hz0, hz1, hz2⟩ := info_parts Try.infoByte
  obtain ⟨L, hL⟩ : ∃ L, w.heap.size = L := ⟨_, rfl⟩
  have HL := hid hL
  rw [hL]
  clear hL
  by_cases h0 : n < 0
  · have hk : (Dk.new n).size = 0 := by show (max 0 (min n 65536)).toNat = _; omega
    have HNEW := hid hk
    clear hk
    go_enter Try.func7, Try.ntmps7
    go_wp2_with fail
    refine (known10_any _).mono ?_
    rintro _ w1 ⟨rfl, hb1⟩
    have Hb1 := hid (show Below L w w1 by rw [← HL.out]; exact hb1)
    have HL1 := hid (show L ≤ w1.heap.size by rw [← HL.out]; exact hb1.size)
    clear hb1
    go_wp2_with fail
    refine (kNew_at n Hb1.out HL1.out).mono ?_
    rintro _ w2 ⟨d, r, rfl, hK, hdd, hrr, hnd⟩
    have HK := hid hK
    clear hK
    go_wp2_with (at_make; go_must (refine wpList_make_blk rfl _ _ 31 rfl 5 i0 Try.underlying31 hi hz0 hz1 hz2 .i64 .i64 0 rfl rfl (by omega) w2.heap.size rfl ?_); go_must (intro w3 hB3 hb3 hs3; have HK3 := hid (HK.out.later hb3); have HR3 := hid (hB3.ownsB (List.length_replicate ..) (by unfold maxLen; omega)).reads; clear hB3 hb3 hs3))
    refine (kAppend_at HK3.out _ (List.replicate 0 0) HR3.out (by rw [List.length_replicate]; omega) 0 ⟨List.replicate 0 0, 0, 0, 0, false⟩ (new_app _ _ HNEW.out _ (by rw [List.length_replicate]; exact Nat.le_refl _))).mono ?_
    rintro _ w4 ⟨rfl, hK, _⟩
    have HK4 := hid (hK.alloc (.cells (B [1]).toArray 5))
    have HR4 := hid (reads_newB w4 5 [1] 1 rfl)
    clear hK HK3 HR3 HK
    go_wp2_with fail
    refine (kAppend_at HK4.out _ [1] HR4.out (by simp) 19 ⟨List.replicate 0 0, 0, 0, 0, false⟩ (full_app 0)).mono ?_
    rintro _ w5 ⟨rfl, hK, _⟩
    have HK5 := hid hK
    clear hK HK4 HR4
    go_wp2_with fail
    refine (kRead_at HK5.out (List.replicate 0 0) 0 0 rfl (List.length_replicate ..)).mono ?_
    rintro _ w6 ⟨xo, xc, rfl, hH, hK, hb⟩
    have HK6 := hid hK
    clear hK hH hb HK5
    go_wp2_with fail
    go_ret
    exact ⟨rfl, HK6.out.bel⟩
  by_cases h1 : 65536 < n
  · have hk : (Dk.new n).size = 65536 := by show (max 0 (min n 65536)).toNat = _; omega
    have HNEW := hid hk
    clear hk
    go_enter Try.func7, Try.ntmps7
    go_wp2_with fail
    refine (known10_any _).mono ?_
    rintro _ w1 ⟨rfl, hb1⟩
    have Hb1 := hid (show Below L w w1 by rw [← HL.out]; exact hb1)
    have HL1 := hid (show L ≤ w1.heap.size by rw [← HL.out]; exact hb1.size)
    clear hb1
    go_wp2_with fail
    refine (kNew_at n Hb1.out HL1.out).mono ?_
    rintro _ w2 ⟨d, r, rfl, hK, hdd, hrr, hnd⟩
    have HK := hid hK
    clear hK
    go_wp2_with (at_make; go_must (refine wpList_make_blk rfl _ _ 31 rfl 5 i0 Try.underlying31 hi hz0 hz1 hz2 .i64 .i64 65536 rfl rfl (by omega) w2.heap.size rfl ?_); go_must (intro w3 hB3 hb3 hs3; have HK3 := hid (HK.out.later hb3); have HR3 := hid (hB3.ownsB (List.length_replicate ..) (by unfold maxLen; omega)).reads; clear hB3 hb3 hs3))
    refine (kAppend_at HK3.out _ (List.replicate 65536 0) HR3.out (by rw [List.length_replicate]; omega) 0 ⟨List.replicate 65536 0, 0, 65536, 0, false⟩ (new_app _ _ HNEW.out _ (by rw [List.length_replicate]; exact Nat.le_refl _))).mono ?_
    rintro _ w4 ⟨rfl, hK, _⟩
    have HK4 := hid (hK.alloc (.cells (B [1]).toArray 5))
    have HR4 := hid (reads_newB w4 5 [1] 1 rfl)
    clear hK HK3 HR3 HK
    go_wp2_with fail
    refine (kAppend_at HK4.out _ [1] HR4.out (by simp) 19 ⟨List.replicate 65536 0, 0, 65536, 0, false⟩ (full_app 65536)).mono ?_
    rintro _ w5 ⟨rfl, hK, _⟩
    have HK5 := hid hK
    clear hK HK4 HR4
    go_wp2_with fail
    refine (kRead_at HK5.out (List.replicate 65536 0) 0 65536 rfl (List.length_replicate ..)).mono ?_
    rintro _ w6 ⟨xo, xc, rfl, hH, hK, hb⟩
    have HK6 := hid hK
    clear hK hH hb HK5
    go_wp2_with fail
    go_ret
    exact ⟨rfl, HK6.out.bel⟩
  obtain ⟨k, rfl⟩ : ∃ k : Nat, n = (k : Int) := ⟨n.toNat, by omega⟩
  have hk : (Dk.new (k : Int)).size = k := by show (max 0 (min (k : Int) 65536)).toNat = _; omega
  have HNEW := hid hk
  clear hk
  go_enter Try.func7, Try.ntmps7
  go_wp2_with fail
  refine (known10_any _).mono ?_
  rintro _ w1 ⟨rfl, hb1⟩
  have Hb1 := hid (show Below L w w1 by rw [← HL.out]; exact hb1)
  have HL1 := hid (show L ≤ w1.heap.size by rw [← HL.out]; exact hb1.size)
  clear hb1
  go_wp2_with fail
  refine (kNew_at (k : Int) Hb1.out HL1.out).mono ?_
  rintro _ w2 ⟨d, r, rfl, hK, hdd, hrr, hnd⟩
  have HK := hid hK
  clear hK
  go_wp2_with (at_make; go_must (refine wpList_make_blk rfl _ _ 31 rfl 5 i0 Try.underlying31 hi hz0 hz1 hz2 .i64 .i64 k rfl rfl (by omega) w2.heap.size rfl ?_); go_must (intro w3 hB3 hb3 hs3; have HK3 := hid (HK.out.later hb3); have HR3 := hid (hB3.ownsB (List.length_replicate ..) (by unfold maxLen; omega)).reads; clear hB3 hb3 hs3))
  refine (kAppend_at HK3.out _ (List.replicate k 0) HR3.out (by rw [List.length_replicate]; omega) 0 ⟨List.replicate k 0, 0, k, 0, false⟩ (new_app _ _ HNEW.out _ (by rw [List.length_replicate]; exact Nat.le_refl _))).mono ?_
  rintro _ w4 ⟨rfl, hK, _⟩
  have HK4 := hid (hK.alloc (.cells (B [1]).toArray 5))
  have HR4 := hid (reads_newB w4 5 [1] 1 rfl)
  clear hK HK3 HR3 HK
  go_wp2_with fail
  refine (kAppend_at HK4.out _ [1] HR4.out (by simp) 19 ⟨List.replicate k 0, 0, k, 0, false⟩ (full_app k)).mono ?_
  rintro _ w5 ⟨rfl, hK, _⟩
  have HK5 := hid hK
  clear hK HK4 HR4
  go_wp2_with fail
  refine (kRead_at HK5.out (List.replicate k 0) 0 k rfl (List.length_replicate ..)).mono ?_
  rintro _ w6 ⟨xo, xc, rfl, hH, hK, hb⟩
  have HK6 := hid hK
  clear hK hH hb HK5
  go_wp2_with fail
  go_ret
  exact ⟨rfl, HK6.out.bel⟩
theorem dsizes_row (W : World) (a : Int) (wa : (Lit.int .i64 a).wf = true) (_u : World) : Calls Try.prog 7 #[.int .i64 a] W fun e w' => e = .returned (.bool true) ∧ Below W.heap.size W w' := dsizes_any a W
end Go.Proofs.Ytekcoeckgolhcaa
