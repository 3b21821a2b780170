/- The law ComposeNone: what keeps all, ahead or behind, changes nothing but the form; of none it is what keeps all. -/
import Derived.Test.YtcghcocacbglbaaObR
import Derived.Test.YtcghcocacbglbaaCAll
namespace Go.Proofs.Ytcghcocacbglbaa
open Go.RowKit
set_option linter.unusedSimpArgs false
set_option linter.unusedVariables false

set_option maxRecDepth 100000 in
set_option maxHeartbeats 4000000 in
theorem none_any (n : Int) (aa : Option Addr) (la ca : Nat) (q : Int) (w : World) (hna : NS w aa la) (hca : la ≤ ca) (hla : la ≤ 9223372036854775807) :
    Calls Try.prog 6 #[.int .i64 n, .slice aa la ca, .int .i64 q] w fun e w' => e = .returned (.bool true) ∧ Below w.heap.size w w' := by
  have HNa := hid hna
  clear hna
  go_enter Try.func6, Try.ntmps6
  go_wp2_with fail
  refine (known5_any _).mono ?_
  rintro _ w1 ⟨rfl, hb⟩
  have Hb1 := hid hb
  clear hb
  go_upto_region 3 with fail
  go_cut [0] (fun s0 w' => ∃ k : Nat, s0 = .int .i64 (k : Int) ∧ k ≤ 89 ∧ w' = w1)
  case first =>
    go_wp2_with fail
    all_goals
      go_meet
      first
      | exact ⟨0, rfl, by omega, rfl⟩
      | exact ⟨89, rfl, by omega, rfl⟩
      | exact ⟨(n.tmod 90).toNat, by rw [Int.toNat_of_nonneg (by omega)], by omega, rfl⟩
  case rest =>
  obtain ⟨k, rfl, hk, rfl⟩ := hcut
  go_wp2_with fail
  refine (make_ob k (by omega) _ _ _ (HNa.out.later Hb1.out) hca hla).mono ?_
  rintro _ w2 ⟨vx, rfl, ox, ux, ho, hux, hb⟩
  have Hb2 := hid (below_seq Hb1.out hb)
  obtain ⟨adx, cpx, rfl⟩ := ho.rc.form
  have HOx2 := hid ho
  clear hb Hb1 ho
  go_wp2_with fail
  refine (all_none _ k (by omega)).mono ?_
  rintro _ w3 ⟨vi, rfl, ho, hb⟩
  have Hb3 := hid (below_seq Hb2.out hb)
  have HOx3 := hid (HOx2.out.later hb)
  obtain ⟨adi, cpi, rfl⟩ := ho.rc.form
  have HOi3 := hid ho
  clear hb Hb2 HOx2 ho
  go_wp2_with fail
  refine (rout_ob HOx3.out).mono ?_
  rintro _ wx ⟨rfl, rfl⟩
  go_wp2_with fail
  refine (all_none _ ux (by omega)).mono ?_
  rintro _ w4 ⟨vj, rfl, ho, hb⟩
  have Hb4 := hid (below_seq Hb3.out hb)
  have HOx4 := hid (HOx3.out.later hb)
  have HOi4 := hid (HOi3.out.later hb)
  have HOj4 := hid ho
  clear hb Hb3 HOx3 HOi3 ho
  go_wp2_with fail
  refine (two_ob HOi4.out HOx4.out).mono ?_
  rintro _ w5 ⟨vp, rfl, ho, hb⟩
  have Hb5 := hid (below_seq Hb4.out hb)
  have HOx5 := hid (HOx4.out.later hb)
  have HOi5 := hid (HOi4.out.later hb)
  have HOj5 := hid (HOj4.out.later hb)
  have HOp5 := hid ho
  clear hb Hb4 HOx4 HOi4 HOj4 ho
  go_wp2_with fail
  refine (two_ob HOx5.out HOj5.out).mono ?_
  rintro _ w6 ⟨vq, rfl, ho, hb⟩
  have Hb6 := hid (below_seq Hb5.out hb)
  have HOx6 := hid (HOx5.out.later hb)
  have HOi6 := hid (HOi5.out.later hb)
  have HOj6 := hid (HOj5.out.later hb)
  have HOp6 := hid (HOp5.out.later hb)
  have HOq6 := hid ho
  clear hb ho
  have HE1 := hid (id_two HOx6.out.good HOx6.out.ins)
  have HE2 := hid (two_id HOx6.out.good HOx6.out.outs)
  go_upto_region 9 with fail
  go_cut [16, 17] (fun s16 s17 w' => s16 = .slice none 0 0 ∧ s17 = .int .i64 7 ∧ Below w6.heap.size w6 w')
  case first =>
    have h0 := (Blk.new w6 27 [.slice adx ox.length cpx]).cell (j := 0) rfl
    have HX9 := hid (HOx6.out.later ((Below.refl _ _).alloc (Nat.le_refl _) (.cells #[.slice adx ox.length cpx] 27)))
    go_wp2_with fail
    all_goals
      refine (all_bad _ _ (by omega) (by omega) h0 HX9.out (by omega)).mono ?_
      rintro _ wy ⟨rfl, hb⟩
      have HY := hid (show Below w6.heap.size w6 wy from ((Below.refl _ _).alloc (Nat.le_refl _) _).trans (hb.mono (by simp)))
      clear hb
      go_wp2_with fail
      go_meet
      case rel => exact ⟨rfl, rfl, HY.out⟩
  case rest =>
  obtain ⟨rfl, rfl, hb⟩ := hcut
  have Hb7 := hid (below_seq Hb6.out hb)
  have HOx7 := hid (HOx6.out.later hb)
  have HOi7 := hid (HOi6.out.later hb)
  have HOj7 := hid (HOj6.out.later hb)
  have HOp7 := hid (HOp6.out.later hb)
  have HOq7 := hid (HOq6.out.later hb)
  clear hb Hb6 HOx6 HOi6 HOj6 HOp6 HOq6
  go_wp2_with fail
  refine (rnorm_ob HOx7.out).mono ?_
  rintro _ w8 ⟨vr, rfl, ho, hb⟩
  have Hb8 := hid (below_seq Hb7.out hb)
  have HOx8 := hid (HOx7.out.later hb)
  have HOi8 := hid (HOi7.out.later hb)
  have HOj8 := hid (HOj7.out.later hb)
  have HOp8 := hid (HOp7.out.later hb)
  have HOq8 := hid (HOq7.out.later hb)
  have HOr8 := hid ho
  clear hb Hb7 HOx7 HOi7 HOj7 HOp7 HOq7 ho
  go_wp2_with fail
  refine (rsame_ob HOp8.out HOr8.out HE1.out).mono ?_
  rintro _ w9 ⟨rfl, hb⟩
  have Hb9 := hid (below_seq Hb8.out hb)
  have HOx9 := hid (HOx8.out.later hb)
  have HOi9 := hid (HOi8.out.later hb)
  have HOj9 := hid (HOj8.out.later hb)
  have HOp9 := hid (HOp8.out.later hb)
  have HOq9 := hid (HOq8.out.later hb)
  have HOr9 := hid (HOr8.out.later hb)
  clear hb Hb8 HOx8 HOi8 HOj8 HOp8 HOq8 HOr8
  go_wp2_with fail
  refine (rnorm_ob HOx9.out).mono ?_
  rintro _ w10 ⟨vs, rfl, ho, hb⟩
  have Hb10 := hid (below_seq Hb9.out hb)
  have HOx10 := hid (HOx9.out.later hb)
  have HOi10 := hid (HOi9.out.later hb)
  have HOj10 := hid (HOj9.out.later hb)
  have HOp10 := hid (HOp9.out.later hb)
  have HOq10 := hid (HOq9.out.later hb)
  have HOr10 := hid (HOr9.out.later hb)
  have HOs10 := hid ho
  clear hb Hb9 HOx9 HOi9 HOj9 HOp9 HOq9 HOr9 ho
  go_wp2_with fail
  refine (rsame_ob HOq10.out HOs10.out HE2.out).mono ?_
  rintro _ w11 ⟨rfl, hb⟩
  have Hb11 := hid (below_seq Hb10.out hb)
  have HOx11 := hid (HOx10.out.later hb)
  have HOi11 := hid (HOi10.out.later hb)
  have HOj11 := hid (HOj10.out.later hb)
  have HOp11 := hid (HOp10.out.later hb)
  have HOq11 := hid (HOq10.out.later hb)
  have HOr11 := hid (HOr10.out.later hb)
  have HOs11 := hid (HOs10.out.later hb)
  clear hb Hb10 HOx10 HOi10 HOj10 HOp10 HOq10 HOr10 HOs10
  go_wp2_with fail
  have hil : ((idS k).length : Int) ≤ 1 := by have := id_len k; omega
  refine (rin_ob HOi11.out).mono ?_
  rintro _ wx ⟨rfl, rfl⟩
  go_wp2_with fail
  go_ret
  exact ⟨rfl, Hb11.out⟩

theorem none_row (n : Int) (a1 : Option Addr) (len1 cap1 : Nat) (z1 : List Int) (q : Int) (w : World) (w1 : IsRow .i64 w a1 len1 cap1 z1) :
    Calls Try.prog 6 #[.int .i64 n, .slice a1 len1 cap1, .int .i64 q] w fun e w' => e = .returned (.bool true) ∧ Below w.heap.size w w' :=
  none_any n a1 len1 cap1 q w (ns_of_row w1) (cap_of_row w1) (len_of_row w1)
end Go.Proofs.Ytcghcocacbglbaa
