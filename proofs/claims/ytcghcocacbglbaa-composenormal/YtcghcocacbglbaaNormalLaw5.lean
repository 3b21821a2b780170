/- The law ComposeNormal: how an operation is written does not count: only what it does. -/
import Derived.Test.YtcghcocacbglbaaObR
namespace Go.Proofs.Ytcghcocacbglbaa
open Go.RowKit
set_option linter.unusedSimpArgs false
set_option linter.unusedVariables false

set_option maxRecDepth 100000 in
set_option maxHeartbeats 4000000 in
theorem normal5_any (n : Int) (aa : Option Addr) (la ca : Nat) (ab : Option Addr) (lb cb : Nat) (w : World) (hna : NS w aa la) (hca : la ≤ ca) (hla : la ≤ 9223372036854775807) (hnb : NS w ab lb) (hcb : lb ≤ cb) (hlb : lb ≤ 9223372036854775807) :
    Calls Try.prog 8 #[.int .i64 n, .slice aa la ca, .slice ab lb cb] w fun e w' => e = .returned (.bool true) ∧ Below w.heap.size w w' := by
  have HNa := hid hna
  have HNb := hid hnb
  clear hna hnb
  go_enter Try.func8, Try.ntmps8
  go_wp2_with fail
  refine (known5_any _).mono ?_
  rintro _ w1 ⟨rfl, hb⟩
  have Hb1 := hid hb
  clear hb
  go_upto_region 3 with fail
  go_cut [0] (fun s0 w' => ∃ k : Nat, s0 = .int .i64 (k : Int) ∧ k ≤ 89 ∧ w' = w1)
  case first =>
    go_wp2_with fail
    all_goals
      go_meet
      first
      | exact ⟨0, rfl, by omega, rfl⟩
      | exact ⟨89, rfl, by omega, rfl⟩
      | exact ⟨(n.tmod 90).toNat, by rw [Int.toNat_of_nonneg (by omega)], by omega, rfl⟩
  case rest =>
  obtain ⟨k, rfl, hk, rfl⟩ := hcut
  go_wp2_with fail
  refine (make_ob k (by omega) _ _ _ (HNa.out.later Hb1.out) hca hla).mono ?_
  rintro _ w2 ⟨vx, rfl, ox, ux, ho, hux, hb⟩
  have Hb2 := hid (below_seq Hb1.out hb)
  have HOx2 := hid ho
  clear hb Hb1 ho
  go_wp2_with fail
  refine (rout_ob HOx2.out).mono ?_
  rintro _ wx ⟨rfl, rfl⟩
  go_wp2_with fail
  refine (make_ob ux (by omega) _ _ _ (HNb.out.later Hb2.out) hcb hlb).mono ?_
  rintro _ w3 ⟨vy, rfl, oy, uy, ho, huy, hb⟩
  have Hb3 := hid (below_seq Hb2.out hb)
  have HOx3 := hid (HOx2.out.later hb)
  have HOy3 := hid ho
  clear hb Hb2 HOx2 ho
  go_wp2_with fail
  refine (two_ob HOx3.out HOy3.out).mono ?_
  rintro _ w4 ⟨vp, rfl, ho, hb⟩
  have Hb4 := hid (below_seq Hb3.out hb)
  have HOx4 := hid (HOx3.out.later hb)
  have HOy4 := hid (HOy3.out.later hb)
  have HOp4 := hid ho
  clear hb Hb3 HOx3 HOy3 ho
  go_wp2_with fail
  refine (rnorm_ob HOx4.out).mono ?_
  rintro _ w5 ⟨vs, rfl, ho, hb⟩
  have Hb5 := hid (below_seq Hb4.out hb)
  have HOx5 := hid (HOx4.out.later hb)
  have HOy5 := hid (HOy4.out.later hb)
  have HOp5 := hid (HOp4.out.later hb)
  have HOs5 := hid ho
  clear hb Hb4 HOx4 HOy4 HOp4 ho
  go_wp2_with fail
  refine (rnorm_ob HOy5.out).mono ?_
  rintro _ w6 ⟨vt, rfl, ho, hb⟩
  have Hb6 := hid (below_seq Hb5.out hb)
  have HOx6 := hid (HOx5.out.later hb)
  have HOy6 := hid (HOy5.out.later hb)
  have HOp6 := hid (HOp5.out.later hb)
  have HOs6 := hid (HOs5.out.later hb)
  have HOt6 := hid ho
  clear hb Hb5 HOx5 HOy5 HOp5 HOs5 ho
  go_wp2_with fail
  refine (two_ob HOs6.out HOt6.out).mono ?_
  rintro _ w7 ⟨vq, rfl, ho, hb⟩
  have Hb7 := hid (below_seq Hb6.out hb)
  have HOx7 := hid (HOx6.out.later hb)
  have HOy7 := hid (HOy6.out.later hb)
  have HOp7 := hid (HOp6.out.later hb)
  have HOs7 := hid (HOs6.out.later hb)
  have HOt7 := hid (HOt6.out.later hb)
  have HOq7 := hid ho
  clear hb Hb6 HOx6 HOy6 HOp6 HOs6 HOt6 ho
  go_wp2_with fail
  have HE1 := hid (two_forms HOx7.out.good HOy7.out.good (by rw [HOy7.out.ins, HOx7.out.outs]))
  have HE2 := hid (two_norm ox oy)
  refine (rsame_ob HOp7.out HOq7.out HE1.out.symm).mono ?_
  rintro _ w8 ⟨rfl, hb⟩
  have Hb8 := hid (below_seq Hb7.out hb)
  have HOx8 := hid (HOx7.out.later hb)
  have HOy8 := hid (HOy7.out.later hb)
  have HOp8 := hid (HOp7.out.later hb)
  have HOs8 := hid (HOs7.out.later hb)
  have HOt8 := hid (HOt7.out.later hb)
  have HOq8 := hid (HOq7.out.later hb)
  clear hb Hb7 HOx7 HOy7 HOp7 HOs7 HOt7 HOq7
  go_wp2_with fail
  refine (rnorm_ob HOp8.out).mono ?_
  rintro _ w9 ⟨vr, rfl, ho, hb⟩
  have Hb9 := hid (below_seq Hb8.out hb)
  have HOx9 := hid (HOx8.out.later hb)
  have HOy9 := hid (HOy8.out.later hb)
  have HOp9 := hid (HOp8.out.later hb)
  have HOs9 := hid (HOs8.out.later hb)
  have HOt9 := hid (HOt8.out.later hb)
  have HOq9 := hid (HOq8.out.later hb)
  have HOr9 := hid ho
  clear hb Hb8 HOx8 HOy8 HOp8 HOs8 HOt8 HOq8 ho
  go_wp2_with fail
  refine (rsame_ob HOp9.out HOr9.out HE2.out.symm).mono ?_
  rintro _ w10 ⟨rfl, hb⟩
  have Hb10 := hid (below_seq Hb9.out hb)
  have HOx10 := hid (HOx9.out.later hb)
  have HOy10 := hid (HOy9.out.later hb)
  have HOp10 := hid (HOp9.out.later hb)
  have HOs10 := hid (HOs9.out.later hb)
  have HOt10 := hid (HOt9.out.later hb)
  have HOq10 := hid (HOq9.out.later hb)
  have HOr10 := hid (HOr9.out.later hb)
  clear hb Hb9 HOx9 HOy9 HOp9 HOs9 HOt9 HOq9 HOr9
  go_wp2_with fail
  refine (rin_ob HOp10.out).mono ?_
  rintro _ wx ⟨rfl, rfl⟩
  go_wp2_with fail
  refine (rout_ob HOp10.out).mono ?_
  rintro _ wx ⟨rfl, rfl⟩
  go_wp2_with fail
  refine (rout_ob HOy10.out).mono ?_
  rintro _ wx ⟨rfl, rfl⟩
  go_wp2_with fail
  go_ret
  exact ⟨rfl, Hb10.out⟩

theorem normal5_row (n : Int) (a1 : Option Addr) (len1 cap1 : Nat) (z1 : List Int) (a2 : Option Addr) (len2 cap2 : Nat) (z2 : List Int) (w : World) (w1 : IsRow .i64 w a1 len1 cap1 z1) (w2 : IsRow .i64 w a2 len2 cap2 z2) :
    Calls Try.prog 8 #[.int .i64 n, .slice a1 len1 cap1, .slice a2 len2 cap2] w fun e w' => e = .returned (.bool true) ∧ Below w.heap.size w w' :=
  normal5_any n a1 len1 cap1 a2 len2 cap2 w (ns_of_row w1) (cap_of_row w1) (len_of_row w1) (ns_of_row w2) (cap_of_row w2) (len_of_row w2)
end Go.Proofs.Ytcghcocacbglbaa
