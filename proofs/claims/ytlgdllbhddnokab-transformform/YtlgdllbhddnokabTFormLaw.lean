/- The law TransformForm: how two operations are written does not count. -/
import Derived.Test.YtlgdllbhddnokabKnown7
import Derived.Test.YtlgdllbhddnokabObR
import Derived.Deep.DeepCutAuto
namespace Go.Proofs.Ytlgdllbhddnokab
open Go.RowKit
set_option linter.unusedSimpArgs false
set_option linter.unusedVariables false

set_option maxRecDepth 100000 in
set_option maxHeartbeats 4000000 in
theorem tform_any (n : Int) (aa : Option Addr) (la ca : Nat) (ab : Option Addr) (lb cb : Nat) (w : World) (hna : NS w aa la) (hca : la ≤ ca) (hla : la ≤ 9223372036854775807) (hnb : NS w ab lb) (hcb : lb ≤ cb) (hlb : lb ≤ 9223372036854775807) :
    Calls Try.prog 3 #[.int .i64 n, .slice aa la ca, .slice ab lb cb] w fun e w' => e = .returned (.bool true) ∧ Below w.heap.size w w' := by
  have HNa := hid hna
  have HNb := hid hnb
  clear hna hnb
  go_enter Try.func3, Try.ntmps3
  go_wp2_with fail
  refine (known7_any _).mono ?_
  rintro _ w1 ⟨rfl, hb⟩
  have Hb1 := hid hb
  clear hb
  go_upto_region 3 with fail
  go_cut [0] (fun s0 w' => ∃ k : Nat, s0 = .int .i64 (k : Int) ∧ k ≤ 59 ∧ w' = w1)
  case first =>
    go_wp2_with fail
    all_goals
      go_meet
      first
      | exact ⟨0, rfl, by omega, rfl⟩
      | exact ⟨59, rfl, by omega, rfl⟩
      | exact ⟨(n.tmod 60).toNat, by rw [Int.toNat_of_nonneg (by omega)], by omega, rfl⟩
  case rest =>
  obtain ⟨k, rfl, hk, rfl⟩ := hcut
  go_wp2_with fail
  refine (make_ob k (by omega) _ _ _ (HNa.out.later Hb1.out) hca hla).mono ?_
  rintro _ w2 ⟨vx, rfl, ox, ux, ho, hux, hb⟩
  have Hb2 := hid (below_seq Hb1.out hb)
  have HOx2 := hid ho
  clear hb Hb1 ho
  go_wp2_with fail
  refine (make_ob k (by omega) _ _ _ (HNb.out.later Hb2.out) hcb hlb).mono ?_
  rintro _ w3 ⟨vy, rfl, oy, uy, ho, huy, hb⟩
  have Hb3 := hid (below_seq Hb2.out hb)
  have HOx3 := hid (HOx2.out.later hb)
  have HOy3 := hid ho
  clear hb Hb2 HOx2 ho
  go_wp2_with fail
  obtain ⟨X, Y, r, hP, hr⟩ := px_ex HOx3.out.good HOy3.out.good (by rw [HOx3.out.ins, HOy3.out.ins])
  rw [HOx3.out.outs, HOy3.out.outs] at hr
  have HP := hid hP
  have hs : r ≤ 400 := by omega
  clear hP
  refine (pair_ob HOx3.out HOy3.out HP.out hs).mono ?_
  rintro _ w4 ⟨vp, vq, rfl, ho, ho2, hb⟩
  have Hb4 := hid (below_seq Hb3.out hb)
  have HOx4 := hid (HOx3.out.later hb)
  have HOy4 := hid (HOy3.out.later hb)
  have HOp4 := hid ho
  have HOq4 := hid ho2
  clear hb Hb3 HOx3 HOy3 ho ho2
  go_wp2_with fail
  refine (rnorm_ob HOx4.out).mono ?_
  rintro _ w5 ⟨vm, rfl, ho, hb⟩
  have Hb5 := hid (below_seq Hb4.out hb)
  have HOx5 := hid (HOx4.out.later hb)
  have HOy5 := hid (HOy4.out.later hb)
  have HOp5 := hid (HOp4.out.later hb)
  have HOq5 := hid (HOq4.out.later hb)
  have HOm5 := hid ho
  clear hb Hb4 HOx4 HOy4 HOp4 HOq4 ho
  go_wp2_with fail
  refine (rnorm_ob HOy5.out).mono ?_
  rintro _ w6 ⟨vn, rfl, ho, hb⟩
  have Hb6 := hid (below_seq Hb5.out hb)
  have HOx6 := hid (HOx5.out.later hb)
  have HOy6 := hid (HOy5.out.later hb)
  have HOp6 := hid (HOp5.out.later hb)
  have HOq6 := hid (HOq5.out.later hb)
  have HOm6 := hid (HOm5.out.later hb)
  have HOn6 := hid ho
  clear hb Hb5 HOx5 HOy5 HOp5 HOq5 HOm5 ho
  go_wp2_with fail
  have HP2 := hid (show PX (normS ox) (normS oy) X Y r from ⟨by rw [norm_norm, norm_norm]; exact HP.out.pr, by rw [norm_norm, norm_norm]; exact HP.out.pa, HP.out.outs⟩)
  have hs2 := hs
  refine (pair_ob HOm6.out HOn6.out HP2.out hs2).mono ?_
  rintro _ w7 ⟨vs, vt, rfl, ho, ho2, hb⟩
  have Hb7 := hid (below_seq Hb6.out hb)
  have HOx7 := hid (HOx6.out.later hb)
  have HOy7 := hid (HOy6.out.later hb)
  have HOp7 := hid (HOp6.out.later hb)
  have HOq7 := hid (HOq6.out.later hb)
  have HOm7 := hid (HOm6.out.later hb)
  have HOn7 := hid (HOn6.out.later hb)
  have HOs7 := hid ho
  have HOt7 := hid ho2
  clear hb Hb6 HOx6 HOy6 HOp6 HOq6 HOm6 HOn6 ho ho2
  go_wp2_with fail
  refine (rsame_ob HOp7.out HOs7.out rfl).mono ?_
  rintro _ w8 ⟨rfl, hb⟩
  have Hb8 := hid (below_seq Hb7.out hb)
  have HOx8 := hid (HOx7.out.later hb)
  have HOy8 := hid (HOy7.out.later hb)
  have HOp8 := hid (HOp7.out.later hb)
  have HOq8 := hid (HOq7.out.later hb)
  have HOm8 := hid (HOm7.out.later hb)
  have HOn8 := hid (HOn7.out.later hb)
  have HOs8 := hid (HOs7.out.later hb)
  have HOt8 := hid (HOt7.out.later hb)
  clear hb Hb7 HOx7 HOy7 HOp7 HOq7 HOm7 HOn7 HOs7 HOt7
  go_wp2_with fail
  refine (rsame_ob HOq8.out HOt8.out rfl).mono ?_
  rintro _ w9 ⟨rfl, hb⟩
  have Hb9 := hid (below_seq Hb8.out hb)
  have HOx9 := hid (HOx8.out.later hb)
  have HOy9 := hid (HOy8.out.later hb)
  have HOp9 := hid (HOp8.out.later hb)
  have HOq9 := hid (HOq8.out.later hb)
  have HOm9 := hid (HOm8.out.later hb)
  have HOn9 := hid (HOn8.out.later hb)
  have HOs9 := hid (HOs8.out.later hb)
  have HOt9 := hid (HOt8.out.later hb)
  clear hb Hb8 HOx8 HOy8 HOp8 HOq8 HOm8 HOn8 HOs8 HOt8
  go_wp2_with fail
  go_ret
  exact ⟨rfl, Hb9.out⟩

theorem tform_row (a0 : Int) (a1 : Option Addr) (len1 cap1 : Nat) (z1 : List Int) (a2 : Option Addr) (len2 cap2 : Nat) (z2 : List Int) (w : World) (w1 : IsRow .i64 w a1 len1 cap1 z1) (w2 : IsRow .i64 w a2 len2 cap2 z2) :
    Calls Try.prog 3 #[.int .i64 a0, .slice a1 len1 cap1, .slice a2 len2 cap2] w fun e w' => e = .returned (.bool true) ∧ Below w.heap.size w w' := by
  exact tform_any a0 a1 len1 cap1 a2 len2 cap2 w (ns_of_row w1) (cap_of_row w1) (len_of_row w1) (ns_of_row w2) (cap_of_row w2) (len_of_row w2)
end Go.Proofs.Ytlgdllbhddnokab
