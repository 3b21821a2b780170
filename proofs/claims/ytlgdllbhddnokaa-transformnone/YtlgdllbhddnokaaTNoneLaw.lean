/- The law TransformNone: what keeps all changes no other one; over none an operation stays as it is. -/
import Derived.Test.YtlgdllbhddnokaaKnown7
import Derived.Test.YtlgdllbhddnokaaObR
import Derived.Test.YtlgdllbhddnokaaPairT
import Derived.Test.YtlgdllbhddnokaaOver0
import Derived.Deep.DeepCutAuto
namespace Go.Proofs.Ytlgdllbhddnokaa
open Go.RowKit
set_option linter.unusedSimpArgs false
set_option linter.unusedVariables false

set_option maxRecDepth 100000 in
set_option maxHeartbeats 4000000 in
theorem tnone_any (n : Int) (aa : Option Addr) (la ca : Nat) (w : World) (hna : NS w aa la) (hca : la ≤ ca) (hla : la ≤ 9223372036854775807) :
    Calls Try.prog 6 #[.int .i64 n, .slice aa la ca] w fun e w' => e = .returned (.bool true) ∧ Below w.heap.size w w' := by
  have HNa := hid hna
  clear hna
  go_enter Try.func6, Try.ntmps6
  go_wp2_with fail
  refine (known7_any _).mono ?_
  rintro _ w1 ⟨rfl, hb⟩
  have Hb1 := hid hb
  clear hb
  go_upto_region 3 with fail
  go_cut [0] (fun s0 w' => ∃ k : Nat, s0 = .int .i64 (k : Int) ∧ k ≤ 59 ∧ w' = w1)
  case first =>
    go_wp2_with fail
    all_goals
      go_meet
      first
      | exact ⟨0, rfl, by omega, rfl⟩
      | exact ⟨59, rfl, by omega, rfl⟩
      | exact ⟨(n.tmod 60).toNat, by rw [Int.toNat_of_nonneg (by omega)], by omega, rfl⟩
  case rest =>
  obtain ⟨k, rfl, hk, rfl⟩ := hcut
  go_wp2_with fail
  refine (make_ob k (by omega) _ _ _ (HNa.out.later Hb1.out) hca hla).mono ?_
  rintro _ w2 ⟨vx, rfl, ox, ux, ho, hux, hb⟩
  have Hb2 := hid (below_seq Hb1.out hb)
  have HOx2 := hid ho
  clear hb Hb1 ho
  go_wp2_with fail
  refine (all0_ob k (by omega) _).mono ?_
  rintro _ w3 ⟨vi, rfl, ho, hb⟩
  have Hb3 := hid (below_seq Hb2.out hb)
  have HOx3 := hid (HOx2.out.later hb)
  have HOi3 := hid ho
  clear hb Hb2 HOx2 ho
  go_wp2_with fail
  obtain ⟨X1, Y1, r1, hP, hr1⟩ := px_ex HOx3.out.good HOi3.out.good (by rw [HOx3.out.ins, HOi3.out.ins])
  rw [HOx3.out.outs, HOi3.out.outs] at hr1
  have HP1 := hid hP
  have hs1 : r1 ≤ 400 := by omega
  clear hP
  refine (pair_ob HOx3.out HOi3.out HP1.out hs1).mono ?_
  rintro _ w4 ⟨vp, vq, rfl, ho, ho2, hb⟩
  have Hb4 := hid (below_seq Hb3.out hb)
  have HOx4 := hid (HOx3.out.later hb)
  have HOi4 := hid (HOi3.out.later hb)
  have HOp4 := hid ho
  have HOq4 := hid ho2
  clear hb Hb3 HOx3 HOi3 ho ho2
  go_wp2_with fail
  obtain ⟨X2, Y2, r2, hP, hr2⟩ := px_ex HOi4.out.good HOx4.out.good (by rw [HOi4.out.ins, HOx4.out.ins])
  rw [HOi4.out.outs, HOx4.out.outs] at hr2
  have HP2 := hid hP
  have hs2 : r2 ≤ 400 := by omega
  clear hP
  refine (pair_ob HOi4.out HOx4.out HP2.out hs2).mono ?_
  rintro _ w5 ⟨vs, vt, rfl, ho, ho2, hb⟩
  have Hb5 := hid (below_seq Hb4.out hb)
  have HOx5 := hid (HOx4.out.later hb)
  have HOi5 := hid (HOi4.out.later hb)
  have HOp5 := hid (HOp4.out.later hb)
  have HOq5 := hid (HOq4.out.later hb)
  have HOs5 := hid ho
  have HOt5 := hid ho2
  clear hb Hb4 HOx4 HOi4 HOp4 HOq4 ho ho2
  go_wp2_with fail
  refine (over0_ob HOx5.out).mono ?_
  rintro _ w6 ⟨vo, rfl, ho, hb⟩
  have Hb6 := hid (below_seq Hb5.out hb)
  have HOx6 := hid (HOx5.out.later hb)
  have HOi6 := hid (HOi5.out.later hb)
  have HOp6 := hid (HOp5.out.later hb)
  have HOq6 := hid (HOq5.out.later hb)
  have HOs6 := hid (HOs5.out.later hb)
  have HOt6 := hid (HOt5.out.later hb)
  have HOo6 := hid ho
  clear hb Hb5 HOx5 HOi5 HOp5 HOq5 HOs5 HOt5 ho
  go_wp2_with fail
  refine (rout_ob HOx6.out).mono ?_
  rintro _ wx ⟨rfl, rfl⟩
  go_wp2_with fail
  refine (all0_ob ux (by omega) _).mono ?_
  rintro _ w7 ⟨vu, rfl, ho, hb⟩
  have Hb7 := hid (below_seq Hb6.out hb)
  have HOx7 := hid (HOx6.out.later hb)
  have HOi7 := hid (HOi6.out.later hb)
  have HOp7 := hid (HOp6.out.later hb)
  have HOq7 := hid (HOq6.out.later hb)
  have HOs7 := hid (HOs6.out.later hb)
  have HOt7 := hid (HOt6.out.later hb)
  have HOo7 := hid (HOo6.out.later hb)
  have HOu7 := hid ho
  clear hb Hb6 HOx6 HOi6 HOp6 HOq6 HOs6 HOt6 HOo6 ho
  go_wp2_with fail
  have HIR := hid (pr_idR HP1.out.pr (norm_good HOx7.out.good) k (id_norm k) (by rw [in_norm _ HOx7.out.good, HOx7.out.ins]))
  have HIL := hid (pr_idL HP2.out.pr (norm_good HOx7.out.good) k (id_norm k) (by rw [in_norm _ HOx7.out.good, HOx7.out.ins]))
  have HU := hid (show (outS (normS ox)).toNat = ux by rw [out_norm _ HOx7.out.good, HOx7.out.outs, Int.toNat_natCast])
  refine (rnorm_ob HOx7.out).mono ?_
  rintro _ w8 ⟨vm, rfl, ho, hb⟩
  have Hb8 := hid (below_seq Hb7.out hb)
  have HOx8 := hid (HOx7.out.later hb)
  have HOi8 := hid (HOi7.out.later hb)
  have HOp8 := hid (HOp7.out.later hb)
  have HOq8 := hid (HOq7.out.later hb)
  have HOs8 := hid (HOs7.out.later hb)
  have HOt8 := hid (HOt7.out.later hb)
  have HOo8 := hid (HOo7.out.later hb)
  have HOu8 := hid (HOu7.out.later hb)
  have HOm8 := hid ho
  clear hb Hb7 HOx7 HOi7 HOp7 HOq7 HOs7 HOt7 HOo7 HOu7 ho
  go_wp2_with fail
  refine (rsame_ob HOp8.out HOm8.out (by rw [HIR.out.1, norm_norm])).mono ?_
  rintro _ w9 ⟨rfl, hb⟩
  have Hb9 := hid (below_seq Hb8.out hb)
  have HOx9 := hid (HOx8.out.later hb)
  have HOi9 := hid (HOi8.out.later hb)
  have HOp9 := hid (HOp8.out.later hb)
  have HOq9 := hid (HOq8.out.later hb)
  have HOs9 := hid (HOs8.out.later hb)
  have HOt9 := hid (HOt8.out.later hb)
  have HOo9 := hid (HOo8.out.later hb)
  have HOu9 := hid (HOu8.out.later hb)
  have HOm9 := hid (HOm8.out.later hb)
  clear hb Hb8 HOx8 HOi8 HOp8 HOq8 HOs8 HOt8 HOo8 HOu8 HOm8
  go_wp2_with fail
  refine (rnorm_ob HOx9.out).mono ?_
  rintro _ w10 ⟨vn, rfl, ho, hb⟩
  have Hb10 := hid (below_seq Hb9.out hb)
  have HOx10 := hid (HOx9.out.later hb)
  have HOi10 := hid (HOi9.out.later hb)
  have HOp10 := hid (HOp9.out.later hb)
  have HOq10 := hid (HOq9.out.later hb)
  have HOs10 := hid (HOs9.out.later hb)
  have HOt10 := hid (HOt9.out.later hb)
  have HOo10 := hid (HOo9.out.later hb)
  have HOu10 := hid (HOu9.out.later hb)
  have HOm10 := hid (HOm9.out.later hb)
  have HOn10 := hid ho
  clear hb Hb9 HOx9 HOi9 HOp9 HOq9 HOs9 HOt9 HOo9 HOu9 HOm9 ho
  go_wp2_with fail
  refine (rsame_ob HOt10.out HOn10.out (by rw [HIL.out.1, norm_norm])).mono ?_
  rintro _ w11 ⟨rfl, hb⟩
  have Hb11 := hid (below_seq Hb10.out hb)
  have HOx11 := hid (HOx10.out.later hb)
  have HOi11 := hid (HOi10.out.later hb)
  have HOp11 := hid (HOp10.out.later hb)
  have HOq11 := hid (HOq10.out.later hb)
  have HOs11 := hid (HOs10.out.later hb)
  have HOt11 := hid (HOt10.out.later hb)
  have HOo11 := hid (HOo10.out.later hb)
  have HOu11 := hid (HOu10.out.later hb)
  have HOm11 := hid (HOm10.out.later hb)
  have HOn11 := hid (HOn10.out.later hb)
  clear hb Hb10 HOx10 HOi10 HOp10 HOq10 HOs10 HOt10 HOo10 HOu10 HOm10 HOn10
  go_wp2_with fail
  refine (rnorm_ob HOu11.out).mono ?_
  rintro _ w12 ⟨ve, rfl, ho, hb⟩
  have Hb12 := hid (below_seq Hb11.out hb)
  have HOx12 := hid (HOx11.out.later hb)
  have HOi12 := hid (HOi11.out.later hb)
  have HOp12 := hid (HOp11.out.later hb)
  have HOq12 := hid (HOq11.out.later hb)
  have HOs12 := hid (HOs11.out.later hb)
  have HOt12 := hid (HOt11.out.later hb)
  have HOo12 := hid (HOo11.out.later hb)
  have HOu12 := hid (HOu11.out.later hb)
  have HOm12 := hid (HOm11.out.later hb)
  have HOn12 := hid (HOn11.out.later hb)
  have HOe12 := hid ho
  clear hb Hb11 HOx11 HOi11 HOp11 HOq11 HOs11 HOt11 HOo11 HOu11 HOm11 HOn11 ho
  go_wp2_with fail
  refine (rsame_ob HOq12.out HOe12.out (by rw [HIR.out.2, HU.out, id_norm])).mono ?_
  rintro _ w13 ⟨rfl, hb⟩
  have Hb13 := hid (below_seq Hb12.out hb)
  have HOx13 := hid (HOx12.out.later hb)
  have HOi13 := hid (HOi12.out.later hb)
  have HOp13 := hid (HOp12.out.later hb)
  have HOq13 := hid (HOq12.out.later hb)
  have HOs13 := hid (HOs12.out.later hb)
  have HOt13 := hid (HOt12.out.later hb)
  have HOo13 := hid (HOo12.out.later hb)
  have HOu13 := hid (HOu12.out.later hb)
  have HOm13 := hid (HOm12.out.later hb)
  have HOn13 := hid (HOn12.out.later hb)
  have HOe13 := hid (HOe12.out.later hb)
  clear hb Hb12 HOx12 HOi12 HOp12 HOq12 HOs12 HOt12 HOo12 HOu12 HOm12 HOn12 HOe12
  go_wp2_with fail
  refine (rnorm_ob HOu13.out).mono ?_
  rintro _ w14 ⟨vf, rfl, ho, hb⟩
  have Hb14 := hid (below_seq Hb13.out hb)
  have HOx14 := hid (HOx13.out.later hb)
  have HOi14 := hid (HOi13.out.later hb)
  have HOp14 := hid (HOp13.out.later hb)
  have HOq14 := hid (HOq13.out.later hb)
  have HOs14 := hid (HOs13.out.later hb)
  have HOt14 := hid (HOt13.out.later hb)
  have HOo14 := hid (HOo13.out.later hb)
  have HOu14 := hid (HOu13.out.later hb)
  have HOm14 := hid (HOm13.out.later hb)
  have HOn14 := hid (HOn13.out.later hb)
  have HOe14 := hid (HOe13.out.later hb)
  have HOf14 := hid ho
  clear hb Hb13 HOx13 HOi13 HOp13 HOq13 HOs13 HOt13 HOo13 HOu13 HOm13 HOn13 HOe13 ho
  go_wp2_with fail
  refine (rsame_ob HOs14.out HOf14.out (by rw [HIL.out.2, HU.out, id_norm])).mono ?_
  rintro _ w15 ⟨rfl, hb⟩
  have Hb15 := hid (below_seq Hb14.out hb)
  have HOx15 := hid (HOx14.out.later hb)
  have HOi15 := hid (HOi14.out.later hb)
  have HOp15 := hid (HOp14.out.later hb)
  have HOq15 := hid (HOq14.out.later hb)
  have HOs15 := hid (HOs14.out.later hb)
  have HOt15 := hid (HOt14.out.later hb)
  have HOo15 := hid (HOo14.out.later hb)
  have HOu15 := hid (HOu14.out.later hb)
  have HOm15 := hid (HOm14.out.later hb)
  have HOn15 := hid (HOn14.out.later hb)
  have HOe15 := hid (HOe14.out.later hb)
  have HOf15 := hid (HOf14.out.later hb)
  clear hb Hb14 HOx14 HOi14 HOp14 HOq14 HOs14 HOt14 HOo14 HOu14 HOm14 HOn14 HOe14 HOf14
  go_wp2_with fail
  refine (rsame_ob HOo15.out HOx15.out rfl).mono ?_
  rintro _ w16 ⟨rfl, hb⟩
  have Hb16 := hid (below_seq Hb15.out hb)
  have HOx16 := hid (HOx15.out.later hb)
  have HOi16 := hid (HOi15.out.later hb)
  have HOp16 := hid (HOp15.out.later hb)
  have HOq16 := hid (HOq15.out.later hb)
  have HOs16 := hid (HOs15.out.later hb)
  have HOt16 := hid (HOt15.out.later hb)
  have HOo16 := hid (HOo15.out.later hb)
  have HOu16 := hid (HOu15.out.later hb)
  have HOm16 := hid (HOm15.out.later hb)
  have HOn16 := hid (HOn15.out.later hb)
  have HOe16 := hid (HOe15.out.later hb)
  have HOf16 := hid (HOf15.out.later hb)
  clear hb Hb15 HOx15 HOi15 HOp15 HOq15 HOs15 HOt15 HOo15 HOu15 HOm15 HOn15 HOe15 HOf15
  go_wp2_with fail
  go_ret
  exact ⟨rfl, Hb16.out⟩

theorem tnone_row (a0 : Int) (a1 : Option Addr) (len1 cap1 : Nat) (z1 : List Int) (w : World) (w1 : IsRow .i64 w a1 len1 cap1 z1) :
    Calls Try.prog 6 #[.int .i64 a0, .slice a1 len1 cap1] w fun e w' => e = .returned (.bool true) ∧ Below w.heap.size w w' := by
  exact tnone_any a0 a1 len1 cap1 w (ns_of_row w1) (cap_of_row w1) (len_of_row w1)
end Go.Proofs.Ytlgdllbhddnokaa
