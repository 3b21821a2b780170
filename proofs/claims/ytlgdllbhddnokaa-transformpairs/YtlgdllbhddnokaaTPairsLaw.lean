/- The law TransformPairs: any two operations are led over one another as the second say does it, or refused. -/
import Derived.Test.YtlgdllbhddnokaaKnown7
import Derived.Test.YtlgdllbhddnokaaObU
import Derived.Test.YtlgdllbhddnokaaObZ
import Derived.Deep.DeepCutAuto
namespace Go.Proofs.Ytlgdllbhddnokaa
open Go.RowKit
set_option linter.unusedSimpArgs false
set_option linter.unusedVariables false

set_option maxRecDepth 100000 in
set_option maxHeartbeats 4000000 in
theorem tpairs_any (ao : Option Addr) (cap : Nat) (l : List UInt8) (aa : Option Addr) (la ca : Nat) (ab : Option Addr) (lb cb : Nat) (n : Int) (w : World) (hr : Reads w (.slice ao l.length cap) (B l)) (hm : l.length ≤ maxLen) (hna : NS w aa la) (hca : la ≤ ca) (hla : la ≤ 9223372036854775807) (hnb : NS w ab lb) (hcb : lb ≤ cb) (hlb : lb ≤ 9223372036854775807) :
    Calls Try.prog 3 #[.slice ao l.length cap, .slice aa la ca, .slice ab lb cb, .int .i64 n] w fun e w' => e = .returned (.bool true) ∧ Below w.heap.size w w' := by
  have HR := hid hr
  have HM := hid hm
  have HNa := hid hna
  have HNb := hid hnb
  clear hr hm hna hnb
  go_enter Try.func3, Try.ntmps3
  go_wp2_with fail
  refine (known7_any _).mono ?_
  rintro _ w1 ⟨rfl, hb⟩
  have Hb1 := hid hb
  clear hb
  go_wp2_with fail
  refine (few_any ao cap l _ (HR.out.later Hb1.out) HM.out).mono ?_
  rintro _ wx ⟨d, rfl, hd, rfl⟩
  go_wp2_with fail
  refine (make_ob d.size (by omega) _ _ _ (HNa.out.later Hb1.out) hca hla).mono ?_
  rintro _ w2 ⟨vx, rfl, ox, ux, ho, hux, hb⟩
  have Hb2 := hid (below_seq Hb1.out hb)
  have HOx2 := hid ho
  clear hb Hb1 ho
  go_wp2_with fail
  go_loopw [11] (fun iv wr => ∃ j : Nat, j ≤ 2 ∧ iv = .int .i64 j ∧ Below w2.heap.size w2 wr) (fun iv _ => 2 - (intOf iv).toNat)
  case atStart => exact ⟨0, by omega, rfl, Below.refl _ _⟩
  case round =>
    obtain ⟨j, hj, rfl, hbl⟩ := hrel
    have Hb0 := hid (below_seq Hb2.out hbl)
    have HOx0 := hid (HOx2.out.later hbl)
    have HBL := hid hbl
    clear hbl
    have hj3 : j = 0 ∨ j = 1 ∨ j = 2 := by omega
    clear hj
    rcases hj3 with rfl | rfl | rfl
    · skip
      go_wp2_with fail
      refine (make_ob d.size (by omega) _ _ _ (HNb.out.later Hb0.out) hcb hlb).mono ?_
      rintro _ w1 ⟨vy, rfl, oy, uy, ho, huy, hb⟩
      replace HBL := hid (below_seq HBL.out hb)
      have Hb1 := hid (below_seq Hb0.out hb)
      have HOx1 := hid (HOx0.out.later hb)
      have HOy1 := hid ho
      clear hb Hb0 HOx0 ho
      go_wp2_with fail
      obtain ⟨X, Y, r, hP, hr⟩ := px_ex HOx1.out.good HOy1.out.good (by rw [HOx1.out.ins, HOy1.out.ins])
      rw [HOx1.out.outs, HOy1.out.outs] at hr
      have HP := hid hP
      have hs : r ≤ 400 := by omega
      clear hP
      refine (pair_ob HOx1.out HOy1.out HP.out hs).mono ?_
      rintro _ w2 ⟨vp, vq, rfl, ho, ho2, hb⟩
      replace HBL := hid (below_seq HBL.out hb)
      have Hb2 := hid (below_seq Hb1.out hb)
      have HOx2 := hid (HOx1.out.later hb)
      have HOy2 := hid (HOy1.out.later hb)
      have HOp2 := hid ho
      have HOq2 := hid ho2
      clear hb Hb1 HOx1 HOy1 ho ho2
      go_wp2_with fail
      refine (rpair_ob HOx2.out HOy2.out HP.out hs).mono ?_
      rintro _ w3 ⟨vs, vt, rfl, ho, ho2, hb⟩
      replace HBL := hid (below_seq HBL.out hb)
      have Hb3 := hid (below_seq Hb2.out hb)
      have HOx3 := hid (HOx2.out.later hb)
      have HOy3 := hid (HOy2.out.later hb)
      have HOp3 := hid (HOp2.out.later hb)
      have HOq3 := hid (HOq2.out.later hb)
      have HOs3 := hid ho
      have HOt3 := hid ho2
      clear hb Hb2 HOx2 HOy2 HOp2 HOq2 ho ho2
      go_wp2_with fail
      refine (rsame_ob HOp3.out HOs3.out rfl).mono ?_
      rintro _ w4 ⟨rfl, hb⟩
      replace HBL := hid (below_seq HBL.out hb)
      have Hb4 := hid (below_seq Hb3.out hb)
      have HOx4 := hid (HOx3.out.later hb)
      have HOy4 := hid (HOy3.out.later hb)
      have HOp4 := hid (HOp3.out.later hb)
      have HOq4 := hid (HOq3.out.later hb)
      have HOs4 := hid (HOs3.out.later hb)
      have HOt4 := hid (HOt3.out.later hb)
      clear hb Hb3 HOx3 HOy3 HOp3 HOq3 HOs3 HOt3
      go_wp2_with fail
      refine (rsame_ob HOq4.out HOt4.out rfl).mono ?_
      rintro _ w5 ⟨rfl, hb⟩
      replace HBL := hid (below_seq HBL.out hb)
      have Hb5 := hid (below_seq Hb4.out hb)
      have HOx5 := hid (HOx4.out.later hb)
      have HOy5 := hid (HOy4.out.later hb)
      have HOp5 := hid (HOp4.out.later hb)
      have HOq5 := hid (HOq4.out.later hb)
      have HOs5 := hid (HOs4.out.later hb)
      have HOt5 := hid (HOt4.out.later hb)
      clear hb Hb4 HOx4 HOy4 HOp4 HOq4 HOs4 HOt4
      go_wp2_with fail
      go_roundw
      case rel => exact ⟨1, by omega, by go_num, HBL.out⟩
      case measure => simp [intOf]
    · skip
      go_wp2_with fail
      refine (make_ob d.size (by omega) _ _ _ (HNb.out.later Hb0.out) hcb hlb).mono ?_
      rintro _ w1 ⟨vy0, rfl, oy0, uy0, ho, huy0, hb⟩
      clear ho
      have Hb1 := hid (below_seq Hb0.out hb)
      have HOx1 := hid (HOx0.out.later hb)
      replace HBL := hid (below_seq HBL.out hb)
      clear hb Hb0 HOx0
      go_upto_region 10 with fail
      go_cut [12] (fun s12 w' => ∃ (k : Nat) (v : Value) (o : List Cp) (uy : Nat), s12 = v ∧ Ob w' v o k uy ∧ uy ≤ 120 ∧ Below w1.heap.size w1 w')
      case first =>
        go_wp2_with fail
        all_goals
          refine (make_obz _ (by omega) (by omega) _ _ _ (HNb.out.later Hb1.out) hcb hlb).mono ?_
          rintro _ w2 ⟨vy, rfl, oy, ky, uy, ho, huy, hb⟩
          have HY := hid ho
          have HB2 := hid hb
          clear ho hb
          go_wp2_with fail
          go_meet
          case rel => exact ⟨_, _, oy, uy, rfl, HY.out, huy, HB2.out⟩
      case rest =>
      obtain ⟨k, vy, oy, uy, rfl, ho, huy, hb⟩ := hcut
      have Hb2 := hid (below_seq Hb1.out hb)
      have HOx2 := hid (HOx1.out.later hb)
      have HOy2 := hid ho
      replace HBL := hid (below_seq HBL.out hb)
      clear ho hb Hb1 HOx1
      go_wp2_with fail
      by_cases hne : d.size = k
      · skip
        subst hne
        obtain ⟨X, Y, r, hP, hr⟩ := px_ex HOx2.out.good HOy2.out.good (by rw [HOx2.out.ins, HOy2.out.ins])
        rw [HOx2.out.outs, HOy2.out.outs] at hr
        have HP := hid hP
        have hs : r ≤ 400 := by omega
        clear hP
        refine (pair_ob HOx2.out HOy2.out HP.out hs).mono ?_
        rintro _ w3 ⟨vp, vq, rfl, ho, ho2, hb⟩
        replace HBL := hid (below_seq HBL.out hb)
        have Hb3 := hid (below_seq Hb2.out hb)
        have HOx3 := hid (HOx2.out.later hb)
        have HOy3 := hid (HOy2.out.later hb)
        have HOp3 := hid ho
        have HOq3 := hid ho2
        clear hb Hb2 HOx2 HOy2 ho ho2
        go_wp2_with fail
        refine (rpair_ob HOx3.out HOy3.out HP.out hs).mono ?_
        rintro _ w4 ⟨vs, vt, rfl, ho, ho2, hb⟩
        replace HBL := hid (below_seq HBL.out hb)
        have Hb4 := hid (below_seq Hb3.out hb)
        have HOx4 := hid (HOx3.out.later hb)
        have HOy4 := hid (HOy3.out.later hb)
        have HOp4 := hid (HOp3.out.later hb)
        have HOq4 := hid (HOq3.out.later hb)
        have HOs4 := hid ho
        have HOt4 := hid ho2
        clear hb Hb3 HOx3 HOy3 HOp3 HOq3 ho ho2
        go_wp2_with fail
        refine (rsame_ob HOp4.out HOs4.out rfl).mono ?_
        rintro _ w5 ⟨rfl, hb⟩
        replace HBL := hid (below_seq HBL.out hb)
        have Hb5 := hid (below_seq Hb4.out hb)
        have HOx5 := hid (HOx4.out.later hb)
        have HOy5 := hid (HOy4.out.later hb)
        have HOp5 := hid (HOp4.out.later hb)
        have HOq5 := hid (HOq4.out.later hb)
        have HOs5 := hid (HOs4.out.later hb)
        have HOt5 := hid (HOt4.out.later hb)
        clear hb Hb4 HOx4 HOy4 HOp4 HOq4 HOs4 HOt4
        go_wp2_with fail
        refine (rsame_ob HOq5.out HOt5.out rfl).mono ?_
        rintro _ w6 ⟨rfl, hb⟩
        replace HBL := hid (below_seq HBL.out hb)
        have Hb6 := hid (below_seq Hb5.out hb)
        have HOx6 := hid (HOx5.out.later hb)
        have HOy6 := hid (HOy5.out.later hb)
        have HOp6 := hid (HOp5.out.later hb)
        have HOq6 := hid (HOq5.out.later hb)
        have HOs6 := hid (HOs5.out.later hb)
        have HOt6 := hid (HOt5.out.later hb)
        clear hb Hb5 HOx5 HOy5 HOp5 HOq5 HOs5 HOt5
        go_wp2_with fail
        go_roundw
        case rel => exact ⟨2, by omega, by go_num, HBL.out⟩
        case measure => simp [intOf]
      · skip
        refine (pair_bad HOx2.out HOy2.out hne).mono ?_
        rintro _ w3 ⟨rfl, hb⟩
        replace HBL := hid (below_seq HBL.out hb)
        have Hb3 := hid (below_seq Hb2.out hb)
        have HOx3 := hid (HOx2.out.later hb)
        have HOy3 := hid (HOy2.out.later hb)
        clear hb Hb2 HOx2 HOy2
        go_wp2_with fail
        refine (rpair_bad HOx3.out HOy3.out hne).mono ?_
        rintro _ w4 ⟨rfl, hb⟩
        replace HBL := hid (below_seq HBL.out hb)
        have Hb4 := hid (below_seq Hb3.out hb)
        have HOx4 := hid (HOx3.out.later hb)
        have HOy4 := hid (HOy3.out.later hb)
        clear hb Hb3 HOx3 HOy3
        go_wp2_with fail
        refine (nil_same _ _ rfl rfl).mono ?_
        rintro _ w5 ⟨rfl, hb⟩
        replace HBL := hid (below_seq HBL.out hb)
        have Hb5 := hid (below_seq Hb4.out hb)
        have HOx5 := hid (HOx4.out.later hb)
        have HOy5 := hid (HOy4.out.later hb)
        clear hb Hb4 HOx4 HOy4
        go_wp2_with fail
        refine (nil_same _ _ rfl rfl).mono ?_
        rintro _ w6 ⟨rfl, hb⟩
        replace HBL := hid (below_seq HBL.out hb)
        have Hb6 := hid (below_seq Hb5.out hb)
        have HOx6 := hid (HOx5.out.later hb)
        have HOy6 := hid (HOy5.out.later hb)
        clear hb Hb5 HOx5 HOy5
        go_wp2_with fail
        go_roundw
        case rel => exact ⟨2, by omega, by go_num, HBL.out⟩
        case measure => simp [intOf]
    · go_wp2_with fail
      go_ret
      exact ⟨rfl, Hb0.out⟩

theorem tpairs_row (a0 : Option Addr) (len0 cap0 : Nat) (z0 : List Int) (a1 : Option Addr) (len1 cap1 : Nat) (z1 : List Int) (a2 : Option Addr) (len2 cap2 : Nat) (z2 : List Int) (a3 : Int) (w : World) (w0 : IsRow .u8 w a0 len0 cap0 z0) (w1 : IsRow .i64 w a1 len1 cap1 z1) (w2 : IsRow .i64 w a2 len2 cap2 z2) :
    Calls Try.prog 3 #[.slice a0 len0 cap0, .slice a1 len1 cap1, .slice a2 len2 cap2, .int .i64 a3] w fun e w' => e = .returned (.bool true) ∧ Below w.heap.size w w' := by
  obtain ⟨l, rfl, hm, hr⟩ := bytes_of_row w0
  exact tpairs_any a0 cap0 l a1 len1 cap1 a2 len2 cap2 a3 w hr hm (ns_of_row w1) (cap_of_row w1) (len_of_row w1) (ns_of_row w2) (cap_of_row w2) (len_of_row w2)
end Go.Proofs.Ytlgdllbhddnokaa
