/- The law ComposeTwo: any two operations are taken together as the second say does it, or refused. -/
import Derived.Test.YtcghcocacbglbaaRAll
import Derived.Test.YtcghcocacbglbaaDoc4
namespace Go.Proofs.Ytcghcocacbglbaa
open Go.RowKit
set_option linter.unusedSimpArgs false
set_option linter.unusedVariables false

theorem make_obz {w : World} (z : Int) (h0 : 0 ≤ z) (h1 : z ≤ 120) (ao : Option Addr) (len cap : Nat) (hns : NS w ao len) (hcap : len ≤ cap) (hlen : len ≤ 9223372036854775807) :
    Calls Try.prog 11 #[.int .i64 z, .slice ao len cap] w fun e w' => ∃ v, e = .returned v ∧ ∃ (o : List Cp) (k u : Nat), Ob w' v o k u ∧ u ≤ 120 ∧ Below w.heap.size w w' := by
  obtain ⟨k, rfl⟩ : ∃ k : Nat, z = (k : Int) := Int.eq_ofNat_of_zero_le h0
  refine (make_ob k (by omega) ao len cap hns hcap hlen).mono ?_
  rintro e w' ⟨v, rfl, o, u, ho, hu, hb⟩
  exact ⟨v, rfl, o, k, u, ho, hu, hb⟩
theorem nil_same {w : World} (va vb : Value) (ha : va = .slice none 0 0) (hb : vb = .slice none 0 0) :
    Calls Try.prog 15 #[va, vb] w fun e w' => e = .returned (.bool true) ∧ Below w.heap.size w w' := by
  subst ha hb
  refine (refSame_any _ _ [] [] w (RC.nil _) (RC.nil _) (by simp) (by simp)).mono ?_
  rintro e w' ⟨rfl, hb⟩
  exact ⟨rfl, hb⟩

set_option maxRecDepth 100000 in
set_option maxHeartbeats 4000000 in
theorem ctwo_any (ao : Option Addr) (cap : Nat) (l : List UInt8) (aa : Option Addr) (la ca : Nat) (ab : Option Addr) (lb cb : Nat) (n : Int) (w : World) (hr : Reads w (.slice ao l.length cap) (B l)) (hm : l.length ≤ maxLen) (hna : NS w aa la) (hca : la ≤ ca) (hla : la ≤ 9223372036854775807) (hnb : NS w ab lb) (hcb : lb ≤ cb) (hlb : lb ≤ 9223372036854775807) :
    Calls Try.prog 3 #[.slice ao l.length cap, .slice aa la ca, .slice ab lb cb, .int .i64 n] w fun e w' => e = .returned (.bool true) ∧ Below w.heap.size w w' := by
  have HR := hid hr
  have HNa := hid hna
  have HNb := hid hnb
  have HM := hid hm
  clear hr hna hnb hm
  go_enter Try.func3, Try.ntmps3
  go_wp2_with fail
  refine (known5_any _).mono ?_
  rintro _ w1 ⟨rfl, hb⟩
  have Hb1 := hid hb
  clear hb
  go_wp2_with fail
  refine (Doc_any ao cap l _ (HR.out.later Hb1.out) HM.out).mono ?_
  rintro _ wx ⟨d, rfl, hd, rfl⟩
  go_wp2_with fail
  refine (make_ob d.size (by omega) _ _ _ (HNa.out.later Hb1.out) hca hla).mono ?_
  rintro _ w2 ⟨vx, rfl, ox, ux, ho, hux, hb⟩
  have Hb2 := hid (below_seq Hb1.out hb)
  have HOx2 := hid ho
  clear hb Hb1 ho
  go_wp2_with fail
  go_loopw [11] (fun i wr => ∃ j : Nat, j ≤ 2 ∧ i = .int .i64 j ∧ Below w.heap.size w wr ∧ Ob wr vx ox d.size ux) (fun i _ => 2 - (intOf i).toNat)
  case atStart => exact ⟨0, by omega, rfl, Hb2.out, HOx2.out⟩
  case round =>
    obtain ⟨j, hj, rfl, hbl, hx⟩ := hrel
    have Hb0 := hid hbl
    have HOx0 := hid hx
    clear hbl hx
    have hj3 : j = 0 ∨ j = 1 ∨ j = 2 := by omega
    clear hj
    rcases hj3 with rfl | rfl | rfl
    · go_wp2_with fail
      refine (rout_ob HOx0.out).mono ?_
      rintro _ wx ⟨rfl, rfl⟩
      go_wp2_with fail
      refine (make_ob ux (by omega) _ _ _ (HNb.out.later Hb0.out) hcb hlb).mono ?_
      rintro _ w1 ⟨vy, rfl, oy, uy, ho, huy, hb⟩
      have Hb1 := hid (below_seq Hb0.out hb)
      have HOx1 := hid (HOx0.out.later hb)
      have HOy1 := hid ho
      clear hb Hb0 HOx0 ho
      go_wp2_with fail
      refine (two_ob HOx1.out HOy1.out).mono ?_
      rintro _ w2 ⟨vz, rfl, ho, hb⟩
      have Hb2 := hid (below_seq Hb1.out hb)
      have HOx2 := hid (HOx1.out.later hb)
      have HOy2 := hid (HOy1.out.later hb)
      have HOz2 := hid ho
      clear hb Hb1 HOx1 HOy1 ho
      go_wp2_with fail
      refine (rtwo_ob HOx2.out HOy2.out).mono ?_
      rintro _ w3 ⟨vq, rfl, ho, hb⟩
      have Hb3 := hid (below_seq Hb2.out hb)
      have HOx3 := hid (HOx2.out.later hb)
      have HOy3 := hid (HOy2.out.later hb)
      have HOz3 := hid (HOz2.out.later hb)
      have HOq3 := hid ho
      clear hb Hb2 HOx2 HOy2 HOz2 ho
      go_wp2_with fail
      refine (rsame_ob HOz3.out HOq3.out rfl).mono ?_
      rintro _ w4 ⟨rfl, hb⟩
      have Hb4 := hid (below_seq Hb3.out hb)
      have HOx4 := hid (HOx3.out.later hb)
      have HOy4 := hid (HOy3.out.later hb)
      have HOz4 := hid (HOz3.out.later hb)
      have HOq4 := hid (HOq3.out.later hb)
      clear hb Hb3 HOx3 HOy3 HOz3 HOq3
      go_wp2_with fail
      go_roundw
      case rel => exact ⟨1, by omega, by go_num, Hb4.out, HOx4.out⟩
      case measure => simp [intOf]
    · go_wp2_with fail
      refine (rout_ob HOx0.out).mono ?_
      rintro _ wx ⟨rfl, rfl⟩
      go_wp2_with fail
      refine (make_ob ux (by omega) _ _ _ (HNb.out.later Hb0.out) hcb hlb).mono ?_
      rintro _ w1 ⟨vy0, rfl, oy0, uy0, ho, huy0, hb⟩
      clear ho
      have Hb1 := hid (below_seq Hb0.out hb)
      have HOx1 := hid (HOx0.out.later hb)
      clear hb
      go_upto_region 10 with fail
      go_cut [12] (fun s12 w' => ∃ (k : Nat) (v : Value) (o : List Cp) (uy : Nat), s12 = v ∧ Ob w' v o k uy ∧ uy ≤ 120 ∧ Below w1.heap.size w1 w')
      case first =>
        go_wp2_with fail
        all_goals
          refine (make_obz _ (by omega) (by omega) _ _ _ (HNb.out.later Hb1.out) hcb hlb).mono ?_
          rintro _ w2 ⟨vy, rfl, oy, ky, uy, ho, huy, hb⟩
          have HY := hid ho
          have HB2 := hid hb
          clear ho hb
          go_wp2_with fail
          go_meet
          case rel => exact ⟨_, _, oy, uy, rfl, HY.out, huy, HB2.out⟩
      case rest =>
      obtain ⟨k, vy, oy, uy, rfl, ho, huy, hb⟩ := hcut
      have Hb2 := hid (below_seq Hb1.out hb)
      have HOx2 := hid (HOx1.out.later hb)
      have HOy2 := hid ho
      clear ho hb Hb1 HOx1
      go_wp2_with fail
      by_cases hne : k = ux
      · subst hne
        refine (two_ob HOx2.out HOy2.out).mono ?_
        rintro _ w3 ⟨vz, rfl, ho, hb⟩
        have Hb3 := hid (below_seq Hb2.out hb)
        have HOx3 := hid (HOx2.out.later hb)
        have HOy3 := hid (HOy2.out.later hb)
        have HOz3 := hid ho
        clear hb Hb2 HOx2 HOy2 ho
        go_wp2_with fail
        refine (rtwo_ob HOx3.out HOy3.out).mono ?_
        rintro _ w4 ⟨vq, rfl, ho, hb⟩
        have Hb4 := hid (below_seq Hb3.out hb)
        have HOx4 := hid (HOx3.out.later hb)
        have HOy4 := hid (HOy3.out.later hb)
        have HOz4 := hid (HOz3.out.later hb)
        have HOq4 := hid ho
        clear hb Hb3 HOx3 HOy3 HOz3 ho
        go_wp2_with fail
        refine (rsame_ob HOz4.out HOq4.out rfl).mono ?_
        rintro _ w5 ⟨rfl, hb⟩
        have Hb5 := hid (below_seq Hb4.out hb)
        have HOx5 := hid (HOx4.out.later hb)
        have HOy5 := hid (HOy4.out.later hb)
        have HOz5 := hid (HOz4.out.later hb)
        have HOq5 := hid (HOq4.out.later hb)
        clear hb Hb4 HOx4 HOy4 HOz4 HOq4
        go_wp2_with fail
        go_roundw
        case rel => exact ⟨2, by omega, by go_num, Hb5.out, HOx5.out⟩
        case measure => simp [intOf]
      · skip
        refine (two_bad HOx2.out HOy2.out hne).mono ?_
        rintro _ w3 ⟨rfl, hb⟩
        have Hb3 := hid (below_seq Hb2.out hb)
        have HOx3 := hid (HOx2.out.later hb)
        have HOy3 := hid (HOy2.out.later hb)
        clear hb Hb2 HOx2 HOy2
        go_wp2_with fail
        refine (rtwo_bad HOx3.out HOy3.out hne).mono ?_
        rintro _ w4 ⟨rfl, hb⟩
        have Hb4 := hid (below_seq Hb3.out hb)
        have HOx4 := hid (HOx3.out.later hb)
        have HOy4 := hid (HOy3.out.later hb)
        clear hb Hb3 HOx3 HOy3
        go_wp2_with fail
        refine (nil_same _ _ rfl rfl).mono ?_
        rintro _ w5 ⟨rfl, hb⟩
        have Hb5 := hid (below_seq Hb4.out hb)
        have HOx5 := hid (HOx4.out.later hb)
        have HOy5 := hid (HOy4.out.later hb)
        clear hb Hb4 HOx4 HOy4
        go_wp2_with fail
        go_roundw
        case rel => exact ⟨2, by omega, by go_num, Hb5.out, HOx5.out⟩
        case measure => simp [intOf]
    · go_wp2_with fail
      go_ret
      exact ⟨rfl, Hb0.out⟩

theorem ctwo_row (a0 : Option Addr) (len0 cap0 : Nat) (z0 : List Int) (a1 : Option Addr) (len1 cap1 : Nat) (z1 : List Int) (a2 : Option Addr) (len2 cap2 : Nat) (z2 : List Int) (n : Int) (w : World) (w0 : IsRow .u8 w a0 len0 cap0 z0) (w1 : IsRow .i64 w a1 len1 cap1 z1) (w2 : IsRow .i64 w a2 len2 cap2 z2) :
    Calls Try.prog 3 #[.slice a0 len0 cap0, .slice a1 len1 cap1, .slice a2 len2 cap2, .int .i64 n] w fun e w' => e = .returned (.bool true) ∧ Below w.heap.size w w' := by
  obtain ⟨l, rfl, hm, hr⟩ := bytes_of_row w0
  exact ctwo_any a0 cap0 l a1 len1 cap1 a2 len2 cap2 n w hr hm (ns_of_row w1) (cap_of_row w1) (len_of_row w1) (ns_of_row w2) (cap_of_row w2) (len_of_row w2)
end Go.Proofs.Ytcghcocacbglbaa
