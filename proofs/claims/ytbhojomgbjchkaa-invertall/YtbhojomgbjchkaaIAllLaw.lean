/- The law InvertAll: any operation over any text is turned about as the second say does it, or refused. -/
import Derived.Test.YtbhojomgbjchkaaObI
import Derived.Test.YtbhojomgbjchkaaObJ
import Derived.Test.YtbhojomgbjchkaaObZ
import Derived.Test.YtbhojomgbjchkaaDoc4
import Derived.Deep.DeepCutAuto
namespace Go.Proofs.Ytbhojomgbjchkaa
open Go.RowKit
set_option linter.unusedSimpArgs false
set_option linter.unusedVariables false

set_option maxRecDepth 100000 in
set_option maxHeartbeats 4000000 in
theorem iall_any (ao : Option Addr) (cap : Nat) (l : List UInt8) (aa : Option Addr) (la ca : Nat) (n : Int) (w : World) (hr : Reads w (.slice ao l.length cap) (B l)) (hm : l.length ≤ maxLen) (hna : NS w aa la) (hca : la ≤ ca) (hla : la ≤ 9223372036854775807) :
    Calls Try.prog 3 #[.slice ao l.length cap, .slice aa la ca, .int .i64 n] w fun e w' => e = .returned (.bool true) ∧ Below w.heap.size w w' := by
  have HR := hid hr
  have HM := hid hm
  have HNa := hid hna
  clear hr hm hna
  go_enter Try.func3, Try.ntmps3
  go_wp2_with fail
  refine (known6_any _).mono ?_
  rintro _ w1 ⟨rfl, hb⟩
  have Hb1 := hid hb
  clear hb
  go_wp2_with fail
  refine (Doc_any ao cap l _ (HR.out.later Hb1.out) HM.out).mono ?_
  rintro _ wx ⟨d, rfl, hd, rfl⟩
  go_wp2_with fail
  go_loopw [8] (fun i wr => ∃ j : Nat, j ≤ 2 ∧ i = .int .i64 j ∧ Below w.heap.size w wr) (fun i _ => 2 - (intOf i).toNat)
  case atStart => exact ⟨0, by omega, rfl, Hb1.out⟩
  case round =>
    obtain ⟨j, hj, rfl, hbl⟩ := hrel
    have Hb0 := hid hbl
    clear hbl
    have hj3 : j = 0 ∨ j = 1 ∨ j = 2 := by omega
    clear hj
    rcases hj3 with rfl | rfl | rfl
    · go_wp2_with fail
      refine (make_ob d.size (by omega) _ _ _ (HNa.out.later Hb0.out) hca hla).mono ?_
      rintro _ w1 ⟨vx, rfl, ox, ux, ho, hux, hb⟩
      have Hb1 := hid (below_seq Hb0.out hb)
      have HOx1 := hid ho
      clear hb Hb0 ho
      go_wp2_with fail
      refine (inv_ob d HOx1.out rfl).mono ?_
      rintro _ w2 ⟨vy, rfl, ho, hb⟩
      have Hb2 := hid (below_seq Hb1.out hb)
      have HOx2 := hid (HOx1.out.later hb)
      have HOy2 := hid ho
      clear hb Hb1 HOx1 ho
      go_wp2_with fail
      refine (rinv_ob d HOx2.out rfl).mono ?_
      rintro _ w3 ⟨vz, rfl, ho, hb⟩
      have Hb3 := hid (below_seq Hb2.out hb)
      have HOx3 := hid (HOx2.out.later hb)
      have HOy3 := hid (HOy2.out.later hb)
      have HOz3 := hid ho
      clear hb Hb2 HOx2 HOy2 ho
      go_wp2_with fail
      refine (rsame_ob HOy3.out HOz3.out rfl).mono ?_
      rintro _ w4 ⟨rfl, hb⟩
      have Hb4 := hid (below_seq Hb3.out hb)
      have HOx4 := hid (HOx3.out.later hb)
      have HOy4 := hid (HOy3.out.later hb)
      have HOz4 := hid (HOz3.out.later hb)
      clear hb Hb3 HOx3 HOy3 HOz3
      go_wp2_with fail
      go_roundw
      case rel => exact ⟨1, by omega, by go_num, Hb4.out⟩
      case measure => simp [intOf]
    · go_wp2_with fail
      refine (make_ob d.size (by omega) _ _ _ (HNa.out.later Hb0.out) hca hla).mono ?_
      rintro _ w1 ⟨vy0, rfl, oy0, uy0, ho, huy0, hb⟩
      clear ho
      have Hb1 := hid (below_seq Hb0.out hb)
      clear hb
      go_upto_region 9 with fail
      go_cut [9] (fun s9 w' => ∃ (k : Nat) (v : Value) (o : List Cp) (ux : Nat), s9 = v ∧ Ob w' v o k ux ∧ ux ≤ 120 ∧ Below w1.heap.size w1 w')
      case first =>
        go_wp2_with fail
        all_goals
          refine (make_obz _ (by omega) (by omega) _ _ _ (HNa.out.later Hb1.out) hca hla).mono ?_
          rintro _ w2 ⟨vx, rfl, ox, kx, ux, ho, hux, hb⟩
          have HX := hid ho
          have HB2 := hid hb
          clear ho hb
          go_wp2_with fail
          go_meet
          case rel => exact ⟨_, _, ox, ux, rfl, HX.out, hux, HB2.out⟩
      case rest =>
      obtain ⟨k, vx, ox, ux, rfl, ho, hux, hb⟩ := hcut
      have Hb2 := hid (below_seq Hb1.out hb)
      have HOx2 := hid ho
      clear ho hb Hb1
      go_wp2_with fail
      by_cases hne : d.size = k
      · skip
        skip
        refine (inv_ob d HOx2.out hne).mono ?_
        rintro _ w3 ⟨vy, rfl, ho, hb⟩
        have Hb3 := hid (below_seq Hb2.out hb)
        have HOx3 := hid (HOx2.out.later hb)
        have HOy3 := hid ho
        clear hb Hb2 HOx2 ho
        go_wp2_with fail
        refine (rinv_ob d HOx3.out hne).mono ?_
        rintro _ w4 ⟨vz, rfl, ho, hb⟩
        have Hb4 := hid (below_seq Hb3.out hb)
        have HOx4 := hid (HOx3.out.later hb)
        have HOy4 := hid (HOy3.out.later hb)
        have HOz4 := hid ho
        clear hb Hb3 HOx3 HOy3 ho
        go_wp2_with fail
        refine (rsame_ob HOy4.out HOz4.out rfl).mono ?_
        rintro _ w5 ⟨rfl, hb⟩
        have Hb5 := hid (below_seq Hb4.out hb)
        have HOx5 := hid (HOx4.out.later hb)
        have HOy5 := hid (HOy4.out.later hb)
        have HOz5 := hid (HOz4.out.later hb)
        clear hb Hb4 HOx4 HOy4 HOz4
        go_wp2_with fail
        go_roundw
        case rel => exact ⟨2, by omega, by go_num, Hb5.out⟩
        case measure => simp [intOf]
      · skip
        refine (inv_bad d HOx2.out hne (by omega)).mono ?_
        rintro _ w3 ⟨rfl, hb⟩
        have Hb3 := hid (below_seq Hb2.out hb)
        have HOx3 := hid (HOx2.out.later hb)
        clear hb Hb2 HOx2
        go_wp2_with fail
        refine (rinv_bad d HOx3.out hne (by omega)).mono ?_
        rintro _ w4 ⟨rfl, hb⟩
        have Hb4 := hid (below_seq Hb3.out hb)
        have HOx4 := hid (HOx3.out.later hb)
        clear hb Hb3 HOx3
        go_wp2_with fail
        refine (nil_same _ _ rfl rfl).mono ?_
        rintro _ w5 ⟨rfl, hb⟩
        have Hb5 := hid (below_seq Hb4.out hb)
        have HOx5 := hid (HOx4.out.later hb)
        clear hb Hb4 HOx4
        go_wp2_with fail
        go_roundw
        case rel => exact ⟨2, by omega, by go_num, Hb5.out⟩
        case measure => simp [intOf]
    · go_wp2_with fail
      go_ret
      exact ⟨rfl, Hb0.out⟩

theorem iall_row (a0 : Option Addr) (len0 cap0 : Nat) (z0 : List Int) (a1 : Option Addr) (len1 cap1 : Nat) (z1 : List Int) (n : Int) (w : World) (w0 : IsRow .u8 w a0 len0 cap0 z0) (w1 : IsRow .i64 w a1 len1 cap1 z1) :
    Calls Try.prog 3 #[.slice a0 len0 cap0, .slice a1 len1 cap1, .int .i64 n] w fun e w' => e = .returned (.bool true) ∧ Below w.heap.size w w' := by
  obtain ⟨l, rfl, hm, hr⟩ := bytes_of_row w0
  exact iall_any a0 cap0 l a1 len1 cap1 n w hr hm (ns_of_row w1) (cap_of_row w1) (len_of_row w1)
end Go.Proofs.Ytbhojomgbjchkaa
