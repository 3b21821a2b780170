/- The law OpApplies: any valid operation is done to any text as the second say does it, or refused. -/
import Derived.Test.YtmphckpmlkgkkaaDoc4
import Derived.Test.YtmphckpmlkgkkaaRefAppl
namespace Go.Proofs.Ytmphckpmlkgkkaa
open Go.RowKit
set_option linter.unusedSimpArgs false
set_option linter.unusedVariables false

set_option maxRecDepth 100000 in
set_option maxHeartbeats 4000000 in
theorem applies_any (ao : Option Addr) (cap : Nat) (l : List UInt8) (an : Option Addr) (len capn : Nat) (n : Int) (w : World) (hr : Reads w (.slice ao l.length cap) (B l)) (hm : l.length ≤ maxLen) (hns : NS w an len) (hcn : len ≤ capn) (hln : len ≤ 9223372036854775807) :
    Calls Try.prog 3 #[.slice ao l.length cap, .slice an len capn, .int .i64 n] w fun e w' => e = .returned (.bool true) ∧ Below w.heap.size w w' := by
  have HR := hid hr
  have HNS := hid hns
  have HM := hid hm
  clear hr hns hm
  go_enter Try.func3, Try.ntmps3
  go_wp2_with fail
  refine (known_any _).mono ?_
  rintro _ w1 ⟨rfl, hb1⟩
  have Hb1 := hid hb1
  clear hb1
  go_wp2_with fail
  refine (Doc_any ao cap l _ (HR.out.later Hb1.out) HM.out).mono ?_
  rintro _ w2 ⟨d, rfl, hd, rfl⟩
  go_wp2_with fail
  go_loopw [8] (fun i wr => ∃ j : Nat, j ≤ 2 ∧ i = .int .i64 j ∧ Below w.heap.size w wr) (fun i _ => 2 - (intOf i).toNat)
  case atStart => exact ⟨0, by omega, rfl, Hb1.out⟩
  case round =>
    obtain ⟨j, hj, rfl, hb⟩ := hrel
    have Hb := hid hb
    clear hb
    have hj3 : j = 0 ∨ j = 1 ∨ j = 2 := by omega
    clear hj
    rcases hj3 with rfl | rfl | rfl
    · go_wp2_with fail
      refine (Make_any d.size hd an len capn _ (HNS.out.later Hb.out) hcn hln).mono ?_
      rintro _ w3 ⟨v, rfl, o, hH, hb3, hM⟩
      obtain ⟨x, hx, hxs⟩ := apS_made hM
      obtain ⟨av, cv, rfl⟩ := hH.form
      have Hb3 := hid (below_seq Hb.out hb3)
      have HH := hid hH
      have HMd := hid hM
      have HX := hid hx
      have HXS := hid hxs
      have holn : o.length ≤ 14 := hM.len
      clear hb3 hH hM hx hxs
      go_wp2_with fail
      refine (Apply_any d _ o _ HH.out.reads HMd.out.fit HMd.out.good (by omega)).mono ?_
      rintro _ w4 ⟨rfl, hb4⟩
      rw [HX.out]
      have Hb4 := hid (below_seq Hb3.out hb4)
      have HH4 := hid (HH.out.later hb4)
      clear hb4
      go_wp2_with fail
      refine (refApply_any d _ o _ HH4.out.reads HMd.out.fit HMd.out.good (by omega)).mono ?_
      rintro _ w5 ⟨rfl, rfl⟩
      rw [HX.out]
      go_wp2_with fail
      refine (Out_any _ o _ HH4.out.reads HMd.out.fit).mono ?_
      rintro _ w6 ⟨rfl, hb6⟩
      rw [← HXS.out]
      have Hb6 := hid (below_seq Hb4.out hb6)
      clear hb6
      go_wp2_with fail
      go_roundw
      case rel => exact ⟨1, by omega, rfl, Hb6.out⟩
      case measure => simp [intOf]
    · go_wp2_with fail
      refine (Make_any d.size hd an len capn _ (HNS.out.later Hb.out) hcn hln).mono ?_
      rintro _ w3 ⟨v, rfl, o0, hH, hb3, _⟩
      obtain ⟨av, cv, rfl⟩ := hH.form
      have Hb3 := hid (below_seq Hb.out hb3)
      clear hb3 hH
      go_wp2_with fail
      refine (within_any n 100 (by omega) (by omega) _).mono ?_
      rintro _ w4 ⟨rfl, rfl⟩
      obtain ⟨q, hq⟩ : ∃ q : Nat, n % 100 = (q : Int) := Int.eq_ofNat_of_zero_le (by omega)
      have hq1 : q ≤ 100 := by omega
      rw [hq]
      clear hq
      go_wp2_with fail
      refine (Make_any q hq1 an len capn _ (HNS.out.later Hb3.out) hcn hln).mono ?_
      rintro _ w5 ⟨v, rfl, o, hH, hb5, hM⟩
      obtain ⟨av2, cv2, rfl⟩ := hH.form
      have Hb5 := hid (below_seq Hb3.out hb5)
      have HH := hid hH
      have HMd := hid hM
      have holn : o.length ≤ 14 := hM.len
      clear hb5 hH hM
      obtain ⟨⟨x, e⟩, hx⟩ : ∃ xe, apS d o = xe := ⟨_, rfl⟩
      have HX := hid hx
      clear hx
      go_wp2_with fail
      refine (Apply_any d _ o _ HH.out.reads HMd.out.fit HMd.out.good (by omega)).mono ?_
      rintro _ w6 ⟨rfl, hb6⟩
      rw [HX.out]
      have Hb6 := hid (below_seq Hb5.out hb6)
      have HH6 := hid (HH.out.later hb6)
      clear hb6
      go_wp2_with fail
      refine (refApply_any d _ o _ HH6.out.reads HMd.out.fit HMd.out.good (by omega)).mono ?_
      rintro _ w7 ⟨rfl, rfl⟩
      rw [HX.out]
      go_wp2_with fail
      go_roundw
      case rel => exact ⟨2, by omega, rfl, Hb6.out⟩
      case measure => simp [intOf]
    · go_wp2_with fail
      go_ret
      exact ⟨rfl, Hb.out⟩

theorem applies_row (a0 : Option Addr) (len0 cap0 : Nat) (z0 : List Int) (a1 : Option Addr) (len1 cap1 : Nat) (z1 : List Int) (a2 : Int) (w : World) (w0 : IsRow .u8 w a0 len0 cap0 z0) (w1 : IsRow .i64 w a1 len1 cap1 z1) :
    Calls Try.prog 3 #[.slice a0 len0 cap0, .slice a1 len1 cap1, .int .i64 a2] w fun e w' => e = .returned (.bool true) ∧ Below w.heap.size w w' := by
  obtain ⟨l, rfl, hm, hr⟩ := bytes_of_row w0
  exact applies_any a0 cap0 l a1 len1 cap1 a2 w hr hm (ns_of_row w1) (cap_of_row w1) (len_of_row w1)
end Go.Proofs.Ytmphckpmlkgkkaa
