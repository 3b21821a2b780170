/- The law TransformMeets: the one and then the other one, led over it, make the same as the other way about. -/
import Derived.Test.YtlgdllbhddnokaaKnown7
import Derived.Test.YtlgdllbhddnokaaObV
namespace Go.Proofs.Ytlgdllbhddnokaa
open Go.RowKit
set_option linter.unusedSimpArgs false
set_option linter.unusedVariables false

set_option maxRecDepth 100000 in
set_option maxHeartbeats 4000000 in
theorem tmeets_any (ao : Option Addr) (cap : Nat) (l : List UInt8) (aa : Option Addr) (la ca : Nat) (ab : Option Addr) (lb cb : Nat) (w : World) (hr : Reads w (.slice ao l.length cap) (B l)) (hm : l.length ≤ maxLen) (hna : NS w aa la) (hca : la ≤ ca) (hla : la ≤ 9223372036854775807) (hnb : NS w ab lb) (hcb : lb ≤ cb) (hlb : lb ≤ 9223372036854775807) :
    Calls Try.prog 4 #[.slice ao l.length cap, .slice aa la ca, .slice ab lb cb] w fun e w' => e = .returned (.bool true) ∧ Below w.heap.size w w' := by
  have HR := hid hr
  have HM := hid hm
  have HNa := hid hna
  have HNb := hid hnb
  clear hr hm hna hnb
  go_enter Try.func4, Try.ntmps4
  go_wp2_with fail
  refine (known7_any _).mono ?_
  rintro _ w1 ⟨rfl, hb⟩
  have Hb1 := hid hb
  clear hb
  go_wp2_with fail
  refine (few_any ao cap l _ (HR.out.later Hb1.out) HM.out).mono ?_
  rintro _ wx ⟨d, rfl, hd, rfl⟩
  go_wp2_with fail
  refine (make_ob d.size (by omega) _ _ _ (HNa.out.later Hb1.out) hca hla).mono ?_
  rintro _ w2 ⟨vx, rfl, ox, ux, ho, hux, hb⟩
  have Hb2 := hid (below_seq Hb1.out hb)
  have HOx2 := hid ho
  clear hb Hb1 ho
  go_wp2_with fail
  refine (make_ob d.size (by omega) _ _ _ (HNb.out.later Hb2.out) hcb hlb).mono ?_
  rintro _ w3 ⟨vy, rfl, oy, uy, ho, huy, hb⟩
  have Hb3 := hid (below_seq Hb2.out hb)
  have HOx3 := hid (HOx2.out.later hb)
  have HOy3 := hid ho
  clear hb Hb2 HOx2 ho
  go_wp2_with fail
  obtain ⟨X, Y, r, hP, hr⟩ := px_ex HOx3.out.good HOy3.out.good (by rw [HOx3.out.ins, HOy3.out.ins])
  rw [HOx3.out.outs, HOy3.out.outs] at hr
  have HP := hid hP
  have hs : r ≤ 400 := by omega
  clear hP
  refine (pair_ob HOx3.out HOy3.out HP.out hs).mono ?_
  rintro _ w4 ⟨vp, vq, rfl, ho, ho2, hb⟩
  have Hb4 := hid (below_seq Hb3.out hb)
  have HOx4 := hid (HOx3.out.later hb)
  have HOy4 := hid (HOy3.out.later hb)
  have HOp4 := hid ho
  have HOq4 := hid ho2
  clear hb Hb3 HOx3 HOy3 ho ho2
  go_wp2_with fail
  refine (apply_ob d HOx4.out rfl hux).mono ?_
  rintro _ wx ⟨rfl, rfl⟩
  have hms := applied_size d HOx4.out rfl
  obtain ⟨m, hm⟩ : ∃ bz : ByteArray, (⟨(applyS d.data.toList ox).toArray⟩ : ByteArray) = bz := ⟨_, rfl⟩
  rw [hm] at hms ⊢
  have HMe := hid hm
  have HMS := hid hms
  clear hm hms
  go_wp2_with fail
  refine (apply_ob d HOy4.out rfl huy).mono ?_
  rintro _ wx ⟨rfl, rfl⟩
  have hms := applied_size d HOy4.out rfl
  obtain ⟨f, hm⟩ : ∃ bz : ByteArray, (⟨(applyS d.data.toList oy).toArray⟩ : ByteArray) = bz := ⟨_, rfl⟩
  rw [hm] at hms ⊢
  have HFe := hid hm
  have HFS := hid hms
  clear hm hms
  go_wp2_with fail
  by_cases hl : r ≤ 120
  · skip
    have HE := hid (show (⟨(applyS m.data.toList (normS Y)).toArray⟩ : ByteArray) = ⟨(applyS f.data.toList (normS X)).toArray⟩ by
      rw [← HMe.out, ← HFe.out]
      show (⟨(applyS (applyS d.data.toList ox) (normS Y)).toArray⟩ : ByteArray) = ⟨(applyS (applyS d.data.toList oy) (normS X)).toArray⟩
      rw [HP.out.meets HOx4.out.good HOy4.out.good d.data.toList (by rw [HOx4.out.ins]; simp)])
    refine (apply_ob m HOq4.out HMS.out hl).mono ?_
    rintro _ wx ⟨rfl, rfl⟩
    rw [HE.out]
    go_wp2_with fail
    refine (apply_ob f HOp4.out HFS.out hl).mono ?_
    rintro _ wx ⟨rfl, rfl⟩
    generalize (⟨(applyS f.data.toList (normS X)).toArray⟩ : ByteArray) = z
    go_wp2_with fail
    go_ret
    exact ⟨rfl, Hb4.out⟩
  · skip
    have hgt : (120 : Int) < (r : Int) := by omega
    refine (apply_long m HOq4.out HMS.out (by omega)).mono ?_
    rintro _ wx ⟨rfl, rfl⟩
    go_wp2_with fail
    refine (apply_long f HOp4.out HFS.out (by omega)).mono ?_
    rintro _ wx ⟨rfl, rfl⟩
    go_wp2_with fail
    refine (rout_ob HOq4.out).mono ?_
    rintro _ wx ⟨rfl, rfl⟩
    go_wp2_with fail
    go_ret
    exact ⟨rfl, Hb4.out⟩

theorem tmeets_row (a0 : Option Addr) (len0 cap0 : Nat) (z0 : List Int) (a1 : Option Addr) (len1 cap1 : Nat) (z1 : List Int) (a2 : Option Addr) (len2 cap2 : Nat) (z2 : List Int) (w : World) (w0 : IsRow .u8 w a0 len0 cap0 z0) (w1 : IsRow .i64 w a1 len1 cap1 z1) (w2 : IsRow .i64 w a2 len2 cap2 z2) :
    Calls Try.prog 4 #[.slice a0 len0 cap0, .slice a1 len1 cap1, .slice a2 len2 cap2] w fun e w' => e = .returned (.bool true) ∧ Below w.heap.size w w' := by
  obtain ⟨l, rfl, hm, hr⟩ := bytes_of_row w0
  exact tmeets_any a0 cap0 l a1 len1 cap1 a2 len2 cap2 w hr hm (ns_of_row w1) (cap_of_row w1) (len_of_row w1) (ns_of_row w2) (cap_of_row w2) (len_of_row w2)
end Go.Proofs.Ytlgdllbhddnokaa
