/- The law OpNormals: Normal is as the second say writes it, does the same, and is Normal's own. -/
import Derived.Test.YtmphckpmlkgkkaaAppliesLaw
import Derived.Test.YtmphckpmlkgkkaaRefNormal
import Derived.Test.YtmphckpmlkgkkaaNormT
import Derived.Test.YtmphckpmlkgkkaaSame
import Derived.Test.YtmphckpmlkgkkaaChkV
namespace Go.Proofs.Ytmphckpmlkgkkaa
open Go.RowKit
set_option linter.unusedSimpArgs false
set_option linter.unusedVariables false

theorem norm_vals {o : List Cp} (h : Good o) (h1 : inS o ≤ 120) (h2 : outS o ≤ 120) : Vals (normS o) := by
  intro c hc
  have hg := norm_good h
  have hm := mem_le hg c hc
  rw [in_norm o h, out_norm o h] at hm
  rcases hg c hc with ⟨hk, hn, hs⟩ | ⟨hk, hn, hs⟩
  · refine .inl ⟨hk, hn, ?_, hs⟩
    rw [Cp.over, if_pos hk] at hm
    omega
  · refine .inr ⟨hk, hn, hs, ?_⟩
    rw [Cp.outl, if_neg (by omega)] at hm
    omega

set_option maxRecDepth 100000 in
set_option maxHeartbeats 4000000 in
theorem normals_any (ao : Option Addr) (cap : Nat) (l : List UInt8) (an : Option Addr) (len capn : Nat) (w : World) (hr : Reads w (.slice ao l.length cap) (B l)) (hm : l.length ≤ maxLen) (hns : NS w an len) (hcn : len ≤ capn) (hln : len ≤ 9223372036854775807) :
    Calls Try.prog 4 #[.slice ao l.length cap, .slice an len capn] w fun e w' => e = .returned (.bool true) ∧ Below w.heap.size w w' := by
  have HR := hid hr
  have HNS := hid hns
  have HM := hid hm
  clear hr hns hm
  go_enter Try.func4, Try.ntmps4
  go_wp2_with fail
  refine (known_any _).mono ?_
  rintro _ w1 ⟨rfl, hb1⟩
  have Hb1 := hid hb1
  clear hb1
  go_wp2_with fail
  refine (Doc_any ao cap l _ (HR.out.later Hb1.out) HM.out).mono ?_
  rintro _ w2 ⟨d, rfl, hd, rfl⟩
  go_wp2_with fail
  refine (Make_any d.size hd an len capn _ (HNS.out.later Hb1.out) hcn hln).mono ?_
  rintro _ w3 ⟨v, rfl, o, hH, hb3, hM⟩
  obtain ⟨x, hx, hxs⟩ := apS_made hM
  obtain ⟨av, cv, rfl⟩ := hH.form
  have Hb3 := hid (below_seq Hb1.out hb3)
  have HH := hid hH
  have HMd := hid hM
  have HX := hid hx
  have holn : o.length ≤ 14 := hM.len
  have HNV := hid (norm_vals hM.good (by have := hM.ins; omega) hM.outs)
  have HNL := hid (show (normS o).length ≤ 14 from Nat.le_trans (len_norm o) hM.len)
  have HNX := hid (show apS d (normS o) = (x, 0) by rw [norm_apS hM.good, hx])
  have HNN := hid (norm_norm o)
  have HNI := hid (in_norm o hM.good)
  have HNO := hid (out_norm o hM.good)
  have HOU := hid (show outS o ≤ 1099511627776 by have := hM.outs; omega)
  clear hb3 hH hM hx hxs
  go_wp2_with fail
  refine (Normal_any _ o _ HH.out.reads HMd.out.fit HMd.out.good HOU.out).mono ?_
  rintro _ w4 ⟨v4, rfl, hH4, hb4⟩
  have HH4 := hid (HH.out.later hb4)
  have Hb4 := hid (below_seq Hb3.out hb4)
  have hH4' := hH4.mono (Nat.le_refl _)
  obtain ⟨n, hn⟩ : ∃ n, normS o = n := ⟨_, rfl⟩
  rw [hn] at HNV HNL HNX HNN HNI HNO hH4 hH4'
  have HN := hid hn
  obtain ⟨an4, cn4, rfl⟩ := hH4.form
  have HN4 := hid hH4
  clear hb4 hH4 hH4' HH hn
  go_wp2_with fail
  refine (Apply_any d _ o _ HH4.out.reads HMd.out.fit HMd.out.good (by omega)).mono ?_
  rintro _ w5 ⟨rfl, hb5⟩
  rw [HX.out]
  have HH5 := hid (HH4.out.later hb5)
  have HN5 := hid (HN4.out.later hb5)
  have Hb5 := hid (below_seq Hb4.out hb5)
  clear hb5 HH4 HN4
  go_wp2_with fail
  refine (Apply_any d _ n _ HN5.out.reads (HNV.out.fit (by have := HNL.out; omega)) HNV.out.good (by omega)).mono ?_
  rintro _ w6 ⟨rfl, hb6⟩
  rw [HNX.out]
  have HH6 := hid (HH5.out.later hb6)
  have HN6 := hid (HN5.out.later hb6)
  have Hb6 := hid (below_seq Hb5.out hb6)
  clear hb6 HH5 HN5
  go_wp2_with fail
  refine (refNormal_any _ o _ HH6.out.reads HMd.out.fit HMd.out.good).mono ?_
  rintro _ w7 ⟨v7, rfl, hH7, hb7⟩
  rw [HN.out] at hH7
  obtain ⟨a7, c7, rfl⟩ := hH7.form
  have HR7 := hid hH7
  have HH7 := hid (HH6.out.later hb7)
  have HN7 := hid (HN6.out.later hb7)
  have Hb7 := hid (below_seq Hb6.out hb7)
  clear hb7 HH6 HN6 hH7
  go_wp2_with fail
  refine (Same_any _ _ n n _ HN7.out.reads HR7.out.reads (by have := HNL.out; omega) (by have := HNL.out; omega)).mono ?_
  rintro _ w8 ⟨rfl, hb8⟩
  rw [sameL_self]
  have HH8 := hid (HH7.out.later hb8)
  have HN8 := hid (HN7.out.later hb8)
  have Hb8 := hid (below_seq Hb7.out hb8)
  clear hb8 HH7 HN7 HR7
  go_wp2_with fail
  refine (Normal_any _ n _ HN8.out.reads (HNV.out.fit (by have := HNL.out; omega)) HNV.out.good (by rw [HNO.out]; exact HOU.out)).mono ?_
  rintro _ w9 ⟨v9, rfl, hH9, hb9⟩
  rw [HNN.out] at hH9
  obtain ⟨a9, c9, rfl⟩ := hH9.form
  have HR9 := hid hH9
  have HH9 := hid (HH8.out.later hb9)
  have HN9 := hid (HN8.out.later hb9)
  have Hb9 := hid (below_seq Hb8.out hb9)
  clear hb9 HH8 HN8 hH9
  go_wp2_with fail
  refine (Same_any _ _ n n _ HR9.out.reads HN9.out.reads (by have := HNL.out; omega) (by have := HNL.out; omega)).mono ?_
  rintro _ w10 ⟨rfl, hb10⟩
  rw [sameL_self]
  have HH10 := hid (HH9.out.later hb10)
  have HN10 := hid (HN9.out.later hb10)
  have Hb10 := hid (below_seq Hb9.out hb10)
  clear hb10 HH9 HN9 HR9
  go_wp2_with fail
  refine (In_any _ n _ HN10.out.reads (HNV.out.fit (by have := HNL.out; omega))).mono ?_
  rintro _ w11 ⟨rfl, hb11⟩
  rw [HNI.out]
  have HH11 := hid (HH10.out.later hb11)
  have HN11 := hid (HN10.out.later hb11)
  have Hb11 := hid (below_seq Hb10.out hb11)
  clear hb11 HH10 HN10
  go_wp2_with fail
  refine (In_any _ o _ HH11.out.reads HMd.out.fit).mono ?_
  rintro _ w12 ⟨rfl, hb12⟩
  have HH12 := hid (HH11.out.later hb12)
  have HN12 := hid (HN11.out.later hb12)
  have Hb12 := hid (below_seq Hb11.out hb12)
  clear hb12 HH11 HN11
  go_wp2_with fail
  refine (Out_any _ n _ HN12.out.reads (HNV.out.fit (by have := HNL.out; omega))).mono ?_
  rintro _ w13 ⟨rfl, hb13⟩
  rw [HNO.out]
  have HH13 := hid (HH12.out.later hb13)
  have HN13 := hid (HN12.out.later hb13)
  have Hb13 := hid (below_seq Hb12.out hb13)
  clear hb13 HH12 HN12
  go_wp2_with fail
  refine (Out_any _ o _ HH13.out.reads HMd.out.fit).mono ?_
  rintro _ w14 ⟨rfl, hb14⟩
  have HN14 := hid (HN13.out.later hb14)
  have Hb14 := hid (below_seq Hb13.out hb14)
  clear hb14 HH13 HN13
  go_wp2_with fail
  refine (Check_any _ n _ HN14.out.reads (fun c hc => by rcases HNV.out c hc with ⟨_, _, _, h⟩ | ⟨_, _, _, h⟩ <;> omega) (by have := HNL.out; omega)).mono ?_
  rintro _ w15 ⟨rfl, hb15⟩
  rw [chkS_val HNV.out (by have := HNL.out; omega)]
  have Hb15 := hid (below_seq Hb14.out hb15)
  clear hb15 HN14
  go_wp2_with fail
  go_ret
  exact ⟨rfl, Hb15.out⟩

theorem normals_row (a0 : Option Addr) (len0 cap0 : Nat) (z0 : List Int) (a1 : Option Addr) (len1 cap1 : Nat) (z1 : List Int) (w : World) (w0 : IsRow .u8 w a0 len0 cap0 z0) (w1 : IsRow .i64 w a1 len1 cap1 z1) :
    Calls Try.prog 4 #[.slice a0 len0 cap0, .slice a1 len1 cap1] w fun e w' => e = .returned (.bool true) ∧ Below w.heap.size w w' := by
  obtain ⟨l, rfl, hm, hr⟩ := bytes_of_row w0
  exact normals_any a0 cap0 l a1 len1 cap1 w hr hm (ns_of_row w1) (cap_of_row w1) (len_of_row w1)
end Go.Proofs.Ytmphckpmlkgkkaa
