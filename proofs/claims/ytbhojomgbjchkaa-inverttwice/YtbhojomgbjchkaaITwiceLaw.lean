/- The law InvertTwice: turned about twice an operation does what it did; two are undone from the last one on. -/
import Derived.Test.YtbhojomgbjchkaaObI
import Derived.Test.YtbhojomgbjchkaaObA
import Derived.Test.YtbhojomgbjchkaaDoc4
import Derived.Test.YtbhojomgbjchkaaRTwo
namespace Go.Proofs.Ytbhojomgbjchkaa
open Go.RowKit
set_option linter.unusedSimpArgs false
set_option linter.unusedVariables false

set_option maxRecDepth 100000 in
set_option maxHeartbeats 4000000 in
theorem itwice_any (ao : Option Addr) (cap : Nat) (l : List UInt8) (aa : Option Addr) (la ca : Nat) (ab : Option Addr) (lb cb : Nat) (w : World) (hr : Reads w (.slice ao l.length cap) (B l)) (hm : l.length ≤ maxLen) (hna : NS w aa la) (hca : la ≤ ca) (hla : la ≤ 9223372036854775807) (hnb : NS w ab lb) (hcb : lb ≤ cb) (hlb : lb ≤ 9223372036854775807) :
    Calls Try.prog 5 #[.slice ao l.length cap, .slice aa la ca, .slice ab lb cb] w fun e w' => e = .returned (.bool true) ∧ Below w.heap.size w w' := by
  have HR := hid hr
  have HM := hid hm
  have HNa := hid hna
  have HNb := hid hnb
  clear hr hm hna hnb
  go_enter Try.func5, Try.ntmps5
  go_wp2_with fail
  refine (known6_any _).mono ?_
  rintro _ w1 ⟨rfl, hb⟩
  have Hb1 := hid hb
  clear hb
  go_wp2_with fail
  refine (Doc_any ao cap l _ (HR.out.later Hb1.out) HM.out).mono ?_
  rintro _ wx ⟨d, rfl, hd, rfl⟩
  go_wp2_with fail
  refine (make_ob d.size (by omega) _ _ _ (HNa.out.later Hb1.out) hca hla).mono ?_
  rintro _ w2 ⟨vx, rfl, ox, ux, ho, hux, hb⟩
  have Hb2 := hid (below_seq Hb1.out hb)
  have HOx2 := hid ho
  clear hb Hb1 ho
  go_wp2_with fail
  refine (apply_ob d HOx2.out rfl hux).mono ?_
  rintro _ wx ⟨rfl, rfl⟩
  have hms := applied_size d HOx2.out rfl
  obtain ⟨m, hm⟩ : ∃ bz : ByteArray, (⟨(applyS d.data.toList ox).toArray⟩ : ByteArray) = bz := ⟨_, rfl⟩
  rw [hm] at hms ⊢
  have HMe := hid hm
  have HMS := hid hms
  clear hm hms
  go_wp2_with fail
  refine (make_ob m.size (by have := HMS.out; omega) _ _ _ (HNb.out.later Hb2.out) hcb hlb).mono ?_
  rintro _ w3 ⟨vy, rfl, oy, uy, ho, huy, hb⟩
  have Hb3 := hid (below_seq Hb2.out hb)
  have HOx3 := hid (HOx2.out.later hb)
  have HOy3 := hid ho
  clear hb Hb2 HOx2 ho
  go_wp2_with fail
  refine (apply_ob m HOy3.out rfl huy).mono ?_
  rintro _ wx ⟨rfl, rfl⟩
  have hms := applied_size m HOy3.out rfl
  obtain ⟨r, hm⟩ : ∃ bz : ByteArray, (⟨(applyS m.data.toList oy).toArray⟩ : ByteArray) = bz := ⟨_, rfl⟩
  rw [hm] at hms ⊢
  have HRe := hid hm
  have HRS := hid hms
  clear hm hms
  go_wp2_with fail
  have HB := hid (inv_applied d m HOx3.out rfl HMe.out)
  have HB2 := hid (inv_applied m r HOy3.out rfl HRe.out)
  refine (inv_ob d HOx3.out rfl).mono ?_
  rintro _ w4 ⟨vp, rfl, ho, hb⟩
  obtain ⟨op, hop⟩ : ∃ o, invS d ox = o := ⟨_, rfl⟩
  rw [hop] at ho
  have HIp := hid hop
  clear hop
  have Hb4 := hid (below_seq Hb3.out hb)
  have HOx4 := hid (HOx3.out.later hb)
  have HOy4 := hid (HOy3.out.later hb)
  have HOp4 := hid ho
  clear hb Hb3 HOx3 HOy3 ho
  go_wp2_with fail
  rw [HIp.out] at HB
  have HB3 := hid (inv_applied m d HOp4.out HMS.out HB.out)
  refine (inv_ob m HOp4.out HMS.out).mono ?_
  rintro _ w5 ⟨vq, rfl, ho, hb⟩
  obtain ⟨oq, hoq⟩ : ∃ o, invS m op = o := ⟨_, rfl⟩
  rw [hoq] at ho
  have HIq := hid hoq
  clear hoq
  have Hb5 := hid (below_seq Hb4.out hb)
  have HOx5 := hid (HOx4.out.later hb)
  have HOy5 := hid (HOy4.out.later hb)
  have HOp5 := hid (HOp4.out.later hb)
  have HOq5 := hid ho
  clear hb Hb4 HOx4 HOy4 HOp4 ho
  go_wp2_with fail
  rw [HIq.out] at HB3
  refine (apply_ob d HOq5.out rfl (by omega)).mono ?_
  rintro _ wx ⟨rfl, rfl⟩
  rw [HB3.out]
  go_wp2_with fail
  refine (inv_ob m HOy5.out rfl).mono ?_
  rintro _ w6 ⟨vz, rfl, ho, hb⟩
  obtain ⟨oz, hoz⟩ : ∃ o, invS m oy = o := ⟨_, rfl⟩
  rw [hoz] at ho
  have HIz := hid hoz
  clear hoz
  have Hb6 := hid (below_seq Hb5.out hb)
  have HOx6 := hid (HOx5.out.later hb)
  have HOy6 := hid (HOy5.out.later hb)
  have HOp6 := hid (HOp5.out.later hb)
  have HOq6 := hid (HOq5.out.later hb)
  have HOz6 := hid ho
  clear hb Hb5 HOx5 HOy5 HOp5 HOq5 ho
  go_wp2_with fail
  rw [HIz.out] at HB2
  have HZ := hid (show Ob w6 vz oz uy ux by rw [← HMS.out]; exact HOz6.out)
  have HE := hid (show (⟨(applyS r.data.toList (twoS oz op)).toArray⟩ : ByteArray) = d by rw [two_applied r HZ.out HOp6.out HRS.out, HB2.out, HB.out])
  refine (refTwo_any vz vp oz op _ _ _ _ _ HZ.out HOp6.out).mono ?_
  rintro _ w7 ⟨_, ht, hb⟩
  obtain ⟨vt, rfl, ho⟩ := ht rfl
  clear ht HZ
  have Hb7 := hid (below_seq Hb6.out hb)
  have HOx7 := hid (HOx6.out.later hb)
  have HOy7 := hid (HOy6.out.later hb)
  have HOp7 := hid (HOp6.out.later hb)
  have HOq7 := hid (HOq6.out.later hb)
  have HOz7 := hid (HOz6.out.later hb)
  have HOt7 := hid ho
  clear hb Hb6 HOx6 HOy6 HOp6 HOq6 HOz6 ho
  go_wp2_with fail
  refine (apply_ob r HOt7.out HRS.out (by omega)).mono ?_
  rintro _ wx ⟨rfl, rfl⟩
  rw [HE.out]
  go_wp2_with fail
  go_ret
  exact ⟨rfl, Hb7.out⟩

theorem itwice_row (a0 : Option Addr) (len0 cap0 : Nat) (z0 : List Int) (a1 : Option Addr) (len1 cap1 : Nat) (z1 : List Int) (a2 : Option Addr) (len2 cap2 : Nat) (z2 : List Int) (w : World) (w0 : IsRow .u8 w a0 len0 cap0 z0) (w1 : IsRow .i64 w a1 len1 cap1 z1) (w2 : IsRow .i64 w a2 len2 cap2 z2) :
    Calls Try.prog 5 #[.slice a0 len0 cap0, .slice a1 len1 cap1, .slice a2 len2 cap2] w fun e w' => e = .returned (.bool true) ∧ Below w.heap.size w w' := by
  obtain ⟨l, rfl, hm, hr⟩ := bytes_of_row w0
  exact itwice_any a0 cap0 l a1 len1 cap1 a2 len2 cap2 w hr hm (ns_of_row w1) (cap_of_row w1) (len_of_row w1) (ns_of_row w2) (cap_of_row w2) (len_of_row w2)
end Go.Proofs.Ytbhojomgbjchkaa
