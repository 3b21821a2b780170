/- The law ComposeDoes: what is taken together does what both do, one behind the other. -/
import Derived.Test.YtcghcocacbglbaaOb5
import Derived.Test.YtcghcocacbglbaaDoc4
import Derived.Test.YtcghcocacbglbaaRefAppl
namespace Go.Proofs.Ytcghcocacbglbaa
open Go.RowKit
set_option linter.unusedSimpArgs false
set_option linter.unusedVariables false

theorem apply_ob {w : World} {v : Value} {o : List Cp} {i u : Nat} (d : ByteArray) (h : Ob w v o i u) (hd : d.size = i) (hu : u ≤ 120) :
    Calls Try.prog 16 #[.string d, v] w fun e w' => e = .returned (.tuple #[.string ⟨(applyS d.data.toList o).toArray⟩, .int .i64 0]) ∧ w' = w := by
  have h1 := h.ins
  have h2 := h.outs
  have h3 := h.hi
  refine (refApply_any d v o w h.rc h.fit h.good (by omega)).mono ?_
  rintro e w' ⟨rfl, rfl⟩
  rw [apS, if_neg (by omega), if_neg (by omega)]
  exact ⟨rfl, rfl⟩
theorem applied_size {o : List Cp} {i u : Nat} {w : World} {v : Value} (d : ByteArray) (h : Ob w v o i u) (hd : d.size = i) : (⟨(applyS d.data.toList o).toArray⟩ : ByteArray).size = u := by
  have h1 := applyS_length o d.data.toList h.good (by rw [h.ins]; rw [size_list] at hd; omega)
  have h2 := h.outs
  rw [size_list]
  simp only
  omega
theorem two_applied {w : World} {va vb : Value} {a b : List Cp} {i u t : Nat} (d : ByteArray) (ha : Ob w va a i u) (hb : Ob w vb b u t) (hd : d.size = i) :
    applyS d.data.toList (twoS a b) = applyS (⟨(applyS d.data.toList a).toArray⟩ : ByteArray).data.toList b := by
  have T := two_ta ha.good hb.good (by rw [hb.ins, ha.outs])
  have := T.acts UInt8 id d.data.toList (by rw [ha.ins]; rw [size_list] at hd; omega)
  rw [act_id, act_id, act_id] at this
  simpa using this

set_option maxRecDepth 100000 in
set_option maxHeartbeats 4000000 in
theorem does_any (ao : Option Addr) (cap : Nat) (l : List UInt8) (aa : Option Addr) (la ca : Nat) (ab : Option Addr) (lb cb : Nat) (w : World) (hr : Reads w (.slice ao l.length cap) (B l)) (hm : l.length ≤ maxLen) (hna : NS w aa la) (hca : la ≤ ca) (hla : la ≤ 9223372036854775807) (hnb : NS w ab lb) (hcb : lb ≤ cb) (hlb : lb ≤ 9223372036854775807) :
    Calls Try.prog 4 #[.slice ao l.length cap, .slice aa la ca, .slice ab lb cb] w fun e w' => e = .returned (.bool true) ∧ Below w.heap.size w w' := by
  have HR := hid hr
  have HNa := hid hna
  have HNb := hid hnb
  have HM := hid hm
  clear hr hna hnb hm
  go_enter Try.func4, Try.ntmps4
  go_wp2_with fail
  refine (known5_any _).mono ?_
  rintro _ w1 ⟨rfl, hb⟩
  have Hb1 := hid hb
  clear hb
  go_wp2_with fail
  refine (Doc_any ao cap l _ (HR.out.later Hb1.out) HM.out).mono ?_
  rintro _ wx ⟨d, rfl, hd, rfl⟩
  go_wp2_with fail
  refine (make_ob d.size (by omega) _ _ _ (HNa.out.later Hb1.out) hca hla).mono ?_
  rintro _ w2 ⟨vx, rfl, ox, ux, ho, hux, hb⟩
  have Hb2 := hid (below_seq Hb1.out hb)
  have HOx2 := hid ho
  clear hb Hb1 ho
  go_wp2_with fail
  refine (apply_ob d HOx2.out rfl hux).mono ?_
  rintro _ wx ⟨rfl, rfl⟩
  have hms := applied_size d HOx2.out rfl
  obtain ⟨m, hm⟩ : ∃ m : ByteArray, (⟨(applyS d.data.toList ox).toArray⟩ : ByteArray) = m := ⟨_, rfl⟩
  rw [hm] at hms ⊢
  have HMe := hid hm
  have HMS := hid hms
  clear hm hms
  go_wp2_with fail
  refine (make_ob m.size (by have := HMS.out; omega) _ _ _ (HNb.out.later Hb2.out) hcb hlb).mono ?_
  rintro _ w3 ⟨vy, rfl, oy, uy, ho, huy, hb⟩
  have Hb3 := hid (below_seq Hb2.out hb)
  have HOx3 := hid (HOx2.out.later hb)
  have HOy3 := hid ho
  clear hb Hb2 HOx2 ho
  go_wp2_with fail
  have HOy4 := hid (show Ob _ vy oy ux uy by rw [← HMS.out]; exact HOy3.out)
  have HOx4 := HOx3
  have Hb4 := Hb3
  refine (apply_ob m HOy4.out HMS.out huy).mono ?_
  rintro _ wx ⟨rfl, rfl⟩
  obtain ⟨r, hr⟩ : ∃ r : ByteArray, (⟨(applyS m.data.toList oy).toArray⟩ : ByteArray) = r := ⟨_, rfl⟩
  rw [hr]
  have HRe := hid hr
  clear hr
  go_wp2_with fail
  have HE := hid (show (⟨(applyS d.data.toList (twoS ox oy)).toArray⟩ : ByteArray) = r by rw [two_applied d HOx4.out HOy4.out rfl, ← HRe.out, ← HMe.out])
  refine (two_ob HOx4.out HOy4.out).mono ?_
  rintro _ w5 ⟨vz, rfl, ho, hb⟩
  have Hb5 := hid (below_seq Hb4.out hb)
  have HOx5 := hid (HOx4.out.later hb)
  have HOy5 := hid (HOy4.out.later hb)
  have HOz5 := hid ho
  clear hb Hb4 HOx4 HOy4 ho
  go_wp2_with fail
  refine (apply_ob d HOz5.out rfl huy).mono ?_
  rintro _ wx ⟨rfl, rfl⟩
  rw [HE.out]
  go_wp2_with fail
  go_ret
  exact ⟨rfl, Hb5.out⟩

theorem does_row (a0 : Option Addr) (len0 cap0 : Nat) (z0 : List Int) (a1 : Option Addr) (len1 cap1 : Nat) (z1 : List Int) (a2 : Option Addr) (len2 cap2 : Nat) (z2 : List Int) (w : World) (w0 : IsRow .u8 w a0 len0 cap0 z0) (w1 : IsRow .i64 w a1 len1 cap1 z1) (w2 : IsRow .i64 w a2 len2 cap2 z2) :
    Calls Try.prog 4 #[.slice a0 len0 cap0, .slice a1 len1 cap1, .slice a2 len2 cap2] w fun e w' => e = .returned (.bool true) ∧ Below w.heap.size w w' := by
  obtain ⟨l, rfl, hm, hr⟩ := bytes_of_row w0
  exact does_any a0 cap0 l a1 len1 cap1 a2 len2 cap2 w hr hm (ns_of_row w1) (cap_of_row w1) (len_of_row w1) (ns_of_row w2) (cap_of_row w2) (len_of_row w2)
end Go.Proofs.Ytcghcocacbglbaa
