/- The law InvertBack: done behind the operation, what undoes it leaves the text. -/
import Derived.Test.YtbhojomgbjchkaaObI
import Derived.Test.YtbhojomgbjchkaaObA
import Derived.Test.YtbhojomgbjchkaaDoc4
namespace Go.Proofs.Ytbhojomgbjchkaa
open Go.RowKit
set_option linter.unusedSimpArgs false
set_option linter.unusedVariables false

set_option maxRecDepth 100000 in
set_option maxHeartbeats 4000000 in
theorem iback_any (ao : Option Addr) (cap : Nat) (l : List UInt8) (aa : Option Addr) (la ca : Nat) (w : World) (hr : Reads w (.slice ao l.length cap) (B l)) (hm : l.length ≤ maxLen) (hna : NS w aa la) (hca : la ≤ ca) (hla : la ≤ 9223372036854775807) :
    Calls Try.prog 4 #[.slice ao l.length cap, .slice aa la ca] w fun e w' => e = .returned (.bool true) ∧ Below w.heap.size w w' := by
  have HR := hid hr
  have HM := hid hm
  have HNa := hid hna
  clear hr hm hna
  go_enter Try.func4, Try.ntmps4
  go_wp2_with fail
  refine (known6_any _).mono ?_
  rintro _ w1 ⟨rfl, hb⟩
  have Hb1 := hid hb
  clear hb
  go_wp2_with fail
  refine (Doc_any ao cap l _ (HR.out.later Hb1.out) HM.out).mono ?_
  rintro _ wx ⟨d, rfl, hd, rfl⟩
  go_wp2_with fail
  refine (make_ob d.size (by omega) _ _ _ (HNa.out.later Hb1.out) hca hla).mono ?_
  rintro _ w2 ⟨vx, rfl, ox, ux, ho, hux, hb⟩
  have Hb2 := hid (below_seq Hb1.out hb)
  have HOx2 := hid ho
  clear hb Hb1 ho
  go_wp2_with fail
  refine (apply_ob d HOx2.out rfl hux).mono ?_
  rintro _ wx ⟨rfl, rfl⟩
  have hms := applied_size d HOx2.out rfl
  obtain ⟨m, hm⟩ : ∃ bz : ByteArray, (⟨(applyS d.data.toList ox).toArray⟩ : ByteArray) = bz := ⟨_, rfl⟩
  rw [hm] at hms ⊢
  have HMe := hid hm
  have HMS := hid hms
  clear hm hms
  go_wp2_with fail
  have HB := hid (inv_applied d m HOx2.out rfl HMe.out)
  refine (inv_ob d HOx2.out rfl).mono ?_
  rintro _ w3 ⟨vy, rfl, ho, hb⟩
  obtain ⟨oy, hoy⟩ : ∃ o, invS d ox = o := ⟨_, rfl⟩
  rw [hoy] at ho
  have HIy := hid hoy
  clear hoy
  have Hb3 := hid (below_seq Hb2.out hb)
  have HOx3 := hid (HOx2.out.later hb)
  have HOy3 := hid ho
  clear hb Hb2 HOx2 ho
  go_wp2_with fail
  rw [HIy.out] at HB
  refine (apply_ob m HOy3.out HMS.out (by omega)).mono ?_
  rintro _ wx ⟨rfl, rfl⟩
  rw [HB.out]
  go_wp2_with fail
  go_ret
  exact ⟨rfl, Hb3.out⟩

theorem iback_row (a0 : Option Addr) (len0 cap0 : Nat) (z0 : List Int) (a1 : Option Addr) (len1 cap1 : Nat) (z1 : List Int) (w : World) (w0 : IsRow .u8 w a0 len0 cap0 z0) (w1 : IsRow .i64 w a1 len1 cap1 z1) :
    Calls Try.prog 4 #[.slice a0 len0 cap0, .slice a1 len1 cap1] w fun e w' => e = .returned (.bool true) ∧ Below w.heap.size w w' := by
  obtain ⟨l, rfl, hm, hr⟩ := bytes_of_row w0
  exact iback_any a0 cap0 l a1 len1 cap1 w hr hm (ns_of_row w1) (cap_of_row w1) (len_of_row w1)
end Go.Proofs.Ytbhojomgbjchkaa
