/- The law TransformUndo: an operation, led over one that was undone at once, is as long as it was, and its texts are all there. -/
import Derived.Test.YtlgdllbhddnokabKnown7
import Derived.Test.YtlgdllbhddnokabOver2
import Derived.Test.YtlgdllbhddnokabObJ
import Derived.Test.YtlgdllbhddnokabObA
import Derived.Test.YtlgdllbhddnokabPsz
namespace Go.Proofs.Ytlgdllbhddnokab
open Go.RowKit
set_option linter.unusedSimpArgs false
set_option linter.unusedVariables false

/-- Two operations in a slice that is built. -/
theorem two_new (w : World) (x y : Value) : (w.alloc (.cells #[x, y] 25)).cell? ⟨w.heap.size, 0, none⟩ = some x ∧ (w.alloc (.cells #[x, y] 25)).cell? ⟨w.heap.size, 1, none⟩ = some y := by
  have h := Blk.new w 25 [x, y]
  exact ⟨h.cell rfl, h.cell rfl⟩
set_option maxRecDepth 100000 in
set_option maxHeartbeats 4000000 in
theorem tundo_any (ao : Option Addr) (cap : Nat) (l : List UInt8) (aa : Option Addr) (la ca : Nat) (ab : Option Addr) (lb cb : Nat) (w : World) (hr : Reads w (.slice ao l.length cap) (B l)) (hm : l.length ≤ maxLen) (hna : NS w aa la) (hca : la ≤ ca) (hla : la ≤ 9223372036854775807) (hnb : NS w ab lb) (hcb : lb ≤ cb) (hlb : lb ≤ 9223372036854775807) :
    Calls Try.prog 4 #[.slice ao l.length cap, .slice aa la ca, .slice ab lb cb] w fun e w' => e = .returned (.bool true) ∧ Below w.heap.size w w' := by
  have HR := hid hr
  have HM := hid hm
  have HNa := hid hna
  have HNb := hid hnb
  clear hr hm hna hnb
  go_enter Try.func4, Try.ntmps4
  go_wp2_with fail
  refine (known7_any _).mono ?_
  rintro _ w1 ⟨rfl, hb⟩
  have Hb1 := hid hb
  clear hb
  go_wp2_with fail
  refine (few_any ao cap l _ (HR.out.later Hb1.out) HM.out).mono ?_
  rintro _ wx ⟨d, rfl, hd, rfl⟩
  go_wp2_with fail
  refine (make_ob d.size (by omega) _ _ _ (HNa.out.later Hb1.out) hca hla).mono ?_
  rintro _ w2 ⟨vx, rfl, ox, ux, ho, hux, hb⟩
  have Hb2 := hid (below_seq Hb1.out hb)
  obtain ⟨adx, cpx, rfl⟩ := ho.rc.form
  have HOx2 := hid ho
  clear hb Hb1 ho
  go_wp2_with fail
  refine (make_ob d.size (by omega) _ _ _ (HNb.out.later Hb2.out) hcb hlb).mono ?_
  rintro _ w3 ⟨vy, rfl, oy, uy, ho, huy, hb⟩
  have Hb3 := hid (below_seq Hb2.out hb)
  have HOx3 := hid (HOx2.out.later hb)
  obtain ⟨ady, cpy, rfl⟩ := ho.rc.form
  have HOy3 := hid ho
  clear hb Hb2 HOx2 ho
  go_wp2_with fail
  refine (rinv_ob d HOy3.out rfl).mono ?_
  rintro _ w4 ⟨vz, rfl, ho, hb⟩
  obtain ⟨oz, hoz⟩ : ∃ o, invS d oy = o := ⟨_, rfl⟩
  rw [hoz] at ho
  clear hoz
  have Hb4 := hid (below_seq Hb3.out hb)
  have HOx4 := hid (HOx3.out.later hb)
  have HOy4 := hid (HOy3.out.later hb)
  obtain ⟨adz, cpz, rfl⟩ := ho.rc.form
  have HOz4 := hid ho
  clear hb Hb3 HOx3 HOy3 ho
  go_wp2_with fail
  obtain ⟨X1, Y1, r1, hP, hr1⟩ := px_ex HOy4.out.good HOx4.out.good (by rw [HOy4.out.ins, HOx4.out.ins])
  rw [HOy4.out.outs, HOx4.out.outs] at hr1
  have HP1 := hid hP
  have hs1 : r1 ≤ 400 := by omega
  clear hP
  have hg2 := HP1.out.x HOy4.out.good HOx4.out.good
  obtain ⟨X2, Y2, r2, hP, hr2⟩ := px_ex HOz4.out.good hg2.2.2.2.2.2 (by rw [HOz4.out.ins, hg2.2.1, HOy4.out.outs])
  rw [HOz4.out.outs, hg2.2.2.2.1] at hr2
  have HP2 := hid hP
  have hs2 : r2 ≤ 400 := by omega
  have HPS := hid (show psz (normS Y2) = psz ox by rw [psz_norm _ hP.pa.gy, hP.pa.py, psz_norm _ hg2.2.2.2.2.2, psz_norm _ HP1.out.pa.gy, HP1.out.pa.py, psz_norm _ HOx4.out.good])
  clear hP hg2
  have hcc := two_new w4 (.slice ady oy.length cpy) (.slice adz oz.length cpz)
  have hbn : Below w4.heap.size w4 (w4.alloc (.cells #[.slice ady oy.length cpy, .slice adz oz.length cpz] 25)) := (Below.refl _ _).alloc (Nat.le_refl _) _
  refine (over2_ob (HOx4.out.later hbn) (HOy4.out.later hbn) (HOz4.out.later hbn) HP1.out HP2.out hs1 hs2 hcc.1 hcc.2 (by simp)).mono ?_
  rintro _ w5 ⟨vo, rfl, ho, hb0⟩
  have hb : Below w4.heap.size w4 w5 := below_seq hbn hb0
  obtain ⟨oo, hoo⟩ : ∃ o, normS Y2 = o := ⟨_, rfl⟩
  rw [hoo] at ho HPS
  clear hoo hb0 hbn hcc
  have Hb5 := hid (below_seq Hb4.out hb)
  have HOx5 := hid (HOx4.out.later hb)
  have HOy5 := hid (HOy4.out.later hb)
  have HOz5 := hid (HOz4.out.later hb)
  obtain ⟨ado, cpo, rfl⟩ := ho.rc.form
  have HOo5 := hid ho
  clear hb Hb4 HOx4 HOy4 HOz4 ho
  go_wp2_with fail
  refine (rin_ob HOo5.out).mono ?_
  rintro _ wx ⟨rfl, rfl⟩
  go_wp2_with fail
  have hol := HOx5.out.len
  have hol2 := HOo5.out.len
  go_loopw [14, 16] (fun xv iv wr => ∃ j : Nat, j ≤ ox.length ∧ iv = .int .i64 j ∧ xv = .int .i64 (psz (ox.take j)) ∧ wr = wx) (fun _ iv _ => ox.length - (intOf iv).toNat)
  case atStart => exact ⟨0, Nat.zero_le _, rfl, rfl, rfl⟩
  case round =>
    obtain ⟨j, hj, rfl, rfl, hwr⟩ := hrel
    subst wr
    by_cases hlt : j < ox.length
    · have hlt' : (j : Int) < (ox.length : Int) := by omega
      obtain ⟨c, hc⟩ : ∃ c, ox[j]? = some c := ⟨_, List.getElem?_eq_getElem hlt⟩
      obtain ⟨g, off, cap', e, hcap, hr, hg⟩ := HOx5.out.rc.place (by omega)
      injection e with e1 e2 e3
      subst e1 e3
      obtain ⟨c0, c1, c2⟩ := RC.cells hr hc
      have hB := psz_take HOx5.out.good j
      have hB2 := psz_take HOx5.out.good (j + 1)
      have HS := hid (psz_take_succ ox j c hc)
      rw [HS.out] at hB2
      have hou := HOx5.out.outs
      have hu2 := HOx5.out.hu
      have hb3 : psz (ox.take j) ≤ 400 ∧ psz (ox.take j) + (c.s.size : Int) ≤ 400 := by omega
      have hb4 := hB.1
      clear hr hc e2 hB hB2 hou hu2
      generalize psz (ox.take j) = n0 at *
      go_wp2_with fail
      go_roundw
      case rel => exact ⟨j + 1, by omega, by go_num, by rw [HS.out], by first | rfl | trivial⟩
      case measure => simp [intOf]; omega
    · have hj2 : j = ox.length := by omega
      subst hj2
      rw [take_all']
      clear hlt hj
      obtain ⟨np, hpe⟩ : ∃ z, psz ox = z := ⟨_, rfl⟩
      rw [hpe] at HPS ⊢
      clear hpe
      go_wp2_with fail
      go_loopw [15, 17] (fun xv iv wr => ∃ j : Nat, j ≤ oo.length ∧ iv = .int .i64 j ∧ xv = .int .i64 (psz (oo.take j)) ∧ wr = wx) (fun _ iv _ => oo.length - (intOf iv).toNat)
      case atStart => exact ⟨0, Nat.zero_le _, rfl, rfl, rfl⟩
      case round =>
        obtain ⟨j, hj, rfl, rfl, hwr⟩ := hrel
        subst wr
        by_cases hlt : j < oo.length
        · have hlt' : (j : Int) < (oo.length : Int) := by omega
          obtain ⟨c, hc⟩ : ∃ c, oo[j]? = some c := ⟨_, List.getElem?_eq_getElem hlt⟩
          obtain ⟨g, off, cap', e, hcap, hr, hg⟩ := HOo5.out.rc.place (by omega)
          injection e with e1 e2 e3
          subst e1 e3
          obtain ⟨c0, c1, c2⟩ := RC.cells hr hc
          have hB := psz_take HOo5.out.good j
          have hB2 := psz_take HOo5.out.good (j + 1)
          have HS := hid (psz_take_succ oo j c hc)
          rw [HS.out] at hB2
          have hou := HOo5.out.outs
          have hu2 := HOo5.out.hu
          have hb3 : psz (oo.take j) ≤ 400 ∧ psz (oo.take j) + (c.s.size : Int) ≤ 400 := by omega
          have hb4 := hB.1
          clear hr hc e2 hB hB2 hou hu2
          generalize psz (oo.take j) = n0 at *
          go_wp2_with fail
          go_roundw
          case rel => exact ⟨j + 1, by omega, by go_num, by rw [HS.out], by first | rfl | trivial⟩
          case measure => simp [intOf]; omega
        · have hj2 : j = oo.length := by omega
          subst hj2
          rw [take_all']
          clear hlt hj
          rw [HPS.out]
          go_wp2_with fail
          go_ret
          exact ⟨rfl, Hb5.out⟩

theorem tundo_row (a0 : Option Addr) (len0 cap0 : Nat) (z0 : List Int) (a1 : Option Addr) (len1 cap1 : Nat) (z1 : List Int) (a2 : Option Addr) (len2 cap2 : Nat) (z2 : List Int) (w : World) (w0 : IsRow .u8 w a0 len0 cap0 z0) (w1 : IsRow .i64 w a1 len1 cap1 z1) (w2 : IsRow .i64 w a2 len2 cap2 z2) :
    Calls Try.prog 4 #[.slice a0 len0 cap0, .slice a1 len1 cap1, .slice a2 len2 cap2] w fun e w' => e = .returned (.bool true) ∧ Below w.heap.size w w' := by
  obtain ⟨l, rfl, hm, hr⟩ := bytes_of_row w0
  exact tundo_any a0 cap0 l a1 len1 cap1 a2 len2 cap2 w hr hm (ns_of_row w1) (cap_of_row w1) (len_of_row w1) (ns_of_row w2) (cap_of_row w2) (len_of_row w2)
end Go.Proofs.Ytlgdllbhddnokab
