/- The law TransformSelf: an operation beside itself: what it cuts is cut once, what it puts is there twice. -/
import Derived.Test.YtlgdllbhddnokaaKnown7
import Derived.Test.YtlgdllbhddnokaaObV
import Derived.Test.YtlgdllbhddnokaaPairT
namespace Go.Proofs.Ytlgdllbhddnokaa
open Go.RowKit
set_option linter.unusedSimpArgs false
set_option linter.unusedVariables false

theorem self_out {a X Y : List Cp} {r : Nat} (h : PX a a X Y r) (ga : Good a) : (r : Int) = outS a + psz a := by
  have h1 := pr_self h.pr rfl
  have h2 := sizes h.pa.gy
  have h3 := h.pa.iy
  have h4 := h.pa.py
  have h5 := h.pa.oo
  have h6 := h.outs
  rw [out_norm _ ga] at h3
  rw [psz_norm _ ga] at h4
  omega
set_option maxRecDepth 100000 in
set_option maxHeartbeats 4000000 in
theorem tself_any (ao : Option Addr) (cap : Nat) (l : List UInt8) (aa : Option Addr) (la ca : Nat) (w : World) (hr : Reads w (.slice ao l.length cap) (B l)) (hm : l.length ≤ maxLen) (hna : NS w aa la) (hca : la ≤ ca) (hla : la ≤ 9223372036854775807) :
    Calls Try.prog 7 #[.slice ao l.length cap, .slice aa la ca] w fun e w' => e = .returned (.bool true) ∧ Below w.heap.size w w' := by
  have HR := hid hr
  have HM := hid hm
  have HNa := hid hna
  clear hr hm hna
  go_enter Try.func7, Try.ntmps7
  go_wp2_with fail
  refine (known7_any _).mono ?_
  rintro _ w1 ⟨rfl, hb⟩
  have Hb1 := hid hb
  clear hb
  go_wp2_with fail
  refine (few_any ao cap l _ (HR.out.later Hb1.out) HM.out).mono ?_
  rintro _ wx ⟨d, rfl, hd, rfl⟩
  go_wp2_with fail
  refine (make_ob d.size (by omega) _ _ _ (HNa.out.later Hb1.out) hca hla).mono ?_
  rintro _ w2 ⟨vx, rfl, ox, ux, ho, hux, hb⟩
  have Hb2 := hid (below_seq Hb1.out hb)
  obtain ⟨adx, cpx, rfl⟩ := ho.rc.form
  have HOx2 := hid ho
  clear hb Hb1 ho
  go_wp2_with fail
  obtain ⟨X, Y, r, hP, hr⟩ := px_ex HOx2.out.good HOx2.out.good rfl
  rw [HOx2.out.outs] at hr
  have HP := hid hP
  have hs : r ≤ 400 := by omega
  clear hP
  have hol := HOx2.out.len
  have HSO := hid (self_out HP.out HOx2.out.good)
  refine (pair_ob HOx2.out HOx2.out HP.out hs).mono ?_
  rintro _ w3 ⟨vp, vq, rfl, ho, ho2, hb⟩
  have Hb3 := hid (below_seq Hb2.out hb)
  have HOx3 := hid (HOx2.out.later hb)
  have HOp3 := hid ho
  have HOq3 := hid ho2
  clear hb Hb2 HOx2 ho ho2
  go_wp2_with fail
  refine (apply_ob d HOx3.out rfl hux).mono ?_
  rintro _ wx ⟨rfl, rfl⟩
  have hms := applied_size d HOx3.out rfl
  obtain ⟨m, hm⟩ : ∃ bz : ByteArray, (⟨(applyS d.data.toList ox).toArray⟩ : ByteArray) = bz := ⟨_, rfl⟩
  rw [hm] at hms ⊢
  have HMe := hid hm
  have HMS := hid hms
  clear hm hms
  go_wp2_with fail
  by_cases hl : r ≤ 120
  · skip
    refine (apply_ob m HOq3.out HMS.out hl).mono ?_
    rintro _ wx ⟨rfl, rfl⟩
    have hzs := applied_size m HOq3.out HMS.out
    obtain ⟨z, hz⟩ : ∃ bz : ByteArray, (⟨(applyS m.data.toList (normS Y)).toArray⟩ : ByteArray) = bz := ⟨_, rfl⟩
    rw [hz] at hzs ⊢
    have HZS := hid hzs
    clear hz hzs
    go_wp2_with fail
    go_loopw [14, 15] (fun xv iv wr => ∃ j : Nat, j ≤ ox.length ∧ iv = .int .i64 j ∧ xv = .int .i64 (psz (ox.take j)) ∧ wr = wx) (fun _ iv _ => ox.length - (intOf iv).toNat)
    case atStart => exact ⟨0, Nat.zero_le _, rfl, rfl, rfl⟩
    case round =>
      obtain ⟨j, hj, rfl, rfl, hwr⟩ := hrel
      subst wr
      by_cases hlt : j < ox.length
      · have hlt' : (j : Int) < (ox.length : Int) := by omega
        obtain ⟨c, hc⟩ : ∃ c, ox[j]? = some c := ⟨_, List.getElem?_eq_getElem hlt⟩
        obtain ⟨g, off, cap', e, hcap, hr, hg⟩ := HOx3.out.rc.place (by omega)
        injection e with e1 e2 e3
        subst e1 e3
        obtain ⟨c0, c1, c2⟩ := RC.cells hr hc
        have hB := psz_take HOx3.out.good j
        have hB2 := psz_take HOx3.out.good (j + 1)
        have HS := hid (psz_take_succ ox j c hc)
        rw [HS.out] at hB2
        have hou := HOx3.out.outs
        have hu2 := HOx3.out.hu
        have hb3 : psz (ox.take j) ≤ 400 ∧ psz (ox.take j) + (c.s.size : Int) ≤ 400 := by omega
        have hb4 := hB.1
        clear hr hc e2 hB hB2 hou hu2
        generalize psz (ox.take j) = n0 at *
        go_wp2_with fail
        go_roundw
        case rel => exact ⟨j + 1, by omega, by go_num, by rw [HS.out], by first | rfl | trivial⟩
        case measure => simp [intOf]; omega
      · have hj2 : j = ox.length := by omega
        subst hj2
        rw [take_all']
        clear hlt hj
        have hnp := (psz_le HOx3.out.good)
        have hso := HSO.out
        rw [HOx3.out.outs] at hso hnp
        obtain ⟨np, hpe⟩ : ∃ z, psz ox = z := ⟨_, rfl⟩
        rw [hpe] at hso hnp ⊢
        have hms := HMS.out
        have hb1 : 0 ≤ np ∧ np ≤ 400 ∧ ux ≤ 400 := by omega
        obtain ⟨hb1, hb2, hb3⟩ := hb1
        have hzs := HZS.out
        have e1 : ((r : Int) == (ux : Int) + np) = true := by simp; omega
        clear hpe hso hnp hl
        go_wp2_with fail
        refine (rin_ob HOp3.out).mono ?_
        rintro _ wx ⟨rfl, rfl⟩
        go_wp2_with fail
        refine (rin_ob HOq3.out).mono ?_
        rintro _ wx ⟨rfl, rfl⟩
        go_wp2_with fail
        go_ret
        exact ⟨rfl, Hb3.out⟩
  · skip
    refine (apply_long m HOq3.out HMS.out (by omega)).mono ?_
    rintro _ wx ⟨rfl, rfl⟩
    go_wp2_with fail
    go_loopw [14, 15] (fun xv iv wr => ∃ j : Nat, j ≤ ox.length ∧ iv = .int .i64 j ∧ xv = .int .i64 (psz (ox.take j)) ∧ wr = wx) (fun _ iv _ => ox.length - (intOf iv).toNat)
    case atStart => exact ⟨0, Nat.zero_le _, rfl, rfl, rfl⟩
    case round =>
      obtain ⟨j, hj, rfl, rfl, hwr⟩ := hrel
      subst wr
      by_cases hlt : j < ox.length
      · have hlt' : (j : Int) < (ox.length : Int) := by omega
        obtain ⟨c, hc⟩ : ∃ c, ox[j]? = some c := ⟨_, List.getElem?_eq_getElem hlt⟩
        obtain ⟨g, off, cap', e, hcap, hr, hg⟩ := HOx3.out.rc.place (by omega)
        injection e with e1 e2 e3
        subst e1 e3
        obtain ⟨c0, c1, c2⟩ := RC.cells hr hc
        have hB := psz_take HOx3.out.good j
        have hB2 := psz_take HOx3.out.good (j + 1)
        have HS := hid (psz_take_succ ox j c hc)
        rw [HS.out] at hB2
        have hou := HOx3.out.outs
        have hu2 := HOx3.out.hu
        have hb3 : psz (ox.take j) ≤ 400 ∧ psz (ox.take j) + (c.s.size : Int) ≤ 400 := by omega
        have hb4 := hB.1
        clear hr hc e2 hB hB2 hou hu2
        generalize psz (ox.take j) = n0 at *
        go_wp2_with fail
        go_roundw
        case rel => exact ⟨j + 1, by omega, by go_num, by rw [HS.out], by first | rfl | trivial⟩
        case measure => simp [intOf]; omega
      · have hj2 : j = ox.length := by omega
        subst hj2
        rw [take_all']
        clear hlt hj
        have hnp := (psz_le HOx3.out.good)
        have hso := HSO.out
        rw [HOx3.out.outs] at hso hnp
        obtain ⟨np, hpe⟩ : ∃ z, psz ox = z := ⟨_, rfl⟩
        rw [hpe] at hso hnp ⊢
        have hms := HMS.out
        have hb1 : 0 ≤ np ∧ np ≤ 400 ∧ ux ≤ 400 := by omega
        obtain ⟨hb1, hb2, hb3⟩ := hb1
        have e1 : (120 : Int) < (ux : Int) + np := by omega
        clear hpe hso hnp hl
        go_wp2_with fail
        refine (rin_ob HOp3.out).mono ?_
        rintro _ wx ⟨rfl, rfl⟩
        go_wp2_with fail
        refine (rin_ob HOq3.out).mono ?_
        rintro _ wx ⟨rfl, rfl⟩
        go_wp2_with fail
        go_ret
        exact ⟨rfl, Hb3.out⟩

theorem tself_row (a0 : Option Addr) (len0 cap0 : Nat) (z0 : List Int) (a1 : Option Addr) (len1 cap1 : Nat) (z1 : List Int) (w : World) (w0 : IsRow .u8 w a0 len0 cap0 z0) (w1 : IsRow .i64 w a1 len1 cap1 z1) :
    Calls Try.prog 7 #[.slice a0 len0 cap0, .slice a1 len1 cap1] w fun e w' => e = .returned (.bool true) ∧ Below w.heap.size w w' := by
  obtain ⟨l, rfl, hm, hr⟩ := bytes_of_row w0
  exact tself_any a0 cap0 l a1 len1 cap1 w hr hm (ns_of_row w1) (cap_of_row w1) (len_of_row w1)
end Go.Proofs.Ytlgdllbhddnokaa
