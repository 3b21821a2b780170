/- The law InvertLengths: what undoes goes over what came out, and makes what was. -/
import Derived.Test.YtbhojomgbjchkaaObI
import Derived.Test.YtbhojomgbjchkaaDoc4
namespace Go.Proofs.Ytbhojomgbjchkaa
open Go.RowKit
set_option linter.unusedSimpArgs false
set_option linter.unusedVariables false

set_option maxRecDepth 100000 in
set_option maxHeartbeats 4000000 in
theorem ilengths_any (ao : Option Addr) (cap : Nat) (l : List UInt8) (aa : Option Addr) (la ca : Nat) (w : World) (hr : Reads w (.slice ao l.length cap) (B l)) (hm : l.length ≤ maxLen) (hna : NS w aa la) (hca : la ≤ ca) (hla : la ≤ 9223372036854775807) :
    Calls Try.prog 8 #[.slice ao l.length cap, .slice aa la ca] w fun e w' => e = .returned (.bool true) ∧ Below w.heap.size w w' := by
  have HR := hid hr
  have HM := hid hm
  have HNa := hid hna
  clear hr hm hna
  go_enter Try.func8, Try.ntmps8
  go_wp2_with fail
  refine (known6_any _).mono ?_
  rintro _ w1 ⟨rfl, hb⟩
  have Hb1 := hid hb
  clear hb
  go_wp2_with fail
  refine (Doc_any ao cap l _ (HR.out.later Hb1.out) HM.out).mono ?_
  rintro _ wx ⟨d, rfl, hd, rfl⟩
  go_wp2_with fail
  refine (make_ob d.size (by omega) _ _ _ (HNa.out.later Hb1.out) hca hla).mono ?_
  rintro _ w2 ⟨vo, rfl, oo, uo, ho, huo, hb⟩
  have Hb2 := hid (below_seq Hb1.out hb)
  obtain ⟨ado, cpo, rfl⟩ := ho.rc.form
  have HOo2 := hid ho
  clear hb Hb1 ho
  go_wp2_with fail
  have HUA := hid (inv_ua (d := d) HOo2.out.good HOo2.out.ins)
  refine (inv_ob d HOo2.out rfl).mono ?_
  rintro _ w3 ⟨vx, rfl, ho, hb⟩
  obtain ⟨ox, hox⟩ : ∃ ox, invS d oo = ox := ⟨_, rfl⟩
  rw [hox] at ho HUA
  clear hox
  have hol := HOo2.out.len
  have hxl := ho.len
  have Hb3 := hid (below_seq Hb2.out hb)
  have HOo3 := hid (HOo2.out.later hb)
  obtain ⟨adx, cpx, rfl⟩ := ho.rc.form
  have HOx3 := hid ho
  clear hb Hb2 HOo2 ho
  go_wp2_with fail
  go_loopw [9, 10, 11] (fun xv yv iv wr => ∃ j : Nat, j ≤ oo.length ∧ iv = .int .i64 j ∧ xv = .int .i64 (csz (oo.take j)) ∧ yv = .int .i64 (psz (oo.take j)) ∧ wr = w3) (fun _ _ iv _ => oo.length - (intOf iv).toNat)
  case atStart => exact ⟨0, Nat.zero_le _, rfl, rfl, rfl, rfl⟩
  case round =>
    obtain ⟨j, hj, rfl, rfl, rfl, hwr⟩ := hrel
    subst wr
    by_cases hlt : j < oo.length
    · have hlt' : (j : Int) < (oo.length : Int) := by omega
      obtain ⟨c, hc⟩ : ∃ c, oo[j]? = some c := ⟨_, List.getElem?_eq_getElem hlt⟩
      obtain ⟨g, off, cap', e, hcap, hr, hg⟩ := HOo3.out.rc.place (by omega)
      injection e with e1 e2 e3
      subst e1 e3
      obtain ⟨c0, c1, c2⟩ := RC.cells hr hc
      have hB := psz_take HOo3.out.good j
      have hB2 := psz_take HOo3.out.good (j + 1)
      have hC := csz_take HOo3.out.good j
      have hC2 := csz_take HOo3.out.good (j + 1)
      have HS := hid (psz_take_succ oo j c hc)
      have HT := hid (csz_take_succ oo j c hc)
      rw [HS.out] at hB2
      rw [HT.out] at hC2
      have hou := HOo3.out.outs
      have hin := HOo3.out.ins
      have hu2 := HOo3.out.hu
      have hi2 := HOo3.out.hi
      have hb3 : psz (oo.take j) ≤ 200 ∧ psz (oo.take j) + (c.s.size : Int) ≤ 200 := by omega
      have hb4 := hB.1
      have hb5 := hC.1
      by_cases h3 : c.k = 3
      · rw [if_pos h3] at hC2
        have hb6 : csz (oo.take j) ≤ 200 ∧ 0 ≤ csz (oo.take j) + c.n ∧ csz (oo.take j) + c.n ≤ 200 := by omega
        replace HT := hid (show csz (oo.take (j + 1)) = csz (oo.take j) + c.n by rw [HT.out, if_pos h3])
        rw [h3] at c0
        clear hr hc e2 hB hB2 hC hC2 hou hin hu2 hi2 h3
        generalize psz (oo.take j) = n0 at *
        generalize csz (oo.take j) = n1 at *
        go_wp2_with fail
        go_roundw
        case rel => exact ⟨j + 1, by omega, by go_num, by first | rw [HS.out] | rw [HT.out], by first | rw [HS.out] | rw [HT.out], by first | rfl | trivial⟩
        case measure => simp [intOf]; omega
      · have h3' : (c.k == 3) = false := by simpa using h3
        have hb6 : csz (oo.take j) ≤ 200 := by omega
        replace HT := hid (show csz (oo.take (j + 1)) = csz (oo.take j) by rw [HT.out, if_neg h3]; omega)
        clear hr hc e2 hB hB2 hC hC2 hou hin hu2 hi2 h3
        generalize psz (oo.take j) = n0 at *
        generalize csz (oo.take j) = n1 at *
        go_wp2_with fail
        go_roundw
        case rel => exact ⟨j + 1, by omega, by go_num, by first | rw [HS.out] | rw [HT.out], by first | rw [HS.out] | rw [HT.out], by first | rfl | trivial⟩
        case measure => simp [intOf]; omega
    · have hj2 : j = oo.length := by omega
      subst hj2
      rw [take_all']
      clear hlt hj
      obtain ⟨nc, hnc⟩ : ∃ z, csz oo = z := ⟨_, rfl⟩
      obtain ⟨np, hnp⟩ : ∃ z, psz oo = z := ⟨_, rfl⟩
      rw [hnc, hnp]
      have HNC := hid hnc
      have HNP := hid hnp
      clear hnc hnp
      go_wp2_with fail
      go_loopw [12, 13, 14] (fun xv yv iv wr => ∃ j : Nat, j ≤ ox.length ∧ iv = .int .i64 j ∧ xv = .int .i64 (psz (ox.take j)) ∧ yv = .int .i64 (csz (ox.take j)) ∧ wr = w3) (fun _ _ iv _ => ox.length - (intOf iv).toNat)
      case atStart => exact ⟨0, Nat.zero_le _, rfl, rfl, rfl, rfl⟩
      case round =>
        obtain ⟨j, hj, rfl, rfl, rfl, hwr⟩ := hrel
        subst wr
        by_cases hlt : j < ox.length
        · have hlt' : (j : Int) < (ox.length : Int) := by omega
          obtain ⟨c, hc⟩ : ∃ c, ox[j]? = some c := ⟨_, List.getElem?_eq_getElem hlt⟩
          obtain ⟨g, off, cap', e, hcap, hr, hg⟩ := HOx3.out.rc.place (by omega)
          injection e with e1 e2 e3
          subst e1 e3
          obtain ⟨c0, c1, c2⟩ := RC.cells hr hc
          have hB := psz_take HOx3.out.good j
          have hB2 := psz_take HOx3.out.good (j + 1)
          have hC := csz_take HOx3.out.good j
          have hC2 := csz_take HOx3.out.good (j + 1)
          have HS := hid (psz_take_succ ox j c hc)
          have HT := hid (csz_take_succ ox j c hc)
          rw [HS.out] at hB2
          rw [HT.out] at hC2
          have hou := HOx3.out.outs
          have hin := HOx3.out.ins
          have hu2 := HOx3.out.hu
          have hi2 := HOx3.out.hi
          have hb3 : psz (ox.take j) ≤ 200 ∧ psz (ox.take j) + (c.s.size : Int) ≤ 200 := by omega
          have hb4 := hB.1
          have hb5 := hC.1
          by_cases h3 : c.k = 3
          · rw [if_pos h3] at hC2
            have hb6 : csz (ox.take j) ≤ 200 ∧ 0 ≤ csz (ox.take j) + c.n ∧ csz (ox.take j) + c.n ≤ 200 := by omega
            replace HT := hid (show csz (ox.take (j + 1)) = csz (ox.take j) + c.n by rw [HT.out, if_pos h3])
            rw [h3] at c0
            clear hr hc e2 hB hB2 hC hC2 hou hin hu2 hi2 h3
            generalize psz (ox.take j) = n0 at *
            generalize csz (ox.take j) = n1 at *
            go_wp2_with fail
            go_roundw
            case rel => exact ⟨j + 1, by omega, by go_num, by first | rw [HS.out] | rw [HT.out], by first | rw [HS.out] | rw [HT.out], by first | rfl | trivial⟩
            case measure => simp [intOf]; omega
          · have h3' : (c.k == 3) = false := by simpa using h3
            have hb6 : csz (ox.take j) ≤ 200 := by omega
            replace HT := hid (show csz (ox.take (j + 1)) = csz (ox.take j) by rw [HT.out, if_neg h3]; omega)
            clear hr hc e2 hB hB2 hC hC2 hou hin hu2 hi2 h3
            generalize psz (ox.take j) = n0 at *
            generalize csz (ox.take j) = n1 at *
            go_wp2_with fail
            go_roundw
            case rel => exact ⟨j + 1, by omega, by go_num, by first | rw [HS.out] | rw [HT.out], by first | rw [HS.out] | rw [HT.out], by first | rfl | trivial⟩
            case measure => simp [intOf]; omega
        · have hj2 : j = ox.length := by omega
          subst hj2
          rw [take_all']
          clear hlt hj
          rw [HUA.out.puts, HUA.out.cuts, HNC.out, HNP.out]
          go_wp2_with fail
          refine (rin_ob HOx3.out).mono ?_
          rintro _ wx ⟨rfl, rfl⟩
          go_wp2_with fail
          refine (rout_ob HOo3.out).mono ?_
          rintro _ wx ⟨rfl, rfl⟩
          go_wp2_with fail
          refine (rout_ob HOx3.out).mono ?_
          rintro _ wx ⟨rfl, rfl⟩
          go_wp2_with fail
          go_ret
          exact ⟨rfl, Hb3.out⟩

theorem ilengths_row (a0 : Option Addr) (len0 cap0 : Nat) (z0 : List Int) (a1 : Option Addr) (len1 cap1 : Nat) (z1 : List Int) (w : World) (w0 : IsRow .u8 w a0 len0 cap0 z0) (w1 : IsRow .i64 w a1 len1 cap1 z1) :
    Calls Try.prog 8 #[.slice a0 len0 cap0, .slice a1 len1 cap1] w fun e w' => e = .returned (.bool true) ∧ Below w.heap.size w w' := by
  obtain ⟨l, rfl, hm, hr⟩ := bytes_of_row w0
  exact ilengths_any a0 cap0 l a1 len1 cap1 w hr hm (ns_of_row w1) (cap_of_row w1) (len_of_row w1)
end Go.Proofs.Ytbhojomgbjchkaa
