/- The law ComposeLengths: what is taken together goes over what the first one goes over, and makes as much as the last one. -/
import Derived.Test.YtcghcocacbglbabCAll
namespace Go.Proofs.Ytcghcocacbglbab
open Go.RowKit
set_option linter.unusedSimpArgs false
set_option linter.unusedVariables false

/-- Three operations, laid into a slice. -/
theorem three_new (w : World) (a b c : Value) : let w' := w.alloc (.cells #[a, b, c] 25); w'.cell? ⟨w.heap.size, 0, none⟩ = some a ∧ w'.cell? ⟨w.heap.size, 1, none⟩ = some b ∧ w'.cell? ⟨w.heap.size, 2, none⟩ = some c ∧ w.heap.size < w'.heap.size ∧ Below w.heap.size w w' := by
  have h := Blk.new w 25 [a, b, c]
  exact ⟨h.cell rfl, h.cell rfl, h.cell rfl, by simp, (Below.refl _ _).alloc (Nat.le_refl _) _⟩
/-- How many bytes are put. -/
def psz : List Cp → Int
  | [] => 0
  | c :: o => (c.s.size : Int) + psz o
theorem psz_append : ∀ (o p : List Cp), psz (o ++ p) = psz o + psz p
  | [], p => by simp [psz]
  | c :: o, p => by rw [List.cons_append, psz, psz, psz_append o p]; omega
theorem psz_take_succ (o : List Cp) (j : Nat) (c : Cp) (h : o[j]? = some c) : psz (o.take (j + 1)) = psz (o.take j) + (c.s.size : Int) := by
  rw [take_succ' o j c h, psz_append]; simp [psz]
theorem psz_le : ∀ {o : List Cp}, Good o → 0 ≤ psz o ∧ psz o ≤ outS o
  | [], _ => by simp [psz, outS]
  | c :: o, h => by
    have ih := psz_le h.tl
    rw [psz, out_cons]
    rcases ok_cases h.hd with ⟨m, hm, rfl⟩ | ⟨s, hs, rfl⟩ | ⟨m, hm, rfl⟩
    · rw [outl_K]; simp [pK, em_sz]; omega
    · rw [outl_P]; simp [pP]; omega
    · rw [outl_X]; simp [pX, em_sz]; omega
theorem psz_take {o : List Cp} (h : Good o) (j : Nat) : 0 ≤ psz (o.take j) ∧ psz (o.take j) ≤ outS o := by
  have h1 := psz_le (h.take j)
  have h2 := outS_split o j
  have h3 := (h.drop j).outS_nn
  omega

set_option maxRecDepth 100000 in
set_option maxHeartbeats 4000000 in
theorem lengths_any (n : Int) (aa : Option Addr) (la ca : Nat) (ab : Option Addr) (lb cb : Nat) (ac : Option Addr) (lc cc : Nat) (w : World) (hna : NS w aa la) (hca : la ≤ ca) (hla : la ≤ 9223372036854775807) (hnb : NS w ab lb) (hcb : lb ≤ cb) (hlb : lb ≤ 9223372036854775807) (hnc : NS w ac lc) (hcc : lc ≤ cc) (hlc : lc ≤ 9223372036854775807) :
    Calls Try.prog 3 #[.int .i64 n, .slice aa la ca, .slice ab lb cb, .slice ac lc cc] w fun e w' => e = .returned (.bool true) ∧ Below w.heap.size w w' := by
  have HNa := hid hna
  have HNb := hid hnb
  have HNc := hid hnc
  clear hna hnb hnc
  go_enter Try.func3, Try.ntmps3
  go_wp2_with fail
  refine (known5_any _).mono ?_
  rintro _ w1 ⟨rfl, hb⟩
  have Hb1 := hid hb
  clear hb
  go_upto_region 3 with fail
  go_cut [0] (fun s0 w' => ∃ k : Nat, s0 = .int .i64 (k : Int) ∧ k ≤ 89 ∧ w' = w1)
  case first =>
    go_wp2_with fail
    all_goals
      go_meet
      first
      | exact ⟨0, rfl, by omega, rfl⟩
      | exact ⟨89, rfl, by omega, rfl⟩
      | exact ⟨(n.tmod 90).toNat, by rw [Int.toNat_of_nonneg (by omega)], by omega, rfl⟩
  case rest =>
  obtain ⟨k, rfl, hk, rfl⟩ := hcut
  go_wp2_with fail
  refine (make_ob k (by omega) _ _ _ (HNa.out.later Hb1.out) hca hla).mono ?_
  rintro _ w2 ⟨vx, rfl, ox, ux, ho, hux, hb⟩
  have Hb2 := hid (below_seq Hb1.out hb)
  obtain ⟨adx, cpx, rfl⟩ := ho.rc.form
  have HOx2 := hid ho
  clear hb Hb1 ho
  go_wp2_with fail
  refine (rout_ob HOx2.out).mono ?_
  rintro _ wx ⟨rfl, rfl⟩
  go_wp2_with fail
  refine (make_ob ux (by omega) _ _ _ (HNb.out.later Hb2.out) hcb hlb).mono ?_
  rintro _ w3 ⟨vy, rfl, oy, uy, ho, huy, hb⟩
  have Hb3 := hid (below_seq Hb2.out hb)
  have HOx3 := hid (HOx2.out.later hb)
  obtain ⟨ady, cpy, rfl⟩ := ho.rc.form
  have HOy3 := hid ho
  clear hb Hb2 HOx2 ho
  go_wp2_with fail
  refine (rout_ob HOy3.out).mono ?_
  rintro _ wx ⟨rfl, rfl⟩
  go_wp2_with fail
  refine (make_ob uy (by omega) _ _ _ (HNc.out.later Hb3.out) hcc hlc).mono ?_
  rintro _ w4 ⟨vz, rfl, oz, uz, ho, huz, hb⟩
  have Hb4 := hid (below_seq Hb3.out hb)
  have HOx4 := hid (HOx3.out.later hb)
  have HOy4 := hid (HOy3.out.later hb)
  obtain ⟨adz, cpz, rfl⟩ := ho.rc.form
  have HOz4 := hid ho
  clear hb Hb3 HOx3 HOy3 ho
  go_wp2_with fail
  have K3 := hid (three_new w4 (.slice adx ox.length cpx) (.slice ady oy.length cpy) (.slice adz oz.length cpz))
  refine (all3 _ k (by omega) (K3.out.2.2.2.1) K3.out.1 K3.out.2.1 K3.out.2.2.1 (HOx4.out.later K3.out.2.2.2.2) (HOy4.out.later K3.out.2.2.2.2) (HOz4.out.later K3.out.2.2.2.2)).mono ?_
  rintro _ w5 ⟨vo, rfl, ho, hb0⟩
  have hb := below_seq K3.out.2.2.2.2 hb0
  clear hb0 K3
  obtain ⟨o, hoe⟩ : ∃ o, twoS ox (twoS oy oz) = o := ⟨_, rfl⟩
  rw [hoe] at ho
  clear hoe
  obtain ⟨ado, cpo, rfl⟩ := ho.rc.form
  have hol := ho.len
  have Hb5 := hid (below_seq Hb4.out hb)
  have HOx5 := hid (HOx4.out.later hb)
  have HOy5 := hid (HOy4.out.later hb)
  have HOz5 := hid (HOz4.out.later hb)
  have HOo5 := hid ho
  clear hb Hb4 HOx4 HOy4 HOz4 ho
  go_wp2_with fail
  go_loopw [14, 15] (fun pv iv wr => ∃ j : Nat, j ≤ o.length ∧ iv = .int .i64 j ∧ pv = .int .i64 (psz (o.take j)) ∧ wr = w5) (fun _ iv _ => o.length - (intOf iv).toNat)
  case atStart => exact ⟨0, Nat.zero_le _, rfl, rfl, rfl⟩
  case round =>
    obtain ⟨j, hj, rfl, rfl, rfl⟩ := hrel
    by_cases hlt : j < o.length
    · have hlt' : (j : Int) < (o.length : Int) := by omega
      obtain ⟨c, hc⟩ : ∃ c, o[j]? = some c := ⟨_, List.getElem?_eq_getElem hlt⟩
      obtain ⟨g, off, cap', e, hcap, hr, hg⟩ := HOo5.out.rc.place (by omega)
      injection e with e1 e2 e3
      subst e1 e3
      obtain ⟨c0, c1, c2⟩ := RC.cells hr hc
      have hB := psz_take HOo5.out.good j
      have hB2 := psz_take HOo5.out.good (j + 1)
      have HS := hid (psz_take_succ o j c hc)
      rw [HS.out] at hB2
      have hou := HOo5.out.outs
      have hu2 := HOo5.out.hu
      have hb3 : psz (o.take j) ≤ 200 ∧ psz (o.take j) + (c.s.size : Int) ≤ 200 := by omega
      have hb4 := hB.1
      clear hr hc e2 hB hB2 hou hu2
      generalize psz (o.take j) = n0 at *
      go_wp2_with fail
      go_roundw
      case rel => exact ⟨j + 1, by omega, by go_num, by rw [HS.out], by first | rfl | trivial⟩
      case measure => simp [intOf]; omega
    · have hj2 : j = o.length := by omega
      subst hj2
      rw [take_all']
      have hp := psz_le HOo5.out.good
      rw [HOo5.out.outs] at hp
      generalize psz o = n0 at *
      have hp2 := hp.2
      clear hp
      go_wp2_with fail
      refine (rin_ob HOo5.out).mono ?_
      rintro _ wx ⟨rfl, rfl⟩
      go_wp2_with fail
      refine (rout_ob HOo5.out).mono ?_
      rintro _ wx ⟨rfl, rfl⟩
      go_wp2_with fail
      refine (rout_ob HOz5.out).mono ?_
      rintro _ wx ⟨rfl, rfl⟩
      go_wp2_with fail
      refine (rout_ob HOz5.out).mono ?_
      rintro _ wx ⟨rfl, rfl⟩
      go_wp2_with fail
      go_ret
      exact ⟨rfl, Hb5.out⟩

theorem lengths_row (n : Int) (a1 : Option Addr) (len1 cap1 : Nat) (z1 : List Int) (a2 : Option Addr) (len2 cap2 : Nat) (z2 : List Int) (a3 : Option Addr) (len3 cap3 : Nat) (z3 : List Int) (w : World) (w1 : IsRow .i64 w a1 len1 cap1 z1) (w2 : IsRow .i64 w a2 len2 cap2 z2) (w3 : IsRow .i64 w a3 len3 cap3 z3) :
    Calls Try.prog 3 #[.int .i64 n, .slice a1 len1 cap1, .slice a2 len2 cap2, .slice a3 len3 cap3] w fun e w' => e = .returned (.bool true) ∧ Below w.heap.size w w' :=
  lengths_any n a1 len1 cap1 a2 len2 cap2 a3 len3 cap3 w (ns_of_row w1) (cap_of_row w1) (len_of_row w1) (ns_of_row w2) (cap_of_row w2) (len_of_row w2) (ns_of_row w3) (cap_of_row w3) (len_of_row w3)
end Go.Proofs.Ytcghcocacbglbab
