/- The contracts of Apply, and of the second say's. -/
import Derived.Test.YtmphckpmlkgkkabInOut
import Derived.Test.YtmphckpmlkgkkabHas
import Derived.Lib.Strings
namespace Go.Proofs.Ytmphckpmlkgkkab
open Go.RowKit
set_option linter.unusedSimpArgs false
set_option linter.unusedVariables false

theorem Try.infoByte : (Try.prog.info? 5).map (fun i => (i.zero, i.size, i.bytes)) = some (some (.int .u8 0), 1, 1) := by kernel_rfl

theorem byteCells_B (s : ByteArray) : byteCells s = B s.data.toList := rfl
theorem size_list (s : ByteArray) : s.size = s.data.toList.length := by simp
theorem bytes_of {s : ByteArray} {l : List UInt8} (h : s.data.toList = l) : s = ⟨l.toArray⟩ := by
  subst h; apply ByteArray.ext; simp
theorem append_list (a b : ByteArray) : (a ++ b).data.toList = a.data.toList ++ b.data.toList := by simp

set_option maxRecDepth 100000 in
set_option maxHeartbeats 2000000 in
theorem Apply_any (d : ByteArray) (v : Value) (o : List Cp) (w : World) (hv : RC w v o) (hf : Fit o) (hg : Good o) (hd : d.size ≤ 1099511627776) :
    Calls Try.prog 10 #[.string d, v] w fun e w' => e = .returned (.tuple #[.string (apS d o).1, .int .i64 (apS d o).2]) ∧ Below w.heap.size w w' := by
  obtain ⟨i0, hi, hz0, hz1, hz2⟩ := info_parts Try.infoByte
  obtain ⟨ao, cap, rfl⟩ := hv.form
  have HV := hid hv
  have HF := hid hf
  have HG := hid hg
  have hlen := hf.1
  clear hv hf hg
  go_enter Try.func10, Try.ntmps10
  go_wp2_with fail
  refine wp_scope_at 0 (fun a' w' => ∃ (j p n : Nat) (vo : Value) (l : List UInt8), a' = ⟨#[.string d, .slice ao o.length cap, a'.tmps.getD 2 undef, a'.tmps.getD 3 undef, a'.tmps.getD 4 undef, a'.tmps.getD 5 undef, vo, st p n, .int .i64 (j : Nat), a'.tmps.getD 9 undef, a'.tmps.getD 10 undef, a'.tmps.getD 11 undef, a'.tmps.getD 12 undef, a'.tmps.getD 13 undef, a'.tmps.getD 14 undef, a'.tmps.getD 15 undef, a'.tmps.getD 16 undef, a'.tmps.getD 17 undef, a'.tmps.getD 18 undef, a'.tmps.getD 19 undef, a'.tmps.getD 20 undef, a'.tmps.getD 21 undef, a'.tmps.getD 22 undef, a'.tmps.getD 23 undef, a'.tmps.getD 24 undef, a'.tmps.getD 25 undef, a'.tmps.getD 26 undef, a'.tmps.getD 27 undef, a'.tmps.getD 28 undef, a'.tmps.getD 29 undef, a'.tmps.getD 30 undef, a'.tmps.getD 31 undef, a'.tmps.getD 32 undef, a'.tmps.getD 33 undef, a'.tmps.getD 34 undef, a'.tmps.getD 35 undef, a'.tmps.getD 36 undef, a'.tmps.getD 37 undef, a'.tmps.getD 38 undef, a'.tmps.getD 39 undef, a'.tmps.getD 40 undef, a'.tmps.getD 41 undef, a'.tmps.getD 42 undef, a'.tmps.getD 43 undef, a'.tmps.getD 44 undef, a'.tmps.getD 45 undef, a'.tmps.getD 46 undef, a'.tmps.getD 47 undef, a'.tmps.getD 48 undef, a'.tmps.getD 49 undef, a'.tmps.getD 50 undef, a'.tmps.getD 51 undef, a'.tmps.getD 52 undef, a'.tmps.getD 53 undef, a'.tmps.getD 54 undef, a'.tmps.getD 55 undef, a'.tmps.getD 56 undef, a'.tmps.getD 57 undef, a'.tmps.getD 58 undef, a'.tmps.getD 59 undef, a'.tmps.getD 60 undef], []⟩ ∧ j ≤ o.length ∧ ((p + n : Nat) : Int) = inS (o.take j) ∧ Has w' 5 w.heap.size vo l.length (B l) ∧ (l.length : Int) = outS (o.take j) ∧ l ++ applyS (d.data.toList.drop (p + n)) (o.drop j) = applyS d.data.toList o ∧ Below w.heap.size w w' ∧ inS o = d.size ∧ outS o ≤ 120)
    (fun a' _ => o.length - (intOf (a'.tmps.getD 8 undef)).toNat) rfl ?pass ?first
  case first =>
    intro hy
    have HY := hid hy
    clear hy
    go_wp2_with fail
    refine (In_any _ o _ HV.out HF.out).mono ?_
    rintro _ w1 ⟨rfl, hb1⟩
    have Hb1 := hid hb1
    clear hb1
    by_cases h1 : inS o = d.size
    case neg =>
      have hne : (inS o == (d.size : Int)) = false := by simpa using h1
      have HA := hid (show apS d o = (⟨#[]⟩, 7) by rw [apS, if_pos h1])
      clear h1
      generalize inS o = n0 at *
      go_wp2_with fail
      simp only [Exit.jump]
      go_ret2
      exact ⟨by rw [HA.out]; rfl, Hb1.out⟩
    have HE := hid h1
    rw [h1]
    go_wp2_with fail
    refine (Out_any _ o _ (HV.out.later Hb1.out) HF.out).mono ?_
    rintro _ w2 ⟨rfl, hb2⟩
    have Hb2 := hid (below_seq Hb1.out hb2)
    clear hb2
    by_cases h2 : 120 < outS o
    case pos =>
      have HA := hid (show apS d o = (⟨#[]⟩, 5) by rw [apS, if_neg (by simpa using h1), if_pos h2])
      clear h1
      generalize outS o = n1 at *
      go_wp2_with fail
      simp only [Exit.jump]
      go_ret2
      exact ⟨by rw [HA.out]; rfl, Hb2.out⟩
    clear h1
    have HU := hid (show outS o ≤ 120 by omega)
    obtain ⟨n1, hn1⟩ : ∃ n1, outS o = n1 := ⟨_, rfl⟩
    have hn2 : n1 ≤ 120 := by rw [← hn1]; exact HU.out
    rw [hn1]
    clear hn1 h2
    go_wp2_with fail
    rename_i hK
    exact wp_label (hK _ _ (HY.out _ _ ⟨0, 0, 0, _, [], rfl, Nat.zero_le _, rfl, Has.nil _ _ _, rfl, rfl, Hb2.out, HE.out, HU.out⟩))
  case pass =>
    rintro a' w' ⟨j, p, n, vo, l, ha, hj, hpn, hO, hl, hx, hb, hE, hU⟩
    have HA := hid (show apS d o = (⟨(applyS d.data.toList o).toArray⟩, 0) by rw [apS, if_neg (by simpa using hE), if_neg (by omega)])
    have HE := hid hE
    have HU := hid hU
    clear hE hU
    obtain ⟨f, ha2⟩ : ∃ f : Nat → Value, a' = ⟨#[.string d, .slice ao o.length cap, f 2, f 3, f 4, f 5, vo, st p n, .int .i64 (j : Nat), f 9, f 10, f 11, f 12, f 13, f 14, f 15, f 16, f 17, f 18, f 19, f 20, f 21, f 22, f 23, f 24, f 25, f 26, f 27, f 28, f 29, f 30, f 31, f 32, f 33, f 34, f 35, f 36, f 37, f 38, f 39, f 40, f 41, f 42, f 43, f 44, f 45, f 46, f 47, f 48, f 49, f 50, f 51, f 52, f 53, f 54, f 55, f 56, f 57, f 58, f 59, f 60], []⟩ := ⟨fun j => a'.tmps.getD j undef, ha⟩
    clear ha
    subst ha2
    obtain ⟨oo, oc, rfl⟩ := hO.form
    have HO := hid hO
    have HX := hid hx
    have Hb := hid hb
    have HL := hid hl
    have hinB := HF.out.inB j
    have hsp := inS_split o j
    have hnn := (inS_le _ (HF.out.drop j).2).1
    have hq : p + n ≤ d.size := by have := HE.out; omega
    have HP := hid hpn
    clear hO hx hb hl hinB hsp hnn hpn
    by_cases hlt : j < o.length
    · obtain ⟨c, hc⟩ : ∃ c, o[j]? = some c := ⟨_, List.getElem?_eq_getElem hlt⟩
      have hlt' : (j : Int) < (o.length : Int) := by omega
      have hjne : ((j : Int) == (o.length : Int)) = false := by simp; omega
      obtain ⟨g, off, cap', e, hcap, hr, hgs⟩ := HV.out.place (by omega)
      injection e with e1 e2 e3
      subst e1 e3
      obtain ⟨c0, c1, c2⟩ := RC.cells hr hc
      replace c0 := cell_later Hb.out c0
      replace c1 := cell_later Hb.out c1
      replace c2 := cell_later Hb.out c2
      have hA := HF.out.at hc
      have hok := HG.out.at hc
      have hs1 := inS_take_succ o j c hc
      have ho1 := outS_take_succ o j c hc
      have hdc := drop_cons' o j c hc
      have hsp := inS_split o (j + 1)
      have hnn := (inS_le _ (HF.out.drop (j + 1)).2).1
      have hsp2 := outS_split o (j + 1)
      have hnn2 := (outS_le _ (HF.out.drop (j + 1)).2).1
      clear hr hc
      rcases hok with ⟨hk, hn1, hs0⟩ | ⟨hk, hn0, hs1'⟩
      · obtain ⟨m, hm⟩ : ∃ m : Nat, c.n = (m : Int) := Int.eq_ofNat_of_zero_le (by omega)
        have hov : c.over = (m : Int) := by rw [Cp.over, if_pos hk, hm]
        have hqm : p + n + m ≤ d.size := by have := HE.out; have := HP.out; omega
        rw [hm] at c1
        rcases hk with hk | hk
        · have hol : c.outl = (m : Int) := by rw [Cp.outl, if_pos hk, hs0, hm]; simp
          have hl2 : l.length + m ≤ 120 := by have := HL.out; have := HU.out; omega
          rw [hk] at c0
          have HR := hid (show ∀ l2, l2 = l ++ (d.extract (p + n) (p + n + m)).data.toList → (((p + n + m : Nat) : Int) = inS (o.take (j + 1)) ∧ (l2.length : Int) = outS (o.take (j + 1)) ∧ l2 ++ applyS (d.data.toList.drop (p + n + m)) (o.drop (j + 1)) = applyS d.data.toList o) from by
            rintro l2 rfl
            have hel : (d.extract (p + n) (p + n + m)).data.toList = (d.data.toList.drop (p + n)).take m := by rw [Lib.extract_data]; congr 1; omega
            have hx := HX.out
            rw [hdc, applyS, if_pos hk, hm, Int.toNat_natCast, List.drop_drop] at hx
            refine ⟨by rw [hs1, ← HP.out, hov]; omega, ?_, ?_⟩
            · rw [ho1, hol, ← HL.out, hel, List.length_append, List.length_take, List.length_drop, ← size_list]; omega
            · rw [hel, List.append_assoc]; exact hx)
          have hesz : (d.extract (p + n) (p + n + m)).size = m := by rw [ByteArray.size_extract]; omega
          have Hes := hid hesz
          have HC1 := hid (show 1 ≤ m by omega)
          clear hsp hnn hsp2 hnn2 hs1 ho1 hdc hov hol hk hs0 hm hesz hn1
          go_wp2_with fail
          refine (over_any ⟨1, m, c.s⟩ _).mono ?_
          rintro _ w2 ⟨rfl, hb2⟩
          simp only [true_or, if_true]
          have Hb2 := hid hb2
          clear hb2
          go_wp2_with fail
          refine (next_any p n m (by omega) _).mono ?_
          rintro _ w3 ⟨rfl, rfl⟩
          go_wp2_with fail
          refine (within_st (p + n) m d.size (by omega) (by omega) _).mono ?_
          rintro _ w4 ⟨rfl, rfl⟩
          rw [decide_eq_true hqm]
          replace c0 := cell_later Hb2.out c0
          go_wp2_with fail
          refine (from_any (p + n) m (by omega) _).mono ?_
          rintro _ w5 ⟨rfl, rfl⟩
          go_wp2_with fail
          refine (end_any (p + n) m (by omega) _).mono ?_
          rintro _ w6 ⟨rfl, rfl⟩
          have hq1 : ((p + n : Nat) : Int) ≤ ((p + n + m : Nat) : Int) := by omega
          have hq2 : ((p + n + m : Nat) : Int) ≤ (d.size : Int) := by omega
          go_wp2_with (at_builtin; go_must (refine wpList_append_has _ rfl _ _ 32 9 rfl 5 i0 (.int .u8 0) Try.underlying32 hi hz0 hz1 hz2 rfl w.heap.size _ _ _ rfl (HO.out.later Hb2.out) (Nat.le_trans Hb.out.size Hb2.out.size) _ _ _ rfl (Src.ofString _ Try.underlying9 (d.extract (p + n) (p + n + m))) ?hm ?hb ?_))
          case hm => rw [Hes.out]; have := HC1.out; omega
          case hb => rw [Hes.out]; omega
          intro v2 w7 hO2 hb7
          rw [byteCells_B, ← B_append] at hO2
          obtain ⟨oo2, oc2, rfl⟩ := hO2.form
          have HO2 := hid hO2
          have Hb7 := hid hb7
          clear hO2 hb7
          go_wp2_with fail
          go_step3
          obtain ⟨r1, r2, r3⟩ := HR.out _ rfl
          have hlen2 : (l ++ (d.extract (p + n) (p + n + m)).data.toList).length = l.length + m := by rw [List.length_append, ← size_list, Hes.out]
          exact ⟨rfl, ⟨j + 1, p + n, m, _, _, rfl, by omega, r1, by rw [hlen2]; exact HO2.out, r2, r3, (below_seq Hb.out Hb2.out).trans Hb7.out, HE.out, HU.out⟩, by simp [intOf]; omega⟩
        · have hol : c.outl = 0 := by rw [Cp.outl, if_neg (by omega), hs0]; simp
          rw [hk] at c0
          have HR := hid (show ((p + n + m : Nat) : Int) = inS (o.take (j + 1)) ∧ (l.length : Int) = outS (o.take (j + 1)) ∧ l ++ applyS (d.data.toList.drop (p + n + m)) (o.drop (j + 1)) = applyS d.data.toList o from by
            have hx := HX.out
            rw [hdc, applyS, if_neg (by omega), if_neg (by omega), hm, Int.toNat_natCast, List.drop_drop] at hx
            refine ⟨by rw [hs1, ← HP.out, hov]; omega, by rw [ho1, hol, ← HL.out]; omega, hx⟩)
          clear hsp hnn hsp2 hnn2 hs1 ho1 hdc hov hol hk hs0 hm hn1
          go_wp2_with fail
          refine (over_any ⟨3, m, c.s⟩ _).mono ?_
          rintro _ w2 ⟨rfl, hb2⟩
          simp only [or_true, if_true]
          have Hb2 := hid hb2
          clear hb2
          go_wp2_with fail
          refine (next_any p n m (by omega) _).mono ?_
          rintro _ w3 ⟨rfl, rfl⟩
          go_wp2_with fail
          refine (within_st (p + n) m d.size (by omega) (by omega) _).mono ?_
          rintro _ w4 ⟨rfl, rfl⟩
          rw [decide_eq_true hqm]
          replace c0 := cell_later Hb2.out c0
          go_wp2_with fail
          go_step3
          obtain ⟨r1, r2, r3⟩ := HR.out
          exact ⟨rfl, ⟨j + 1, p + n, m, _, l, rfl, by omega, r1, HO.out.later Hb2.out, r2, r3, below_seq Hb.out Hb2.out, HE.out, HU.out⟩, by simp [intOf]; omega⟩
      · have hov : c.over = 0 := by rw [Cp.over, if_neg (by omega)]
        have hol : c.outl = (c.s.size : Int) := by rw [Cp.outl, if_neg (by omega)]; simp
        have hl2 : l.length + c.s.size ≤ 120 := by have := HL.out; have := HU.out; omega
        rw [hk] at c0
        have HR := hid (show ((p + n + 0 : Nat) : Int) = inS (o.take (j + 1)) ∧ ((l ++ c.s.data.toList).length : Int) = outS (o.take (j + 1)) ∧ (l ++ c.s.data.toList) ++ applyS (d.data.toList.drop (p + n + 0)) (o.drop (j + 1)) = applyS d.data.toList o from by
          have hx := HX.out
          rw [hdc, applyS, if_neg (by omega), if_pos hk] at hx
          refine ⟨by rw [hs1, ← HP.out, hov]; omega, by rw [ho1, hol, ← HL.out, List.length_append, ← size_list]; omega, by rw [List.append_assoc]; exact hx⟩)
        have HS1 := hid hs1'
        clear hsp hnn hsp2 hnn2 hs1 ho1 hdc hov hol hk hn0 hs1'
        go_wp2_with fail
        refine (over_any ⟨2, c.n, c.s⟩ _).mono ?_
        rintro _ w2 ⟨rfl, hb2⟩
        simp only [show ¬((2 : Int) = 1 ∨ (2 : Int) = 3) by omega, if_false]
        have Hb2 := hid hb2
        clear hb2
        go_wp2_with fail
        refine (next_any p n 0 (by omega) _).mono ?_
        rintro _ w3 ⟨rfl, rfl⟩
        go_wp2_with fail
        refine (within_st (p + n) 0 d.size (by omega) (by omega) _).mono ?_
        rintro _ w4 ⟨rfl, rfl⟩
        rw [decide_eq_true (by omega)]
        replace c0 := cell_later Hb2.out c0
        replace c2 := cell_later Hb2.out c2
        go_wp2_with (at_builtin; go_must (refine wpList_append_has _ rfl _ _ 32 9 rfl 5 i0 (.int .u8 0) Try.underlying32 hi hz0 hz1 hz2 rfl w.heap.size _ _ _ rfl (HO.out.later Hb2.out) (Nat.le_trans Hb.out.size Hb2.out.size) _ _ _ rfl (Src.ofString _ Try.underlying9 c.s) ?hm ?hb ?_))
        case hm => exact HS1.out
        case hb => omega
        intro v2 w7 hO2 hb7
        rw [byteCells_B, ← B_append] at hO2
        obtain ⟨oo2, oc2, rfl⟩ := hO2.form
        have HO2 := hid hO2
        have Hb7 := hid hb7
        clear hO2 hb7
        go_wp2_with fail
        go_step3
        obtain ⟨r1, r2, r3⟩ := HR.out
        have hlen2 : (l ++ c.s.data.toList).length = l.length + c.s.size := by rw [List.length_append, ← size_list]
        exact ⟨rfl, ⟨j + 1, p + n, 0, _, _, rfl, by omega, r1, by rw [hlen2]; exact HO2.out, r2, r3, (below_seq Hb.out Hb2.out).trans Hb7.out, HE.out, HU.out⟩, by simp [intOf]; omega⟩
    · have hj2 : j = o.length := by omega
      subst hj2
      have HX2 := hid (show l = applyS d.data.toList o by have := HX.out; rwa [List.drop_length, applyS, List.append_nil] at this)
      have hst := run_string (P := Try.prog) w' 32 9 5 Try.underlying32 Try.underlying5 Try.underlying9 HO.out.reads
      clear HX HP
      go_wp2_with fail
      simp only [Exit.jump]
      go_ret2
      exact ⟨by rw [HA.out, ← HX2.out]; rfl, Hb.out⟩
end Go.Proofs.Ytmphckpmlkgkkab
