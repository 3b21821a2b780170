/- The contract of the second say's Apply. -/
import Derived.Test.YtlgdllbhddnokabApplB
import Derived.Test.YtlgdllbhddnokabRefIO
namespace Go.Proofs.Ytlgdllbhddnokab
open Go.RowKit
set_option linter.unusedSimpArgs false
set_option linter.unusedVariables false

set_option maxRecDepth 100000 in
set_option maxHeartbeats 2000000 in
theorem refApply_any (d : ByteArray) (v : Value) (o : List Cp) (w : World) (hv : RC w v o) (hf : Fit o) (hg : Good o) (hd : d.size ≤ 1099511627776) :
    Calls Try.prog 17 #[.string d, v] w fun e w' => e = .returned (.tuple #[.string (apS d o).1, .int .i64 (apS d o).2]) ∧ w' = w := by
  obtain ⟨ao, cap, rfl⟩ := hv.form
  have HV := hid hv
  have HF := hid hf
  have HG := hid hg
  have hlen := hf.1
  clear hv hf hg
  go_enter Try.func17, Try.ntmps17
  go_wp2_with fail
  refine (refIn_any _ o _ HV.out HF.out HG.out).mono ?_
  rintro _ w1 ⟨rfl, rfl⟩
  by_cases h1 : inS o = d.size
  case neg =>
    have hne : (inS o == (d.size : Int)) = false := by simpa using h1
    have HA := hid (show apS d o = (⟨#[]⟩, 7) by rw [apS, if_pos h1])
    clear h1
    generalize inS o = n0 at *
    go_wp2_with fail
    go_ret2
    exact ⟨by rw [HA.out]; rfl, rfl⟩
  have HE := hid h1
  rw [h1]
  go_wp2_with fail
  refine (refOut_any _ o _ HV.out HF.out).mono ?_
  rintro _ w2 ⟨rfl, rfl⟩
  by_cases h2 : 120 < outS o
  case pos =>
    have HA := hid (show apS d o = (⟨#[]⟩, 5) by rw [apS, if_neg (by simpa using h1), if_pos h2])
    clear h1
    generalize outS o = n1 at *
    go_wp2_with fail
    go_ret2
    exact ⟨by rw [HA.out]; rfl, rfl⟩
  have HA := hid (show apS d o = (⟨(applyS d.data.toList o).toArray⟩, 0) by rw [apS, if_neg (by simpa using h1), if_neg h2])
  clear h1
  have HU := hid (show outS o ≤ 120 by omega)
  obtain ⟨n1, hn1⟩ : ∃ n1, outS o = n1 := ⟨_, rfl⟩
  have hn2 : n1 ≤ 120 := by rw [← hn1]; exact HU.out
  rw [hn1]
  clear hn1 h2
  go_wp2_with fail
  go_loop [6, 7, 8] (fun x q i => ∃ (j p : Nat) (s : ByteArray), j ≤ o.length ∧ i = .int .i64 j ∧ q = .int .i64 p ∧ x = .string s ∧ (p : Int) = inS (o.take j) ∧ (s.size : Int) = outS (o.take j) ∧ s.data.toList ++ applyS (d.data.toList.drop p) (o.drop j) = applyS d.data.toList o) (fun _ _ i => o.length - (intOf i).toNat)
  case atStart => exact ⟨0, 0, ⟨#[]⟩, Nat.zero_le _, rfl, rfl, rfl, rfl, rfl, rfl⟩
  case round =>
    obtain ⟨j, p, s, hj, rfl, rfl, rfl, hp, hl, hx⟩ := hrel
    by_cases hlt : j < o.length
    · obtain ⟨c, hc⟩ : ∃ c, o[j]? = some c := ⟨_, List.getElem?_eq_getElem hlt⟩
      have hlt' : (j : Int) < (o.length : Int) := by omega
      obtain ⟨g, off, cap', e, hcap, hr, hgs⟩ := HV.out.place (by omega)
      injection e with e1 e2 e3
      subst e1 e3
      obtain ⟨c0, c1, c2⟩ := RC.cells hr hc
      have hA := HF.out.at hc
      have hok := HG.out.at hc
      have hs1 := inS_take_succ o j c hc
      have ho1 := outS_take_succ o j c hc
      have hdc := drop_cons' o j c hc
      have hsp := inS_split o (j + 1)
      have hnn := (inS_le _ (HF.out.drop (j + 1)).2).1
      have hsp2 := outS_split o (j + 1)
      have hnn2 := (outS_le _ (HF.out.drop (j + 1)).2).1
      have HP := hid hp
      have HL := hid hl
      have HX := hid hx
      clear hr hc hp hl hx e2
      rcases hok with ⟨hk, hn1, hs0⟩ | ⟨hk, hn0, hs1'⟩
      · obtain ⟨m, hm⟩ : ∃ m : Nat, c.n = (m : Int) := Int.eq_ofNat_of_zero_le (by omega)
        have hov : c.over = (m : Int) := by rw [Cp.over, if_pos hk, hm]
        have hqm : p + m ≤ d.size := by have := HE.out; have := HP.out; omega
        rw [hm] at c1
        rcases hk with hk | hk
        · have hol : c.outl = (m : Int) := by rw [Cp.outl, if_pos hk, hs0, hm]; simp
          have hl2 : s.size + m ≤ 120 := by have := HL.out; have := HU.out; omega
          rw [hk] at c0
          have HR := hid (show ((p + m : Nat) : Int) = inS (o.take (j + 1)) ∧ ((s ++ d.extract p (p + m)).size : Int) = outS (o.take (j + 1)) ∧ (s ++ d.extract p (p + m)).data.toList ++ applyS (d.data.toList.drop (p + m)) (o.drop (j + 1)) = applyS d.data.toList o from by
            have hel : (d.extract p (p + m)).data.toList = (d.data.toList.drop p).take m := by rw [Lib.extract_data]; congr 1; omega
            have hx := HX.out
            rw [hdc, applyS, if_pos hk, hm, Int.toNat_natCast, List.drop_drop] at hx
            refine ⟨by rw [hs1, ← HP.out, hov]; omega, ?_, ?_⟩
            · rw [ho1, hol, ← HL.out, ByteArray.size_append, ByteArray.size_extract]; omega
            · rw [append_list, hel, List.append_assoc]; exact hx)
          have hq1 : (p : Int) ≤ ((p + m : Nat) : Int) := by omega
          have hq2 : ((p + m : Nat) : Int) ≤ (d.size : Int) := by omega
          clear hsp hnn hsp2 hnn2 hs1 ho1 hdc hov hol hk hs0 hm hn1
          go_wp2
          go_round
          case rel =>
            obtain ⟨r1, r2, r3⟩ := HR.out
            exact ⟨j + 1, p + m, _, by omega, by go_num, by go_num, rfl, r1, r2, r3⟩
          case measure => simp [intOf]; omega
        · have hol : c.outl = 0 := by rw [Cp.outl, if_neg (by omega), hs0]; simp
          have hk1 : c.k = 3 := hk
          rw [hk] at c0
          have HR := hid (show ((p + m : Nat) : Int) = inS (o.take (j + 1)) ∧ (s.size : Int) = outS (o.take (j + 1)) ∧ s.data.toList ++ applyS (d.data.toList.drop (p + m)) (o.drop (j + 1)) = applyS d.data.toList o from by
            have hx := HX.out
            rw [hdc, applyS, if_neg (by omega), if_neg (by omega), hm, Int.toNat_natCast, List.drop_drop] at hx
            refine ⟨by rw [hs1, ← HP.out, hov]; omega, by rw [ho1, hol, ← HL.out]; omega, hx⟩)
          clear hsp hnn hsp2 hnn2 hs1 ho1 hdc hov hol hk hk1 hs0 hm hn1
          go_wp2
          go_round
          case rel =>
            obtain ⟨r1, r2, r3⟩ := HR.out
            exact ⟨j + 1, p + m, _, by omega, by go_num, by go_num, rfl, r1, r2, r3⟩
          case measure => simp [intOf]; omega
      · have hov : c.over = 0 := by rw [Cp.over, if_neg (by omega)]
        have hol : c.outl = (c.s.size : Int) := by rw [Cp.outl, if_neg (by omega)]; simp
        have hl2 : s.size + c.s.size ≤ 120 := by have := HL.out; have := HU.out; omega
        rw [hk] at c0
        have HR := hid (show (p : Int) = inS (o.take (j + 1)) ∧ ((s ++ c.s).size : Int) = outS (o.take (j + 1)) ∧ (s ++ c.s).data.toList ++ applyS (d.data.toList.drop p) (o.drop (j + 1)) = applyS d.data.toList o from by
          have hx := HX.out
          rw [hdc, applyS, if_neg (by omega), if_pos hk] at hx
          refine ⟨by rw [hs1, ← HP.out, hov]; omega, by rw [ho1, hol, ← HL.out, ByteArray.size_append]; omega, by rw [append_list, List.append_assoc]; exact hx⟩)
        clear hsp hnn hsp2 hnn2 hs1 ho1 hdc hov hol hk hn0 hs1'
        go_wp2
        go_round
        case rel =>
          obtain ⟨r1, r2, r3⟩ := HR.out
          exact ⟨j + 1, p, _, by omega, by go_num, rfl, rfl, r1, r2, r3⟩
        case measure => simp [intOf]; omega
    · have hj2 : j = o.length := by omega
      subst hj2
      have HX2 := hid (show s.data.toList = applyS d.data.toList o by have := hx; rwa [List.drop_length, applyS, List.append_nil] at this)
      clear hx hp hl
      go_wp2_with fail
      go_ret2
      exact ⟨by rw [HA.out, ← bytes_of HX2.out]; rfl, rfl⟩
end Go.Proofs.Ytlgdllbhddnokab
