/- The contracts of the second say's In and Out. -/
import Derived.Test.YtlgdllbhddnokabInOut
namespace Go.Proofs.Ytlgdllbhddnokab
open Go.RowKit
set_option linter.unusedSimpArgs false
set_option linter.unusedVariables false

set_option maxRecDepth 100000 in
set_option maxHeartbeats 1000000 in
theorem refIn_any (v : Value) (o : List Cp) (w : World) (hv : RC w v o) (hf : Fit o) (hg : Good o) :
    Calls Try.prog 14 #[v] w fun e w' => e = .returned (.int .i64 (inS o)) ∧ w' = w := by
  obtain ⟨ao, cap, rfl⟩ := hv.form
  have HV := hid hv
  have HF := hid hf
  have hlen := hf.1
  clear hv hf
  have HG := hid hg
  clear hg
  go_enter Try.func14, Try.ntmps14
  go_wp2
  go_loop [3, 4] (fun n i => ∃ j : Nat, j ≤ o.length ∧ i = .int .i64 j ∧ n = .int .i64 (inS (o.take j))) (fun _ i => o.length - (intOf i).toNat)
  case atStart => exact ⟨0, Nat.zero_le _, rfl, rfl⟩
  case round =>
    obtain ⟨j, hj, rfl, rfl⟩ := hrel
    by_cases hlt : j < o.length
    · have hlt' : (j : Int) < (o.length : Int) := by omega
      obtain ⟨c, hc⟩ : ∃ c, o[j]? = some c := ⟨_, List.getElem?_eq_getElem hlt⟩
      obtain ⟨g, off, cap', e, hcap, hr, hg⟩ := HV.out.place (by omega)
      injection e with e1 e2 e3
      subst e1 e3
      obtain ⟨c0, c1, c2⟩ := RC.cells hr hc
      have hB := HF.out.inB j
      have hA := HF.out.at hc
      have HS := hid (inS_take_succ o j c hc)
      have hk := (HG.out.at hc).kind
      clear hr hc e2
      generalize inS (o.take j) = n0 at *
      by_cases h1 : c.k = 2
      · have HO := hid (show c.over = 0 by simp [Cp.over, h1])
        rw [h1] at c0
        go_wp2
        go_round
        case rel => exact ⟨j + 1, by omega, by go_num, by rw [HS.out, HO.out, Int.add_zero]⟩
        case measure => simp [intOf]; omega
      · have HO := hid (show c.over = c.n by rw [Cp.over, if_pos (by omega)])
        have e1 : (c.k == 2) = false := by simpa using h1
        go_wp2
        go_round
        case rel => exact ⟨j + 1, by omega, by go_num, by rw [HS.out, HO.out]⟩
        case measure => simp [intOf]; omega
    · have hj2 : j = o.length := by omega
      subst hj2
      rw [take_all']
      go_wp2
      go_ret
      exact ⟨rfl, rfl⟩

set_option maxRecDepth 100000 in
set_option maxHeartbeats 1000000 in
theorem refOut_any (v : Value) (o : List Cp) (w : World) (hv : RC w v o) (hf : Fit o) :
    Calls Try.prog 28 #[v] w fun e w' => e = .returned (.int .i64 (outS o)) ∧ w' = w := by
  obtain ⟨ao, cap, rfl⟩ := hv.form
  have HV := hid hv
  have HF := hid hf
  have hlen := hf.1
  clear hv hf
  go_enter Try.func28, Try.ntmps28
  go_wp2
  go_loop [3, 4] (fun n i => ∃ j : Nat, j ≤ o.length ∧ i = .int .i64 j ∧ n = .int .i64 (outS (o.take j))) (fun _ i => o.length - (intOf i).toNat)
  case atStart => exact ⟨0, Nat.zero_le _, rfl, rfl⟩
  case round =>
    obtain ⟨j, hj, rfl, rfl⟩ := hrel
    by_cases hlt : j < o.length
    · have hlt' : (j : Int) < (o.length : Int) := by omega
      obtain ⟨c, hc⟩ : ∃ c, o[j]? = some c := ⟨_, List.getElem?_eq_getElem hlt⟩
      obtain ⟨g, off, cap', e, hcap, hr, hg⟩ := HV.out.place (by omega)
      injection e with e1 e2 e3
      subst e1 e3
      obtain ⟨c0, c1, c2⟩ := RC.cells hr hc
      have hB := HF.out.outB j
      have hA := HF.out.at hc
      have HS := hid (outS_take_succ o j c hc)
      clear hr hc e2
      generalize outS (o.take j) = n0 at *
      by_cases h1 : c.k = 1
      · have HO := hid (show c.outl = c.n + (c.s.size : Int) by simp [Cp.outl, h1]; omega)
        rw [h1] at c0
        go_wp2
        go_round
        case rel => exact ⟨j + 1, by omega, by go_num, by rw [HS.out, HO.out, Int.add_assoc]⟩
        case measure => simp [intOf]; omega
      · have HO := hid (show c.outl = (c.s.size : Int) by simp [Cp.outl, h1])
        have e1 : (c.k == 1) = false := by simpa using h1
        go_wp2
        go_round
        case rel => exact ⟨j + 1, by omega, by go_num, by rw [HS.out, HO.out]⟩
        case measure => simp [intOf]; omega
    · have hj2 : j = o.length := by omega
      subst hj2
      rw [take_all']
      go_wp2
      go_ret
      exact ⟨rfl, rfl⟩
end Go.Proofs.Ytlgdllbhddnokab
