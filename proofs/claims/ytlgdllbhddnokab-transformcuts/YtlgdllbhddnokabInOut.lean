/- The contract of In. -/
import Derived.Test.YtlgdllbhddnokabStretch
import Derived.Test.YtlgdllbhddnokabOpS
namespace Go.Proofs.Ytlgdllbhddnokab
open Go.RowKit
set_option linter.unusedSimpArgs false
set_option linter.unusedVariables false

set_option maxRecDepth 100000 in
set_option maxHeartbeats 1000000 in
theorem In_any (v : Value) (o : List Cp) (w : World) (hv : RC w v o) (hf : Fit o) :
    Calls Try.prog 20 #[v] w fun e w' => e = .returned (.int .i64 (inS o)) ∧ Below w.heap.size w w' := by
  obtain ⟨ao, cap, rfl⟩ := hv.form
  have HV := hid hv
  have HF := hid hf
  have hlen := hf.1
  clear hv hf
  go_enter Try.func20, Try.ntmps20
  go_wp2
  go_loopw [3, 8] (fun n i wr => ∃ j : Nat, j ≤ o.length ∧ i = .int .i64 j ∧ n = .int .i64 (inS (o.take j)) ∧ Below w.heap.size w wr) (fun _ i _ => o.length - (intOf i).toNat)
  case atStart => exact ⟨0, Nat.zero_le _, rfl, rfl, Below.refl _ _⟩
  case round =>
    obtain ⟨j, hj, rfl, rfl, hb⟩ := hrel
    have Hb := hid hb
    clear hb
    by_cases hlt : j < o.length
    · have hlt' : (j : Int) < (o.length : Int) := by omega
      obtain ⟨c, hc⟩ : ∃ c, o[j]? = some c := ⟨_, List.getElem?_eq_getElem hlt⟩
      obtain ⟨g, off, cap', e, hcap, hr, hg⟩ := HV.out.place (by omega)
      injection e with e1 e2 e3
      subst e1 e3
      obtain ⟨c0, c1, c2⟩ := RC.cells hr hc
      replace c0 := cell_later Hb.out c0
      replace c1 := cell_later Hb.out c1
      replace c2 := cell_later Hb.out c2
      have hB := HF.out.inB j
      have hA := HF.out.at hc
      have HS := hid (inS_take_succ o j c hc)
      clear hr hc e2
      have hO := Cp.over_le hA
      generalize inS (o.take j) = n0 at *
      go_wp2_with fail
      refine (over_any c _).mono ?_
      rintro _ w2 ⟨rfl, hb2⟩
      rw [show (if c.k = 1 ∨ c.k = 3 then c.n else 0) = c.over from rfl]
      generalize c.over = n1 at *
      go_wp2_with fail
      go_roundw
      case rel => exact ⟨j + 1, by omega, by go_num, by rw [HS.out], (Hb.out.alloc Hb.out.size _).trans (hb2.mono (by have := Hb.out.size; simp; omega))⟩
      case measure => simp [intOf]; omega
    · have hj2 : j = o.length := by omega
      subst hj2
      rw [take_all']
      go_wp2
      go_ret
      exact ⟨rfl, Hb.out⟩
end Go.Proofs.Ytlgdllbhddnokab
