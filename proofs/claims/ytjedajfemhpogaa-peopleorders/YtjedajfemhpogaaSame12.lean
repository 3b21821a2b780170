/- The contract of the laws' own same (chapter 12). -/
import Derived.Test.YtjedajfemhpogaaAdrEq
namespace Go.Proofs.Ytjedajfemhpogaa
open Go.RowKit
set_option linter.unusedSimpArgs false
set_option linter.unusedVariables false

set_option maxRecDepth 100000 in
set_option maxHeartbeats 2000000 in
theorem same12_any (va vb : Value) (a : List Ad) (w : World) (ha : RA w va a) (hb : RA w vb a) (hla : a.length ≤ 1048576) :
    Calls Try.prog 8 #[va, vb] w fun e w' => e = .returned (.bool true) ∧ Below w.heap.size w w' := by
  obtain ⟨aa, ca, rfl⟩ := ha.form
  obtain ⟨ab, cb, rfl⟩ := hb.form
  obtain ⟨n, hn⟩ : ∃ n, a.length = n := ⟨_, rfl⟩
  have HN := hid hn
  rw [hn] at ha hb hla ⊢
  have HA := hid ha
  have HB := hid hb
  have heq : ((n : Int) == (n : Int)) = true := by simp
  clear ha hb hn
  go_enter Try.func8, Try.ntmps8
  go_wp2
  go_loopw [5] (fun i wr => ∃ j : Nat, j ≤ n ∧ i = .int .i64 j ∧ Below w.heap.size w wr) (fun i _ => n - (intOf i).toNat)
  case atStart => exact ⟨0, Nat.zero_le _, rfl, Below.refl _ _⟩
  case round =>
    obtain ⟨j, hj, rfl, hb⟩ := hrel
    have Hb := hid hb
    clear hb
    by_cases hlt : j < n
    · have hlt' : (j : Int) < (n : Int) := by omega
      obtain ⟨x, hx⟩ : ∃ c, a[j]? = some c := ⟨_, List.getElem?_eq_getElem (by have := HN.out; omega)⟩
      obtain ⟨ga, oa, ca', e, hcapa, hra, hga⟩ := HA.out.place (by have := HN.out; omega)
      injection e with e1 e2 e3
      subst e1 e3
      obtain ⟨gb, ob, cb', e, hcapb, hrb, hgb⟩ := HB.out.place (by have := HN.out; omega)
      injection e with e1 e4 e3
      subst e1 e3
      obtain ⟨x0, x1⟩ := RA.cells hra hx
      obtain ⟨y0, y1⟩ := RA.cells hrb hx
      replace x0 := cell_later Hb.out x0
      replace x1 := cell_later Hb.out x1
      replace y0 := cell_later Hb.out y0
      replace y1 := cell_later Hb.out y1
      have hneq := fun wx => neq_a wx x x
      rw [ad_eq] at hneq
      clear hra hrb hx e2 e4 hcapa hcapb
      go_wp2_with fail
      go_region
      all_goals
        go_wp2_with fail
        go_roundw
        case rel => exact ⟨j + 1, by omega, by go_num, Hb.out.drew⟩
        case measure => simp [intOf]; omega
    · have hj2 : j = n := by omega
      subst hj2
      go_wp2
      go_ret
      exact ⟨rfl, Hb.out⟩
end Go.Proofs.Ytjedajfemhpogaa
