/- The contract of the laws' own rows (chapter 11). -/
import Derived.Test.YtifdoneffnfogaaQ11b
import Derived.Test.YtifdoneffnfogaaPartsD
import Derived.BigQuiet
import Derived.Deep.DeepCutAuto
namespace Go.Proofs.Ytifdoneffnfogaa
open Go.RowKit
set_option linter.unusedSimpArgs false
set_option linter.unusedVariables false

set_option maxRecDepth 100000 in
set_option maxHeartbeats 2000000 in
theorem rows11_any (va vb : Value) (l : List (List UInt8)) (w : World) (hl : l.length ≤ 1000000) (ha : Parts w va l) (hb : Parts w vb l) :
    Calls Try.prog 23 #[va, vb] w fun e w' => e = .returned (.bool true) ∧ Below w.heap.size w w' := by
  obtain ⟨ao, ac, rfl, ha1, ha2, ha3⟩ := ha
  obtain ⟨bo, bc, rfl, hb1, hb2, hb3⟩ := hb
  obtain ⟨n, hn⟩ : ∃ n, l.length = n := ⟨_, rfl⟩
  have HN := hid hn
  rw [hn] at hl ha1 hb1 ⊢
  have HA := hid ha3
  have HB := hid hb3
  have HA2 := hid ha2
  have HB2 := hid hb2
  clear ha2 hb2 ha3 hb3 hn
  go_enter Try.func23, Try.ntmps23
  go_wp2_with fail
  go_loopw [5] (fun i wr => ∃ j : Nat, j ≤ n ∧ i = .int .i64 j ∧ Below w.heap.size w wr) (fun i _ => n - (intOf i).toNat)
  case atStart => exact ⟨0, Nat.zero_le _, rfl, Below.refl _ _⟩
  case round =>
    obtain ⟨j, hj, rfl, hbel⟩ := hrel
    have HBL := hid hbel
    by_cases hlt : j < n
    · have hlt' : (j : Int) < (n : Int) := by omega
      obtain ⟨x, hx⟩ : ∃ x, l[j]? = some x := ⟨_, List.getElem?_eq_getElem (by rw [HN.out]; exact hlt)⟩
      obtain ⟨aa, rfl⟩ : ∃ aa, ao = some aa := by
        cases ao with
        | none => rw [HA2.out rfl] at hx; cases hx
        | some aa => exact ⟨aa, rfl⟩
      obtain ⟨bb, rfl⟩ : ∃ bb, bo = some bb := by
        cases bo with
        | none => rw [HB2.out rfl] at hx; cases hx
        | some bb => exact ⟨bb, rfl⟩
      obtain ⟨pa, ca, h1, h2, _⟩ := HA.out aa rfl j x hx
      obtain ⟨pb, cb, h3, h4, _⟩ := HB.out bb rfl j x hx
      have k1 := cell_later hbel h1
      have k2 := cell_later hbel h3
      have s1 := strQ (h2.later hbel)
      have s2 := strQ (h4.later hbel)
      generalize (⟨x.toArray⟩ : ByteArray) = X at *
      clear h1 h2 h3 h4 hx hbel
      go_wp2_with fail
      go_quiet (fail)
      go_wp2_with fail
      go_roundw
      case rel => exact ⟨j + 1, by omega, by go_num, belowDrewN0' HBL.out nq⟩
      case measure => simp [intOf]; omega
    · have hj2 : ¬ (j : Int) < (n : Int) := by omega
      go_wp2_with fail
      go_ret
      exact ⟨rfl, HBL.out⟩
end Go.Proofs.Ytifdoneffnfogaa
