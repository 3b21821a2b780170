/- The contract of the laws' own function Doc. -/
import Derived.Test.YtbhojomgbjchkaaMade4
namespace Go.Proofs.Ytbhojomgbjchkaa
open Go.RowKit
set_option linter.unusedSimpArgs false
set_option linter.unusedVariables false

set_option maxHeartbeats 1000000 in
theorem Doc_any (ao : Option Addr) (cap : Nat) (l : List UInt8) (w : World) (hr : Reads w (.slice ao l.length cap) (B l)) (hm : l.length ≤ maxLen) :
    Calls Try.prog 10 #[.slice ao l.length cap] w fun e w' => ∃ d : ByteArray, e = .returned (.string d) ∧ d.size ≤ 100 ∧ w' = w := by
  have hcap : l.length ≤ cap := by obtain ⟨a, c, e, h1, _⟩ := hr; injection e with e1 e2 e3; subst e3; rwa [B_length] at h1
  obtain ⟨k, hif, hk1, hk2⟩ : ∃ k : Nat, (if (100 : Int) < (l.length : Int) then (100 : Int) else (l.length : Int)) = (k : Int) ∧ k ≤ l.length ∧ k ≤ 100 := by
    by_cases h : 100 < l.length
    · exact ⟨100, by rw [if_pos (by omega)]; rfl, by omega, by omega⟩
    · exact ⟨l.length, by rw [if_neg (by omega)], by omega, by omega⟩
  obtain ⟨p, c, hsl, hrd⟩ : ∃ p c, (∀ wx, (Instr.slice 22 (.slice ao l.length cap) none (some (.int .i64 (k : Int))) none).run Try.prog wx = .ok (.slice p k c) wx) ∧ Reads w (.slice p k c) (B (l.take k)) := by
    obtain ⟨a, c, e, h1, h2, h3⟩ := hr
    injection e with e1 e2 e3
    subst e1 e3
    have hkl : (B (l.take k)).length = k := by rw [B_length, List.length_take]; omega
    by_cases h0 : cap = 0
    · subst h0
      have hk0 : k = 0 := by omega
      subst hk0
      exact ⟨ao, 0, fun wx => by go_simp, ⟨ao, 0, by rw [hkl], by rw [hkl]; omega, fun _ => rfl, fun _ _ j u hj => by simp [B] at hj⟩⟩
    · refine ⟨ao.map fun x => x.add 0, cap, fun wx => ?_, ⟨_, cap, by rw [hkl], by rw [hkl]; omega, ?_, ?_⟩⟩
      · have hkc : (k : Int) ≤ (cap : Int) := by omega
        go_simp
      · intro h; cases ao with
        | none => exact h2 rfl
        | some x => cases h
      · intro ad he j u hj
        cases ao with
        | none => cases he
        | some x =>
          have hx0 : x.add 0 = x := by simp [Addr.add]
          simp only [Option.map_some, hx0] at he
          cases he
          refine h3 _ rfl j u ?_
          rw [B_get] at hj ⊢
          rw [List.getElem?_take] at hj
          split at hj
          · exact hj
          · simp at hj
  have hst := run_string (P := Try.prog) w 22 9 5 Try.underlying22 Try.underlying5 Try.underlying9 hrd
  have HD := hid (show (⟨(l.take k).toArray⟩ : ByteArray).size ≤ 100 by rw [size_list]; simp; omega)
  generalize (⟨(l.take k).toArray⟩ : ByteArray) = d at *
  clear hr hrd
  go_enter Try.func10, Try.ntmps10
  go_wp2_with fail
  go_ret
  exact ⟨d, rfl, HD.out, rfl⟩
end Go.Proofs.Ytbhojomgbjchkaa
