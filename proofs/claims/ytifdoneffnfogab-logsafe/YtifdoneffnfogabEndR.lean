/- The contract of a Reader's End. -/
import Derived.Test.YtifdoneffnfogabReader0
import Derived.WalkLawsBesides
namespace Go.Proofs.Ytifdoneffnfogab
open Go.RowKit
variable {N : Nat}

set_option maxRecDepth 100000 in
set_option maxHeartbeats 400000 in
theorem End_any (p : Nat) (s : St) (w : World) (hR : RD N w p s) (hm : s.1.length ≤ maxLen) : Calls Try.prog 24 #[.pointer (some ⟨p, 0, none⟩)] w fun e w' => e = .returned (.int .i64 (endS s)) ∧ w' = w := by
  obtain ⟨l, err⟩ := s
  obtain ⟨ao, cap, hh, hr⟩ := hR
  obtain ⟨c0, c1, f0, f1⟩ := cells2 hh
  clear hh hr f0 f1
  unfold maxLen at hm
  simp only at c0 c1 hm
  by_cases he : err = 0
  · subst he
    by_cases hl : 0 < (l.length : Int)
    · have HE : Hid (endS (l, 0) = 9) := by
        have : l ≠ [] := by intro h; subst h; simp at hl
        show endS (l, 0) = 9
        simp [endS, this]
      go_enter Try.func24, Try.ntmps24
      go_wp2
      go_ret
      exact ⟨by rw [HE.out]; rfl, rfl⟩
    · have hl' : (l.length : Int) ≤ 0 := by omega
      have HE : Hid (endS (l, 0) = 0) := by
        have : l = [] := List.eq_nil_of_length_eq_zero (by omega)
        show endS (l, 0) = 0
        simp [endS, this]
      go_enter Try.func24, Try.ntmps24
      go_wp2
      go_ret
      exact ⟨by rw [HE.out]; rfl, rfl⟩
  · have he' : (err == 0) = false := by simpa using he
    have HE : Hid (endS (l, err) = err) := by
      show endS (l, err) = err
      simp [endS, he]
    go_enter Try.func24, Try.ntmps24
    go_wp2
    go_ret
    exact ⟨by rw [HE.out]; rfl, rfl⟩

end Go.Proofs.Ytifdoneffnfogab
