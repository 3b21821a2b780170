/- What Make makes is let by. -/
import Derived.Test.YtajkjbhfkeakhaaMake
import Derived.Test.YtajkjbhfkeakhaaChk
namespace Go.Proofs.Ytajkjbhfkeakhaa
theorem chkP_val {c : Cp} (h : c.Val) : chkP c = 0 := by
  rcases h with ⟨a, b, c', d⟩ | ⟨a, b, c', d⟩
  · rw [chkP, if_pos a, if_neg (by omega)]
  · rw [chkP, if_neg (by omega), if_pos a, if_neg (by omega), if_neg (by omega)]
theorem chkL_val : ∀ (o : List Cp), Vals o → chkL o = 0
  | [], _ => rfl
  | c :: o, h => by
    rw [chkL, chkP_val (h c (by simp)), if_neg (by simp)]
    exact chkL_val o (fun d hd => h d (by simp [hd]))
theorem chkS_val {o : List Cp} (h : Vals o) (hl : o.length ≤ 40) : chkS o = 0 := by rw [chkS, if_neg (by omega), chkL_val o h]
end Go.Proofs.Ytajkjbhfkeakhaa
