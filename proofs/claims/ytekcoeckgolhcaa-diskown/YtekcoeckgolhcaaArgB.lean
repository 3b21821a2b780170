/- A slice of bytes that came in, with its bounds. -/
import Derived.Test.YtekcoeckgolhcaaArg
namespace Go.Proofs.Ytekcoeckgolhcaa
open Go.RowKit

theorem bytes_arg {w : World} {a : Option Addr} {len cap : Nat} {zs : List Int} (h : IsRow .u8 w a len cap zs) : ∃ l : List UInt8, l.length = len ∧ len ≤ cap ∧ cap ≤ maxLen ∧ Reads w (.slice a len cap) (B l) := by
  have hb : len ≤ cap ∧ cap ≤ maxLen := by
    rcases h with ⟨_, rfl, rfl, _⟩ | ⟨x, _, h1, h2, _⟩
    · exact ⟨Nat.le_refl _, Nat.zero_le _⟩
    · exact ⟨h1, h2⟩
  obtain ⟨l, h1, _, h3⟩ := bytes_of_row h
  subst h1
  exact ⟨l, rfl, hb.1, hb.2, h3⟩
end Go.Proofs.Ytekcoeckgolhcaa
