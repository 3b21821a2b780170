/- A slice of bytes that came in, with its bounds. -/
import Derived.Test.YtifdoneffnfogabArg
namespace Go.Proofs.Ytifdoneffnfogab
open Go.RowKit

theorem bytes_arg {w : World} {a : Option Addr} {len cap : Nat} {zs : List Int} (h : IsRow .u8 w a len cap zs) : ∃ l : List UInt8, l.length = len ∧ len ≤ cap ∧ cap ≤ maxLen ∧ Reads w (.slice a len cap) (B l) := by
  have hb : len ≤ cap ∧ cap ≤ maxLen := by
    rcases h with ⟨_, rfl, rfl, _⟩ | ⟨x, _, h1, h2, _⟩
    · exact ⟨Nat.le_refl _, Nat.zero_le _⟩
    · exact ⟨h1, h2⟩
  obtain ⟨l, h1, _, h3⟩ := bytes_of_row h
  subst h1
  exact ⟨l, rfl, hb.1, hb.2, h3⟩

/-- The numbers of a slice that came in. -/
def Nums (w : World) (ao : Option Addr) (len : Nat) : Prop := ∀ j, j < len → ∃ b off x, ao = some ⟨b, off, none⟩ ∧ w.cell? ⟨b, off + j, none⟩ = some (.int .i64 x)
theorem Nums.later {w w' : World} {ao : Option Addr} {len : Nat} (h : Nums w ao len) (hb : Below w.heap.size w w') : Nums w' ao len := fun j hj => by
  obtain ⟨b, off, x, h1, h2⟩ := h j hj
  exact ⟨b, off, x, h1, cell_later hb h2⟩
theorem nums_arg {w : World} {a : Option Addr} {len cap : Nat} {zs : List Int} (h : IsRow .i64 w a len cap zs) : Nums w a len ∧ len ≤ cap ∧ cap ≤ maxLen := by
  rcases h with ⟨rfl, rfl, rfl, rfl⟩ | ⟨ad, rfl, h1, h2, h3, h4, h5⟩
  · exact ⟨fun j hj => absurd hj (Nat.not_lt_zero j), Nat.le_refl _, Nat.zero_le _⟩
  · refine ⟨fun j hj => ?_, h1, h2⟩
    obtain ⟨b, off, sp⟩ := ad
    have h0 := h4 0 (by omega)
    have hsp : sp = none := by
      cases sp with
      | none => rfl
      | some z => simp [Addr.add, World.cell?] at h0; split at h0 <;> simp at h0
    subst hsp
    refine ⟨b, off, zs.getD j 0, rfl, ?_⟩
    have := h4 j (by omega)
    rw [Addr.add_lit] at this
    exact this
end Go.Proofs.Ytifdoneffnfogab
