/- What the laws of signs share. -/
import Derived.Test.YtnflkibkionjmaaDoorMacKnown
namespace Go.Proofs.YtnflkibkionjmaaDoor
open Go.RowKit
set_option linter.unusedSimpArgs false
set_option linter.unusedVariables false

theorem eqM (k t : List UInt8) : ∀ w : World, (Op.equalIn 10000 26 (.agg (B (macS k t)).toArray) (.agg (B (macS k t)).toArray)).run Tryd.prog w = .ok true w := eqH (macS k t) (macS_len k t)

/-- A slice of one slice, new. -/
theorem parts_new {w : World} {p : Option Addr} {n c : Nat} {l : List UInt8} (hr : Reads w (.slice p n c) (B l)) (hn : l.length = n) (hc : c ≤ maxLen) : Parts (w.alloc (.cells #[.slice p n c] 22)) (.slice (some ⟨w.heap.size, 0, none⟩) 1 1) [l] :=
  Parts.one (t := 22) (fr := (0, 0)) (by rw [heap_of_alloc, if_pos rfl]) (hr.later (Below.alloc (Below.refl _ _) (Nat.le_refl _) _)) hn hc

theorem IsRow.cap {k : IntKind} {w : World} {a : Option Addr} {len cap : Nat} {zs : List Int} (h : IsRow k w a len cap zs) : cap ≤ maxLen := by
  rcases h with ⟨_, _, rfl, _⟩ | ⟨x, _, _, h, _⟩
  · exact Nat.zero_le _
  · exact h
theorem below_new (w : World) (o : Obj) : Below w.heap.size w (w.alloc o) := Below.alloc (Below.refl _ _) (Nat.le_refl _) _
end Go.Proofs.YtnflkibkionjmaaDoor
