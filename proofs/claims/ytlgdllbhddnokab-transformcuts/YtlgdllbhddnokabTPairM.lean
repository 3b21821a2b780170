/- What lies in memory on the way of package transform's Pair. -/
import Derived.Test.YtlgdllbhddnokabTPlaced
import Derived.Test.YtlgdllbhddnokabPStep
namespace Go.Proofs.Ytlgdllbhddnokab
open Go.RowKit
set_option linter.unusedSimpArgs false
set_option linter.unusedVariables false

/-- The boxes of the two parts at g and g + 1, the two answers behind them; what is left to read lies below. -/
structure PM (W wr : World) (g : Nat) (va vb vx vy : Value) (c d : Cp) (a b lx ly : List Cp) : Prop where
  below : Below W.heap.size W wr
  ra : RC W va a
  rb : RC W vb b
  bc : Blk wr 42 g c.vals
  bd : Blk wr 42 (g + 1) d.vals
  out : O2 wr (g + 2) vx lx vy ly
  lo : W.heap.size ≤ g
section
variable {W wr w' : World} {g : Nat} {va vb vx vy : Value} {c d : Cp} {a b lx ly : List Cp}
theorem PM.hi (h : PM W wr g va vb vx vy c d a b lx ly) : g + 2 ≤ wr.heap.size := h.bd.lt
theorem PM.later (h : PM W wr g va vb vx vy c d a b lx ly) (hb : Below wr.heap.size wr w') : PM W w' g va vb vx vy c d a b lx ly :=
  ⟨below_seq h.below hb, h.ra, h.rb, h.bc.later hb, h.bd.later hb, h.out.later hb, h.lo⟩
theorem PM.app (h : PM W wr g va vb vx vy c d a b lx ly) {vx' vy' : Value} {lx' ly' : List Cp} (hb : Below (g + 2) wr w') (ho : O2 w' (g + 2) vx' lx' vy' ly') : PM W w' g va vb vx' vy' c d a b lx' ly' :=
  ⟨h.below.trans (hb.mono (by have := h.lo; omega)), h.ra, h.rb, h.bc.kept (hb.block g (by omega)), h.bd.kept (hb.block (g + 1) (by omega)), ho, h.lo⟩
theorem PM.putA (h : PM W wr g va vb vx vy c d a b lx ly) {va' : Value} {a' : List Cp} {e : Cp} (hr : RC W va' a') (hB : Blk w' 42 g e.vals) (hk : ∀ k, k ≠ g → w'.heap[k]? = wr.heap[k]?) (hb : Below g wr w') : PM W w' g va' vb vx vy e d a' b lx ly :=
  ⟨h.below.trans (hb.mono h.lo), hr, h.rb, hB, h.bd.kept (hk _ (by omega)), h.out.kept (fun k hk2 => hk k (by omega)), h.lo⟩
theorem PM.putB (h : PM W wr g va vb vx vy c d a b lx ly) {vb' : Value} {b' : List Cp} {e : Cp} (hr : RC W vb' b') (hB : Blk w' 42 (g + 1) e.vals) (hk : ∀ k, k ≠ g + 1 → w'.heap[k]? = wr.heap[k]?) (hb : Below (g + 1) wr w') : PM W w' g va vb' vx vy c e a b' lx ly :=
  ⟨h.below.trans (hb.mono (by have := h.lo; omega)), h.ra, hr, h.bc.kept (hk _ (by omega)), hB, h.out.kept (fun k hk2 => hk k (by omega)), h.lo⟩
end
theorem norm_fit {o : List Cp} (hg : Good o) (hl : o.length ≤ 1048576) (hi : inS o ≤ 1099511627776) (ho : outS o ≤ 1099511627776) : Fit (normS o) :=
  fit_of (norm_good hg) (Nat.le_trans (len_norm o) hl) (by rw [in_norm _ hg]; exact hi) (by rw [out_norm _ hg]; exact ho)
theorem put_k {c : Cp} (h : c.k = 2) : putL c = [c] ∧ keptL c = [pK c.s.size] := ⟨if_pos h, if_pos h⟩
theorem move_k {c : Cp} (h : c.k ≠ 2) : putL c = [] ∧ keptL c = [] := ⟨if_neg h, if_neg h⟩
end Go.Proofs.Ytlgdllbhddnokab
