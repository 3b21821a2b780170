/- Ready operations of a drawn region: a new variable, a row of cells stored. -/
import Derived.Test.YtjedajfemhpogaaBlk
namespace Go.Proofs.Ytjedajfemhpogaa
open Go.RowKit
set_option linter.unusedSimpArgs false
set_option linter.unusedVariables false

section
variable {P : Program} {w : World}
theorem wp_alloc_blk {o : Oper} {a : Act} {K : Act → World → Prop} {Q : Exit → Act → World → Prop} (t : TypeId) (ho : o.op = .alloc t)
    (cs : List Value) (hz : (P.info? t).bind (fun i => i.zero.map fun z => z.cells.toList) = some cs) (N : Nat) (hN : w.heap.size = N)
    (h : ∀ w', Blk w' t N cs → Below N w w' → w'.heap.size = N + 1 → K (a.put o.dst (.pointer (some ⟨N, 0, none⟩))) w') : o.wp P a w K Q := by
  subst hN
  cases hi : P.info? t with
  | none => simp [hi] at hz
  | some i =>
    cases hz0 : i.zero with
    | none => simp [hi, hz0] at hz
    | some z =>
      have hc : z.cells.toList = cs := by simpa [hi, hz0] using hz
      subst hc
      unfold Oper.wp
      simp [execOp, ho, Instr.alloc, zeroValue, typeInfo, hi, hz0, newVar, Result.andThen]
      exact h _ (Blk.new w t _) ((Below.refl _ _).alloc (Nat.le_refl _) _) (by simp)

theorem wp_store_list {o : Oper} {a : Act} {K : Act → World → Prop} {Q : Exit → Act → World → Prop} (ty : TypeId) (x y : Operand) (ho : o.op = .store ty x y)
    (b off : Nat) (cs : List Value) (hx : a.eval x = .pointer (some ⟨b, off, none⟩)) (hy : a.eval y = .agg cs.toArray)
    (ht : w.there b off cs.length) (hi : (P.info? ty).map (·.size) = some cs.length) (h1 : ∀ v ∈ cs, v.oneCell' = true)
    (h : ∀ w', w' = w.setCells b off cs → K (a.put o.dst undef) w') : o.wp P a w K Q :=
  wp_store_mid ty x y ho b off cs.toArray hx hy (by simpa using ht) (by simpa using hi) (all_oneCell_toArray h1) (h _ (by simp))
end
theorem Blk.reads {w : World} {t : TypeId} {g : Nat} {l : List UInt8} (h : Blk w t g (B l)) (n cap : Nat) (hn : n ≤ l.length) (hc : n ≤ cap) : Reads w (.slice (some ⟨g, 0, none⟩) n cap) (B (l.take n)) := by
  have hl : (l.take n).length = n := by rw [List.length_take]; omega
  refine ⟨some ⟨g, 0, none⟩, cap, by rw [B_length, hl], by rw [B_length, hl]; exact hc, (fun h => by cases h), fun ad he j u hj => ?_⟩
  cases he
  rw [Addr.add_lit, Nat.zero_add]
  refine h.cell ?_
  rw [B_get] at hj ⊢
  rw [List.getElem?_take] at hj
  split at hj
  · exact hj
  · simp at hj
end Go.Proofs.Ytjedajfemhpogaa
