/- An address that came in. -/
import Derived.Test.YtjedajfemhpogaaBase
import Derived.Test.YtjedajfemhpogaaProg
import Derived.ChangeArms
import Derived.DataElems
import Derived.OpenShut
import Derived.WalkKit
import Derived.ProofKit
namespace Go.Proofs.Ytjedajfemhpogaa
open Go.ChangeShapes Go.WideShapes Go.ChangeAt Go.RowKit
set_option linter.unusedSimpArgs false
set_option linter.unusedVariables false

set_option maxRecDepth 100000 in
theorem field_at {H : Type} {enc : TypeId × Value → H} {W : World} {base : Nat} {sp : Nat → Bool} {held : Bool} {m : Nat} {fs : Array Field} {cs : List Value} {xs : List (DataW H × List MemPlace)}
    (hf : ∀ (i : Nat) (f : Field), fs[i]? = some f → DataW.trod enc Try.prog W base sp held m f.type ((cs.drop f.offset).take (Try.prog.cellsOf f.type)) = xs[i]?)
    (i : Nat) (t : TypeId) (o : Nat) (h : fs[i]?.map (fun f => (f.type, f.offset)) = some (t, o)) : DataW.trod enc Try.prog W base sp held m t ((cs.drop o).take (Try.prog.cellsOf t)) = xs[i]? := by
  cases hi : fs[i]? with
  | none => rw [hi] at h; cases h
  | some f =>
    rw [hi] at h
    simp only [Option.map_some, Option.some.injEq, Prod.mk.injEq] at h
    have := hf i f hi
    rw [h.1, h.2] at this
    exact this


set_option maxRecDepth 100000 in
theorem open_addrc {H : Type} {enc : TypeId × Value → H} {W : World} {base : Nat} {sp : Nat → Bool} {held : Bool} {n : Nat} {cs : List Value} {x : DataW H × List MemPlace}
    (h : DataW.trod enc Try.prog W base sp held n 29 cs = some x) : ∃ D U : Int, cs = [.int .i64 D, .int .i64 U] ∧ (Lit.int .i64 D).wf = true ∧ (Lit.int .i64 U).wf = true := by
  have hS : Try.prog.underlying 29 = some (.struct (Try.prog.fieldsOf 29)) := by kernel_rfl
  obtain ⟨xs, m, rfl, _, hl, hn, hf⟩ := DataW.trod_struct hS h
  have hl2 : cs.length = 2 := by rw [hl]; kernel_rfl
  have hx : xs.length = 2 := by rw [hn]; kernel_rfl
  match cs, hl2 with
  | [u0, u1], _ =>
    have f0 := field_at hf 0 3 0 (by kernel_rfl)
    have f1 := field_at hf 1 3 1 (by kernel_rfl)
    have c3 : Try.prog.cellsOf 3 = 1 := by kernel_rfl
    simp only [c3, List.drop_zero, List.take_succ_cons, List.take_zero, List.drop_succ_cons] at f0 f1
    rw [List.getElem?_eq_getElem (by omega)] at f0 f1
    obtain ⟨k, e0, _, w0⟩ := DataW.trod_int Try.underlying3 f0
    obtain ⟨q, e1, _, w1⟩ := DataW.trod_int Try.underlying3 f1
    simp only [List.cons.injEq, and_true] at e0 e1
    subst e0 e1
    exact ⟨k, q, rfl, w0, w1⟩


set_option maxRecDepth 100000 in
theorem open_addr {H : Type} {enc : TypeId × Value → H} {W : World} {base b0 : Nat} {sp : Nat → Bool} {held : Bool} {r : Reach} {v : Value} {d : DataW H} {p : List MemPlace}
    (hv : Value.okWide Try.prog W r b0 29 v) (h : DataW.Trod enc Try.prog W base sp held 29 v d p) : ∃ D U : Int, v = .agg #[.int .i64 D, .int .i64 U] ∧ (Lit.int .i64 D).wf = true ∧ (Lit.int .i64 U).wf = true := by
  have hu : Try.prog.underlying 29 = some (.struct (Try.prog.fieldsOf 29)) := by kernel_rfl
  simp only [Value.okWide, hu] at hv
  obtain ⟨cs, rfl, _, _⟩ := hv
  obtain ⟨fuel, hf⟩ := h
  obtain ⟨D, U, h1, h2, h3⟩ := open_addrc hf
  refine ⟨D, U, ?_, h2, h3⟩
  have h4 : cs.toList = [.int .i64 D, .int .i64 U] := h1
  congr 1
  exact Array.ext' h4

end Go.Proofs.Ytjedajfemhpogaa
