/- Who comes and goes, as it came in (chapter 12). -/
import Derived.Test.YtjedajfemhpogaaOpenR
import Derived.Test.YtjedajfemhpogaaOpenAd
import Derived.Test.YtjedajfemhpogaaBlk
namespace Go.Proofs.Ytjedajfemhpogaa
open Go.ChangeShapes Go.WideShapes Go.ChangeAt Go.RowKit
set_option linter.unusedSimpArgs false
set_option linter.unusedVariables false

section
variable {H : Type} {enc : TypeId × Value → H} {W : World} {base : Nat} {sp : Nat → Bool} {held : Bool} {n : Nat}
set_option maxRecDepth 100000 in
theorem open_act12c {cs : List Value} {x : DataW H × List MemPlace} (h : DataW.trod enc Try.prog W base sp held n 31 cs = some x) :
    ∃ (D U : Int) (g : Bool), cs = [.int .i64 D, .int .i64 U, .bool g] ∧ (Lit.int .i64 D).wf = true ∧ (Lit.int .i64 U).wf = true := by
  have hS : Try.prog.underlying 31 = some (.struct (Try.prog.fieldsOf 31)) := by kernel_rfl
  obtain ⟨xs, m, rfl, _, hl, hn, hf⟩ := DataW.trod_struct hS h
  have hl3 : cs.length = 3 := by rw [hl]; kernel_rfl
  have hx : xs.length = 2 := by rw [hn]; kernel_rfl
  match cs, hl3 with
  | [u0, u1, u2], _ =>
    have f0 := field_at hf 0 29 0 (by kernel_rfl)
    have f1 := field_at hf 1 4 2 (by kernel_rfl)
    have c2 : Try.prog.cellsOf 29 = 2 := by kernel_rfl
    have c1 : Try.prog.cellsOf 4 = 1 := by kernel_rfl
    simp only [c2, c1, List.drop_zero, List.take_succ_cons, List.take_zero, List.drop_succ_cons] at f0 f1
    rw [List.getElem?_eq_getElem (by omega)] at f0 f1
    obtain ⟨D, U, e0, w0, w1⟩ := open_addrc f0
    obtain ⟨g, e1, _⟩ := DataW.trod_bool Try.underlying4 f1
    simp only [List.cons.injEq, and_true] at e0 e1
    obtain ⟨rfl, rfl⟩ := e0
    subst e1
    exact ⟨D, U, g, rfl, w0, w1⟩

/-- A slice of these that came in. -/
structure InAct12 (W : World) (ao : Option Addr) (len cap : Nat) : Prop where
  le : len ≤ cap
  cap : cap ≤ maxLen
  at_ : ∀ j, j < len → ∃ (b off : Nat) (D U : Int) (g : Bool), ao = some ⟨b, off, none⟩ ∧ W.rangeAt b (off + j * 3) [.int .i64 D, .int .i64 U, .bool g] ∧ (Lit.int .i64 D).wf = true ∧ (Lit.int .i64 U).wf = true
theorem InAct12.later {W' : World} {ao : Option Addr} {len cap : Nat} (h : InAct12 W ao len cap) (hb : Below W.heap.size W W') : InAct12 W' ao len cap := ⟨h.le, h.cap, fun j hj => by
  obtain ⟨b, off, D, U, g, h1, h2, h3⟩ := h.at_ j hj
  exact ⟨b, off, D, U, g, h1, fun i v hv => cell_later hb (h2 i v hv), h3⟩⟩
set_option maxRecDepth 100000 in
theorem open_acts12 {b0 : Nat} {t : TypeId} {r : Reach} {v : Value} {d : DataW H} {p : List MemPlace} (ht : Try.prog.underlying t = some (.slice 31)) (hv : Value.okWide Try.prog W r b0 t v) (h : DataW.Trod enc Try.prog W base sp held t v d p) : ∃ ao len cap, v = .slice ao len cap ∧ InAct12 W ao len cap := by
  obtain ⟨a, len, cap, rfl⟩ := okWide_slice ht hv
  obtain ⟨fuel, hf⟩ := h
  obtain ⟨ao, len', cap', e, h1, h2, h3⟩ := open_rowsK ht (show Try.prog.cellsOf 31 = 3 by kernel_rfl) (by omega) hf
  simp [Value.cells] at e
  obtain ⟨rfl, rfl, rfl⟩ := e
  refine ⟨a, len, cap, rfl, h1, h2, fun j hj => ?_⟩
  obtain ⟨b, off, ds, y, m, e1, h4, h5, h6⟩ := h3 j hj
  obtain ⟨D, U, g, rfl, h7, h8⟩ := open_act12c h5
  refine ⟨b, off, D, U, g, e1, fun i u hu => ?_, h7, h8⟩
  have hi := (List.getElem?_eq_some_iff.1 hu).1
  have h12 := h6 i hi
  rw [← Nat.add_assoc] at h12
  rw [h12]
  exact hu
end
end Go.Proofs.Ytjedajfemhpogaa
