/- Acts that came in (chapter 10). -/
import Derived.Test.YtekcoeckgolhcaaOpenK
import Derived.Test.YtekcoeckgolhcaaBlk
namespace Go.Proofs.Ytekcoeckgolhcaa
open Go.ChangeShapes Go.WideShapes Go.ChangeAt Go.RowKit
set_option linter.unusedSimpArgs false
set_option linter.unusedVariables false

section
variable {H : Type} {enc : TypeId × Value → H} {W : World} {base : Nat} {sp : Nat → Bool} {held : Bool} {n : Nat}
theorem fieldK {m : Nat} {fs : Array Field} {cs : List Value} {xs : List (DataW H × List MemPlace)}
    (hf : ∀ (i : Nat) (f : Field), fs[i]? = some f → DataW.trod enc Try.prog W base sp held m f.type ((cs.drop f.offset).take (Try.prog.cellsOf f.type)) = xs[i]?)
    (i : Nat) (t : TypeId) (o : Nat) (h : fs[i]?.map (fun f => (f.type, f.offset)) = some (t, o)) : DataW.trod enc Try.prog W base sp held m t ((cs.drop o).take (Try.prog.cellsOf t)) = xs[i]? := by
  cases hi : fs[i]? with
  | none => rw [hi] at h; cases h
  | some f =>
    rw [hi] at h
    simp only [Option.map_some, Option.some.injEq, Prod.mk.injEq] at h
    have := hf i f hi
    rw [h.1, h.2] at this
    exact this

set_option maxRecDepth 100000 in
theorem open_actc {cs : List Value} {x : DataW H × List MemPlace} (h : DataW.trod enc Try.prog W base sp held n 33 cs = some x) :
    ∃ (k m : Int) (so : Option Addr) (sl sc : Nat) (l : List UInt8), cs = [.int .i64 k, .int .i64 m, .slice so sl sc] ∧ l.length = sl ∧ sl ≤ sc ∧ sc ≤ maxLen ∧ Reads W (.slice so sl sc) (B l) ∧ (Lit.int .i64 m).wf = true := by
  have hS : Try.prog.underlying 33 = some (.struct (Try.prog.fieldsOf 33)) := by kernel_rfl
  obtain ⟨xs, m, rfl, _, hl, hn, hf⟩ := DataW.trod_struct hS h
  have hl3 : cs.length = 3 := by rw [hl]; kernel_rfl
  have hx : xs.length = 3 := by rw [hn]; kernel_rfl
  match cs, hl3 with
  | [u0, u1, u2], _ =>
    have f0 := fieldK hf 0 3 0 (by kernel_rfl)
    have f1 := fieldK hf 1 3 1 (by kernel_rfl)
    have f2 := fieldK hf 2 31 2 (by kernel_rfl)
    have c3 : Try.prog.cellsOf 3 = 1 := by kernel_rfl
    have c9 : Try.prog.cellsOf 31 = 1 := by kernel_rfl
    simp only [c3, c9, List.drop_zero, List.take_succ_cons, List.take_zero, List.drop_succ_cons] at f0 f1 f2
    rw [List.getElem?_eq_getElem (by omega)] at f0 f1 f2
    obtain ⟨k, e0, _, _⟩ := DataW.trod_int Try.underlying3 f0
    obtain ⟨q, e1, _, w1⟩ := DataW.trod_int Try.underlying3 f1
    obtain ⟨so, sl, sc, l, e2, h1, h2, h3, h4⟩ := open_bytesc f2
    simp only [List.cons.injEq, and_true] at e0 e1 e2
    subst e0 e1 e2
    exact ⟨k, q, so, sl, sc, l, rfl, h1, h2, h3, h4, w1⟩

/-- A slice of acts that came in. -/
structure InActs (W : World) (ao : Option Addr) (len cap : Nat) : Prop where
  le : len ≤ cap
  cap : cap ≤ maxLen
  at_ : ∀ j, j < len → ∃ (b off : Nat) (k m : Int) (so : Option Addr) (sl sc : Nat) (l : List UInt8), ao = some ⟨b, off, none⟩ ∧ W.rangeAt b (off + j * 3) [.int .i64 k, .int .i64 m, .slice so sl sc] ∧ l.length = sl ∧ sl ≤ sc ∧ sc ≤ maxLen ∧ Reads W (.slice so sl sc) (B l) ∧ (Lit.int .i64 m).wf = true
theorem rangeAt_later {W W' : World} {b o : Nat} {cs : List Value} (h : W.rangeAt b o cs) (hb : Below W.heap.size W W') : W'.rangeAt b o cs := fun j v hv => cell_later hb (h j v hv)
theorem InActs.later {W' : World} {ao : Option Addr} {len cap : Nat} (h : InActs W ao len cap) (hb : Below W.heap.size W W') : InActs W' ao len cap := ⟨h.le, h.cap, fun j hj => by
  obtain ⟨b, off, k, m, so, sl, sc, l, h1, h2, h3, h4, h5, h6, h7⟩ := h.at_ j hj
  exact ⟨b, off, k, m, so, sl, sc, l, h1, rangeAt_later h2 hb, h3, h4, h5, h6.later hb, h7⟩⟩
set_option maxRecDepth 100000 in
theorem open_acts {b0 : Nat} {t : TypeId} {r : Reach} {v : Value} {d : DataW H} {p : List MemPlace} (ht : Try.prog.underlying t = some (.slice 33)) (hv : Value.okWide Try.prog W r b0 t v) (h : DataW.Trod enc Try.prog W base sp held t v d p) : ∃ ao len cap, v = .slice ao len cap ∧ InActs W ao len cap := by
  obtain ⟨a, len, cap, rfl⟩ := okWide_slice ht hv
  obtain ⟨fuel, hf⟩ := h
  obtain ⟨ao, len', cap', e, h1, h2, h3⟩ := open_rowsK ht (show Try.prog.cellsOf 33 = 3 by kernel_rfl) (by omega) hf
  simp [Value.cells] at e
  obtain ⟨rfl, rfl, rfl⟩ := e
  refine ⟨a, len, cap, rfl, h1, h2, fun j hj => ?_⟩
  obtain ⟨b, off, ds, y, m, e1, h4, h5, h6⟩ := h3 j hj
  obtain ⟨k, q, so, sl, sc, l, rfl, h7, h8, h9, h10, h11⟩ := open_actc h5
  refine ⟨b, off, k, q, so, sl, sc, l, e1, fun i u hu => ?_, h7, h8, h9, h10, h11⟩
  have hi := (List.getElem?_eq_some_iff.1 hu).1
  have h12 := h6 i hi
  rw [← Nat.add_assoc] at h12
  rw [h12]
  exact hu
end
end Go.Proofs.Ytekcoeckgolhcaa
