/- A delta as cells; of no program. -/
import Derived.Test.YtajkjbhfkeakhaaCp
namespace Go.Proofs.Ytajkjbhfkeakhaa
open Go.RowKit
set_option linter.unusedSimpArgs false
set_option linter.unusedVariables false

/-- A delta but for its operation. -/
structure Dl where
  aD : Int
  aU : Int
  id : Int
  ver : Int
  h : List UInt8
  k : Int
  wD : Int
  wU : Int

def Dl.cells (d : Dl) (o : Value) : List Value := [.int .i64 d.aD, .int .i64 d.aU, .int .i64 d.id, .int .i64 d.ver] ++ B d.h ++ [.int .i64 d.k, o, .int .i64 d.wD, .int .i64 d.wU]
/-- Noughts. -/
def Dl.zero : Dl := ⟨0, 0, 0, 0, List.replicate 32 0, 0, 0, 0⟩
theorem Dl.zero_len : Dl.zero.h.length = 32 := by simp [Dl.zero]

section
variable {d : Dl} {o : Value}
theorem Dl.len (h : d.h.length = 32) : (d.cells o).length = 40 := by simp [Dl.cells, B_length, h]
theorem Dl.tail (h : d.h.length = 32) (j : Nat) : (d.cells o)[36 + j]? = ([.int .i64 d.k, o, .int .i64 d.wD, .int .i64 d.wU] : List Value)[j]? := by
  rw [Dl.cells, List.getElem?_append_right (by simp [B_length, h]), show 36 + j - (_ : List Value).length = j by simp [B_length, h]]
theorem Dl.hash {j : Nat} {v : Value} (hj : (B d.h)[j]? = some v) : (d.cells o)[4 + j]? = some v := by
  have hl := (List.getElem?_eq_some_iff.1 hj).1
  rw [Dl.cells, List.append_assoc, List.getElem?_append_right (by simp), List.getElem?_append_left (by simpa using hl)]
  rw [← hj]
  congr 1
  simp
theorem Dl.one (ho : o.oneCell' = true) : ∀ v ∈ d.cells o, v.oneCell' = true := by
  intro v hv
  simp only [Dl.cells, List.mem_append, List.mem_cons, List.not_mem_nil, or_false] at hv
  rcases hv with ((rfl | rfl | rfl | rfl) | hv) | (rfl | rfl | rfl | rfl)
  all_goals first | rfl | exact ho | exact B_one _ _ hv
end

/-- Block L holds the delta d with the operation o. -/
structure DW (w : World) (t : TypeId) (L : Nat) (d : Dl) (o : Value) : Prop where
  len : d.h.length = 32
  blk : Blk w t L (d.cells o)

section
variable {w w' : World} {t : TypeId} {L : Nat} {d : Dl} {o : Value}
theorem DW.later (h : DW w t L d o) (hb : Below w.heap.size w w') : DW w' t L d o := ⟨h.len, h.blk.later hb⟩
theorem DW.kept (h : DW w t L d o) (hb : w'.heap[L]? = w.heap[L]?) : DW w' t L d o := ⟨h.len, h.blk.kept hb⟩
theorem DW.grown {r : Option Nat} (h : DW w t L d o) (hb : w.grownBy w' r) (hr : r ≠ some L) : DW w' t L d o := h.kept (hb.block L h.blk.lt (fun e => hr e.symm))
theorem DW.tl (h : DW w t L d o) {j : Nat} {u : Value} (hj : ([.int .i64 d.k, o, .int .i64 d.wD, .int .i64 d.wU] : List Value)[j]? = some u) : w.cell? ⟨L, 36 + j, none⟩ = some u :=
  h.blk.cell (by rw [Dl.tail h.len]; exact hj)
theorem DW.cells (h : DW w t L d o) : w.cell? ⟨L, 0, none⟩ = some (.int .i64 d.aD) ∧ w.cell? ⟨L, 1, none⟩ = some (.int .i64 d.aU) ∧ w.cell? ⟨L, 2, none⟩ = some (.int .i64 d.id) ∧ w.cell? ⟨L, 3, none⟩ = some (.int .i64 d.ver) ∧
    w.cell? ⟨L, 36, none⟩ = some (.int .i64 d.k) ∧ w.cell? ⟨L, 37, none⟩ = some o ∧ w.cell? ⟨L, 38, none⟩ = some (.int .i64 d.wD) ∧ w.cell? ⟨L, 39, none⟩ = some (.int .i64 d.wU) :=
  ⟨h.blk.cell (j := 0) rfl, h.blk.cell (j := 1) rfl, h.blk.cell (j := 2) rfl, h.blk.cell (j := 3) rfl, h.tl (j := 0) rfl, h.tl (j := 1) rfl, h.tl (j := 2) rfl, h.tl (j := 3) rfl⟩
theorem DW.frozen (h : DW w t L d o) (j : Nat) : w.frozen? ⟨L, j, none⟩ = false := h.blk.frozen j
theorem DW.whole (h : DW w t L d o) : w.rangeAt L 0 (d.cells o) := h.blk.range fun j v hv => by rw [Nat.zero_add]; exact hv
theorem DW.hash (h : DW w t L d o) : w.rangeAt L 4 (B d.h) := h.blk.range fun j v hv => Dl.hash hv
theorem DW.there (h : DW w t L d o) {j n : Nat} (hl : j + n ≤ 40) : w.there L j n := h.blk.there (by rw [Dl.len h.len]; exact hl)

theorem Dl.set_id (x : Int) : (d.cells o).set 2 (.int .i64 x) = ({ d with id := x } : Dl).cells o := rfl
theorem Dl.set_ver (x : Int) : (d.cells o).set 3 (.int .i64 x) = ({ d with ver := x } : Dl).cells o := rfl
theorem Dl.set_aD (x : Int) : (d.cells o).set 0 (.int .i64 x) = ({ d with aD := x } : Dl).cells o := rfl
theorem Dl.set_aU (x : Int) : (d.cells o).set 1 (.int .i64 x) = ({ d with aU := x } : Dl).cells o := rfl
theorem Dl.set_tl (h : d.h.length = 32) (j : Nat) (u : Value) : (d.cells o).set (36 + j) u = [.int .i64 d.aD, .int .i64 d.aU, .int .i64 d.id, .int .i64 d.ver] ++ B d.h ++ ([.int .i64 d.k, o, .int .i64 d.wD, .int .i64 d.wU] : List Value).set j u := by
  rw [Dl.cells, List.set_append_right _ _ (by simp [B_length, h]), show 36 + j - (_ : List Value).length = j by simp [B_length, h]]
theorem DW.set_aD (h : DW w t L d o) (x : Int) : DW (w.setCell ⟨L, 0, none⟩ (.int .i64 x)) t L { d with aD := x } o := ⟨h.len, by rw [← Dl.set_aD]; exact h.blk.setCell 0 _⟩
theorem DW.set_aU (h : DW w t L d o) (x : Int) : DW (w.setCell ⟨L, 1, none⟩ (.int .i64 x)) t L { d with aU := x } o := ⟨h.len, by rw [← Dl.set_aU]; exact h.blk.setCell 1 _⟩
theorem DW.set_id (h : DW w t L d o) (x : Int) : DW (w.setCell ⟨L, 2, none⟩ (.int .i64 x)) t L { d with id := x } o := ⟨h.len, by rw [← Dl.set_id]; exact h.blk.setCell 2 _⟩
theorem DW.set_ver (h : DW w t L d o) (x : Int) : DW (w.setCell ⟨L, 3, none⟩ (.int .i64 x)) t L { d with ver := x } o := ⟨h.len, by rw [← Dl.set_ver]; exact h.blk.setCell 3 _⟩
theorem DW.set_k (h : DW w t L d o) (x : Int) : DW (w.setCell ⟨L, 36, none⟩ (.int .i64 x)) t L { d with k := x } o := ⟨h.len, by
  have := h.blk.setCell (36 + 0) (.int .i64 x); rw [Dl.set_tl h.len] at this; exact this⟩
theorem DW.set_op (h : DW w t L d o) (x : Value) : DW (w.setCell ⟨L, 37, none⟩ x) t L d x := ⟨h.len, by
  have := h.blk.setCell (36 + 1) x; rw [Dl.set_tl h.len] at this; exact this⟩
theorem DW.set_wD (h : DW w t L d o) (x : Int) : DW (w.setCell ⟨L, 38, none⟩ (.int .i64 x)) t L { d with wD := x } o := ⟨h.len, by
  have := h.blk.setCell (36 + 2) (.int .i64 x); rw [Dl.set_tl h.len] at this; exact this⟩
theorem DW.set_wU (h : DW w t L d o) (x : Int) : DW (w.setCell ⟨L, 39, none⟩ (.int .i64 x)) t L { d with wU := x } o := ⟨h.len, by
  have := h.blk.setCell (36 + 3) (.int .i64 x); rw [Dl.set_tl h.len] at this; exact this⟩
theorem DW.set_a (h : DW w t L d o) (x y : Int) : DW (w.setCells L 0 [.int .i64 x, .int .i64 y]) t L { d with aD := x, aU := y } o := (h.set_aD x).set_aU y
theorem DW.set_w (h : DW w t L d o) (x y : Int) : DW (w.setCells L 38 [.int .i64 x, .int .i64 y]) t L { d with wD := x, wU := y } o := (h.set_wD x).set_wU y
theorem DW.set_h (h : DW w t L d o) (x : List UInt8) (hx : x.length = 32) : DW (w.setCells L 4 (B x)) t L { d with h := x } o := ⟨hx, by
  have h1 := Blk.setCells (B x) [.int .i64 d.aD, .int .i64 d.aU, .int .i64 d.id, .int .i64 d.ver] (B d.h) [.int .i64 d.k, o, .int .i64 d.wD, .int .i64 d.wU] (o := 4) h.blk (by rw [B_length, B_length, h.len, hx]) rfl
  exact h1⟩
theorem DW.set_all (h : DW w t L d o) (e : Dl) (he : e.h.length = 32) (v : Value) : DW (w.setCells L 0 (e.cells v)) t L e v := ⟨he, by
  have h1 := Blk.setCells (e.cells v) [] (d.cells o) [] (o := 0) (by simpa using h.blk) (by rw [Dl.len he, Dl.len h.len]) rfl
  simpa using h1⟩
end
end Go.Proofs.Ytajkjbhfkeakhaa
