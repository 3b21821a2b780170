/- Slices of parts of the call's own that are written to. -/
import Derived.Test.YtlgdllbhddnokaaHasC
import Derived.Test.YtlgdllbhddnokaaCompS
namespace Go.Proofs.Ytlgdllbhddnokaa
open Go.RowKit
set_option linter.unusedSimpArgs false
set_option linter.unusedVariables false

/-- v is nil, or the parts o, in the block g, which is the call's own. -/
def OwnC (w : World) (g : Nat) (v : Value) (o : List Cp) : Prop :=
  (v = .slice none 0 0 ∧ o = []) ∨ ∃ (pre post : List Value) (off cap : Nat), v = .slice (some ⟨g, off, none⟩) o.length cap ∧ pre.length = off ∧ o.length ≤ cap ∧ Blk w 43 g (pre ++ (C o ++ post))

section
variable {w w' : World} {g : Nat} {v : Value} {o : List Cp} {c e : Cp}
theorem OwnC.kept (h : OwnC w g v o) (hk : w'.heap[g]? = w.heap[g]?) : OwnC w' g v o := by
  rcases h with h | ⟨pre, post, off, cap, h1, h2, h3, h4⟩
  · exact .inl h
  · exact .inr ⟨pre, post, off, cap, h1, h2, h3, h4.kept hk⟩
theorem OwnC.rc (h : OwnC w g v o) : RC w v o := by
  rcases h with h | ⟨pre, post, off, cap, h1, h2, h3, h4⟩
  · exact .inl h
  · exact .inr ⟨g, off, cap, h1, h3, (by rw [← List.append_assoc] at h4; exact h4.rangeMid h2), h4.lt⟩
theorem OwnC.of_has {Bd : Nat} (h : HasC w Bd v o) (hB : Bd ≤ g) : ∃ g', Bd ≤ g' ∧ (g' < w.heap.size ∨ g' = Bd) ∧ OwnC w g' v o := by
  rcases h with ⟨rfl, h1, h2⟩ | ⟨k, cap, cur, rfl, h1, h2, h3, h4, h5, h6⟩
  · exact ⟨Bd, Nat.le_refl _, .inr rfl, .inl ⟨rfl, List.eq_nil_of_length_eq_zero h1⟩⟩
  · refine ⟨k, h1, .inl (Array.getElem?_eq_some_iff.1 h4).1, .inr ⟨[], cur.toList.drop (o.length * 3), 0, cap, rfl, rfl, h3, ?_⟩⟩
    rw [List.nil_append, ← h6, List.take_append_drop]
    simpa [Blk] using h4
/-- The first part, in memory. -/
theorem OwnC.head {ao : Option Addr} {cap : Nat} (h : OwnC w g (.slice ao (o.length + 1) cap) (c :: o)) : ∃ off, ao = some ⟨g, off, none⟩ ∧ 1 ≤ cap ∧
    w.cell? ⟨g, off, none⟩ = some (.int .i64 c.k) ∧ w.cell? ⟨g, off + 1, none⟩ = some (.int .i64 c.n) ∧ w.cell? ⟨g, off + 2, none⟩ = some (.string c.s) := by
  rcases h with ⟨_, h⟩ | ⟨pre, post, off, cap', h1, h2, h3, h4⟩
  · simp at h
  · injection h1 with e1 e2 e3
    subst e1 e3
    have hr : w.rangeAt g off (C (c :: o)) := by rw [← List.append_assoc] at h4; exact h4.rangeMid h2
    obtain ⟨c0, c1, c2⟩ := RC.cells hr (j := 0) (c := c) rfl
    rw [Nat.zero_mul, Nat.add_zero] at c0 c1 c2
    exact ⟨off, rfl, by simp at h3; omega, c0, c1, c2⟩
theorem OwnC.cells {off cap : Nat} (h : OwnC w g (.slice (some ⟨g, off, none⟩) (o.length + 1) cap) (c :: o)) :
    w.cell? ⟨g, off, none⟩ = some (.int .i64 c.k) ∧ w.cell? ⟨g, off + 1, none⟩ = some (.int .i64 c.n) ∧ w.cell? ⟨g, off + 2, none⟩ = some (.string c.s) := by
  obtain ⟨off', e, _, h⟩ := h.head
  injection e with e
  injection e with _ e
  subst e
  exact h
/-- All but the first part. -/
theorem OwnC.tail {ao : Option Addr} {cap : Nat} (h : OwnC w g (.slice ao (o.length + 1) cap) (c :: o)) :
    ∃ p q, (∀ wx, (Instr.slice 27 (.slice ao (o.length + 1) cap) (some (.int .i64 1)) none none).run Try.prog wx = .ok (.slice p o.length q) wx) ∧ ∀ (w' : World) (e : Cp), OwnC w' g (.slice ao (o.length + 1) cap) (e :: o) → OwnC w' g (.slice p o.length q) o := by
  rcases h with ⟨_, h⟩ | ⟨pre, post, off, cap', h1, h2, h3, h4⟩
  · simp at h
  · injection h1 with e1 e2 e3
    subst e1 e3
    simp only [List.length_cons] at h3
    by_cases hc : cap = 1
    · subst hc
      have ho : o = [] := List.eq_nil_of_length_eq_zero (by omega)
      subst ho
      refine ⟨some ⟨g, off, none⟩, 0, fun wx => ?_, fun w' e hw => ?_⟩
      · clear h4
        go_simp
      · rcases hw with ⟨_, h⟩ | ⟨pre', post', off', cap', h1', h2', h3', h4'⟩
        · simp at h
        · injection h1' with e1' e2' e3'
          injection e1' with e1'
          injection e1' with e1' e4'
          subst e4'
          exact .inr ⟨pre', e.vals ++ post', off, 0, rfl, h2', by simp, by simpa [C] using h4'⟩
    · refine ⟨some ⟨g, off + 3, none⟩, cap - 1, fun wx => ?_, fun w' e hw => ?_⟩
      · have hkc : ¬ cap - 1 = 0 := by omega
        clear h4 e2
        go_simp
        intro hlt
        omega
      · rcases hw with ⟨_, h⟩ | ⟨pre', post', off', cap', h1', h2', h3', h4'⟩
        · simp at h
        · injection h1' with e1' e2' e3'
          injection e1' with e1'
          injection e1' with e1' e4'
          subst e4'
          refine .inr ⟨pre' ++ e.vals, post', off + 3, cap - 1, rfl, by simp [Cp.vals, h2'], by omega, ?_⟩
          rw [C_cons] at h4'
          simpa using h4'

/-- A part is written over another. -/
def laid3 (w : World) (g off : Nat) (e : Cp) : World := ((w.setCell ⟨g, off, none⟩ (.int .i64 e.k)).setCell ⟨g, off + 1, none⟩ (.int .i64 e.n)).setCell ⟨g, off + 2, none⟩ (.string e.s)
theorem laid3_other (w : World) (g off : Nat) (e : Cp) (k : Nat) (h : k ≠ g) : (laid3 w g off e).heap[k]? = w.heap[k]? := by
  unfold laid3
  rw [Below.heap_setCell _ _ _ _ h, Below.heap_setCell _ _ _ _ h, Below.heap_setCell _ _ _ _ h]
theorem laid3_below {B : Nat} {a w : World} (h : Below B a w) {g : Nat} (hg : B ≤ g) (off : Nat) (e : Cp) : Below B a (laid3 w g off e) := ((h.setCell (p := ⟨g, off, none⟩) hg _).setCell (p := ⟨g, off + 1, none⟩) hg _).setCell (p := ⟨g, off + 2, none⟩) hg _
theorem laid3_size (w : World) (g off : Nat) (e : Cp) : (laid3 w g off e).heap.size = w.heap.size := by simp [laid3]
theorem set3 (pre : List Value) (x y z a b c : Value) (r : List Value) (off : Nat) (h : pre.length = off) : (((pre ++ (x :: y :: z :: r)).set off a).set (off + 1) b).set (off + 2) c = pre ++ (a :: b :: c :: r) := by
  subst h
  rw [List.set_append_right _ _ (by omega), Nat.sub_self, List.set_cons_zero, List.set_append_right _ _ (by omega), show pre.length + 1 - pre.length = 1 by omega, List.set_cons_succ, List.set_cons_zero, List.set_append_right _ _ (by omega), show pre.length + 2 - pre.length = 2 by omega, List.set_cons_succ, List.set_cons_succ, List.set_cons_zero]
theorem OwnC.set {off cap : Nat} (h : OwnC w g (.slice (some ⟨g, off, none⟩) (o.length + 1) cap) (c :: o)) (e : Cp) : OwnC (laid3 w g off e) g (.slice (some ⟨g, off, none⟩) (o.length + 1) cap) (e :: o) := by
  rcases h with ⟨_, h⟩ | ⟨pre, post, off', cap', h1, h2, h3, h4⟩
  · simp at h
  · injection h1 with e1 e2 e3
    injection e1 with e1
    injection e1 with _ e4
    subst e3 e4
    refine .inr ⟨pre, post, off, cap, rfl, h2, h3, ?_⟩
    have := ((h4.setCell off (.int .i64 e.k)).setCell (off + 1) (.int .i64 e.n)).setCell (off + 2) (.string e.s)
    rw [C_cons, Cp.vals, List.append_assoc, List.cons_append, List.cons_append, List.cons_append, List.nil_append, set3 _ _ _ _ _ _ _ _ _ h2] at this
    rw [C_cons, Cp.vals, List.append_assoc, List.cons_append, List.cons_append, List.cons_append, List.nil_append]
    exact this
theorem OwnC.frozen {off cap : Nat} (h : OwnC w g (.slice (some ⟨g, off, none⟩) (o.length + 1) cap) (c :: o)) (j : Nat) : w.frozen? ⟨g, j, none⟩ = false := by
  rcases h with ⟨_, h⟩ | ⟨pre, post, off', cap', h1, h2, h3, h4⟩
  · simp at h
  · exact h4.frozen j
theorem OwnC.form (h : OwnC w g v o) : ∃ a cap, v = .slice a o.length cap := h.rc.form
end
theorem drew_heap (w : World) : w.drew.heap = w.heap := rfl
theorem small {c : Cp} {a : List Cp} (hg : Good (c :: a)) (hi : inS (c :: a) ≤ 400) (ho : outS (c :: a) ≤ 400) : 0 ≤ c.n ∧ c.n ≤ 400 ∧ c.s.size ≤ 400 ∧ c.sz ≤ 400 := by
  have h1 := hg.tl.inS_nn
  have h2 := hg.tl.outS_nn
  rw [in_cons] at hi
  rw [out_cons] at ho
  rcases ok_cases hg.hd with ⟨m, hm, rfl⟩ | ⟨s, hs, rfl⟩ | ⟨m, hm, rfl⟩
  · rw [over_K] at hi
    exact ⟨by simp [pK], by simp [pK]; omega, by simp [pK, em_sz], by rw [sz_K]; omega⟩
  · rw [outl_P] at ho
    exact ⟨by simp [pP], by simp [pP], by simp [pP]; omega, by rw [sz_P]; omega⟩
  · rw [over_X] at hi
    exact ⟨by simp [pX], by simp [pX]; omega, by simp [pX, em_sz], by rw [sz_X]; omega⟩
end Go.Proofs.Ytlgdllbhddnokaa
