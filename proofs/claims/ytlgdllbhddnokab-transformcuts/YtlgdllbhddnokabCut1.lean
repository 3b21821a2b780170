/- The first part of a slice of parts, and the others. -/
import Derived.Test.YtlgdllbhddnokabRun
import Derived.Test.YtlgdllbhddnokabCompS
namespace Go.Proofs.Ytlgdllbhddnokab
open Go.RowKit
set_option linter.unusedSimpArgs false
set_option linter.unusedVariables false

theorem Fit.one {e : Cp} {o : List Cp} (h : Fit (e :: o)) : 0 ≤ e.n ∧ e.n ≤ 1099511627776 ∧ e.s.size ≤ 1099511627776 := h.2 e (by simp)
theorem Fit.tl {e : Cp} {o : List Cp} (h : Fit (e :: o)) : Fit o := ⟨by have := h.1; simp at this; omega, fun c hc => h.2 c (by simp [hc])⟩
theorem Fit.szle {e : Cp} {o : List Cp} (h : Fit (e :: o)) (hk : e.Ok) : e.sz ≤ 1099511627776 := by
  have := h.one
  rcases ok_cases hk with ⟨m, hm, rfl⟩ | ⟨s, hs, rfl⟩ | ⟨m, hm, rfl⟩
  · rw [sz_K]; simp [pK] at this; omega
  · rw [sz_P]; simp [pP] at this; omega
  · rw [sz_X]; simp [pX] at this; omega
/-- All but the first part. -/
theorem tail_c {w : World} {ao : Option Addr} {cap : Nat} {c : Cp} {o : List Cp} (h : RC w (.slice ao (o.length + 1) cap) (c :: o)) :
    ∃ p q, (∀ wx, (Instr.slice 25 (.slice ao (o.length + 1) cap) (some (.int .i64 1)) none none).run Try.prog wx = .ok (.slice p o.length q) wx) ∧ RC w (.slice p o.length q) o := by
  rcases h with ⟨e, h⟩ | ⟨g, off, cap', e, h1, hr, hg⟩
  · simp at h
  · injection e with e1 e2 e3
    subst e1 e3
    simp only [List.length_cons] at h1
    by_cases hc : cap = 1
    · subst hc
      have ho : o = [] := List.eq_nil_of_length_eq_zero (by omega)
      subst ho
      refine ⟨some ⟨g, off, none⟩, 0, fun wx => ?_, .inr ⟨g, off, 0, by simp, by simp, fun j u hj => by simp [C] at hj, hg⟩⟩
      go_simp
    · refine ⟨some ⟨g, off + 3, none⟩, cap - 1, fun wx => ?_, .inr ⟨g, off + 3, cap - 1, rfl, by omega, fun j u hj => ?_, hg⟩⟩
      · have hkc : ¬ cap - 1 = 0 := by omega
        clear hr hg e2
        go_simp
        intro hlt
        omega
      · have := hr (3 + j) u (by rw [C_cons, List.getElem?_append_right (by simp [Cp.vals]), ← hj]; congr 1; simp [Cp.vals])
        rwa [← Nat.add_assoc] at this
/-- The first part alone. -/
theorem head_c {w : World} {ao : Option Addr} {cap : Nat} {c : Cp} {o : List Cp} (h : RC w (.slice ao (o.length + 1) cap) (c :: o)) :
    ∃ q, (∀ wx, (Instr.slice 25 (.slice ao (o.length + 1) cap) none (some (.int .i64 1)) none).run Try.prog wx = .ok (.slice ao 1 q) wx) ∧ RC w (.slice ao 1 q) [c] := by
  rcases h with ⟨e, h⟩ | ⟨g, off, cap', e, h1, hr, hg⟩
  · simp at h
  · injection e with e1 e2 e3
    subst e1 e3
    simp only [List.length_cons] at h1
    refine ⟨cap, fun wx => ?_, .inr ⟨g, off, cap, by simp, by simp; omega, fun j u hj => hr j u ?_, hg⟩⟩
    · have hkc : (1 : Int) ≤ (cap : Int) := by omega
      have hk0 : 1 ≤ cap := by omega
      have hk1 : ¬ cap = 0 := by omega
      clear hr hg e2
      go_simp
    · have hj2 : j < (C [c]).length := (List.getElem?_eq_some_iff.1 hj).1
      rw [show c :: o = [c] ++ o from rfl, C_append, List.getElem?_append_left hj2]
      exact hj
end Go.Proofs.Ytlgdllbhddnokab
