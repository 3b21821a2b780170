/- The rounds of an operation that is undone, as steps on lists; an append as one operation that is ready. -/
import Derived.Test.YtlgdllbhddnokabNorm
import Derived.Test.YtlgdllbhddnokabInvS
import Derived.Deep.RegionHeld3
namespace Go.Proofs.Ytlgdllbhddnokab
open Go.RowKit
set_option linter.unusedSimpArgs false
set_option linter.unusedVariables false

/-- An append of parts as one operation that is ready. -/
theorem wp_append_c {w : World} {op : Oper} {a : Act} {K : Act → World → Prop} {Q : Exit → Act → World → Prop} (s x : Operand)
    (ho : op.op = .call { callee := .builtin .append, args := #[s, x], argTypes := #[25, 25] })
    (Bd : Nat) (v : Value) (o : List Cp) (hs : a.eval s = v) (hown : HasC w Bd v o) (hBd : Bd ≤ w.heap.size)
    (y : Value) (p : List Cp) (hx : a.eval x = y) (hsrc : RC w y p) (hb : o.length + p.length ≤ 4398046511104)
    (h : ∀ v' w', HasC w' Bd v' (o ++ p) → Below Bd w w' → K (a.put op.dst v') w') : Oper.wp Try.prog op a w K Q := by
  obtain ⟨i, z, hi, hz, hsz, hzs, hby⟩ := info_comp
  obtain ⟨v', w', hr, hH, hB, _⟩ := run_append_k (P := Try.prog) 3 32 w 25 25 op.type 42 i z Try.underlying25 hi hz hsz hzs hby Bd v _ _ hown hBd y _ _ hsrc.src (by omega) (by omega)
  unfold Oper.wp execOp
  simp only [ho, resolve, invoke, builtin, Sem.run_bind, Sem.run_pure, Result.andThen_ok, List.map_toArray, List.map_cons, List.map_nil, hs, hx, hr]
  refine h v' w' ?_ hB
  unfold HasC
  rw [List.length_append, C_append]
  exact hH

/-- What holds at the label: l undoes the first j parts, which go over the first q bytes of d. -/
structure IP (d : ByteArray) (o : List Cp) (j q : Nat) (l : List Cp) : Prop where
  le : j ≤ o.length
  at' : (q : Int) = inS (o.take j)
  len : l.length = j
  eq : l ++ undS (d.data.toList.drop q) (o.drop j) = undS d.data.toList o
theorem IP.start (d : ByteArray) (o : List Cp) : IP d o 0 0 [] := ⟨Nat.zero_le _, rfl, rfl, rfl⟩
theorem IP.step {d : ByteArray} {o l : List Cp} {j q m : Nat} {c : Cp} (h : IP d o j q l) (hc : o[j]? = some c) (hm : c.over = (m : Int)) : IP d o (j + 1) (q + m) (l ++ [undC c (d.extract q (q + m))]) := by
  have hj := (List.getElem?_eq_some_iff.1 hc).1
  have := und_step hc h.eq
  rw [hm, Int.toNat_natCast, ext_ba] at this
  exact ⟨by omega, by rw [inS_take_succ o j c hc, ← h.at', hm]; omega, by rw [List.length_append, h.len]; rfl, this⟩
theorem IP.over {d : ByteArray} {o l : List Cp} {q : Nat} (h : IP d o o.length q l) : l = undS d.data.toList o := by
  have := h.eq
  rwa [List.drop_length, undS, List.append_nil] at this
end Go.Proofs.Ytlgdllbhddnokab
