/- Two slices of parts of the call's own that lie apart; what appends make of them. -/
import Derived.Test.YtlgdllbhddnokabPartB
import Derived.Test.YtlgdllbhddnokabNorm
namespace Go.Proofs.Ytlgdllbhddnokab
open Go.RowKit
set_option linter.unusedSimpArgs false
set_option linter.unusedVariables false

/-- v1 and v2 are the parts l1 and l2 in blocks from Bd on, and in no block both. -/
structure O2 (w : World) (Bd : Nat) (v1 : Value) (l1 : List Cp) (v2 : Value) (l2 : List Cp) : Prop where
  o1 : HasC w Bd v1 l1
  o2 : HasC w Bd v2 l2
  ne : ∀ k, blkOf v1 = some k → blkOf v2 ≠ some k
/-- A block that neither of them lies in. -/
structure Side (w : World) (v1 v2 : Value) (N : Nat) (cs : List Value) : Prop where
  k : Blk w 42 N cs
  n1 : blkOf v1 ≠ some N
  n2 : blkOf v2 ≠ some N

theorem HasC.keptB {w w' : World} {Bd : Nat} {v : Value} {o : List Cp} (h : HasC w Bd v o) (hk : ∀ k, blkOf v = some k → w'.heap[k]? = w.heap[k]?) : HasC w' Bd v o := by
  rcases h with h | ⟨g, cap, cur, rfl, h1, h2, h3, h4, h5, h6⟩
  · exact .inl h
  · exact .inr ⟨g, cap, cur, rfl, h1, h2, h3, by rw [hk g rfl]; exact h4, h5, h6⟩
theorem HasC.blk {w : World} {Bd : Nat} {v : Value} {o : List Cp} (h : HasC w Bd v o) {k : Nat} (hk : blkOf v = some k) : k < w.heap.size := HasK.blk h hk

section
variable {w w' : World} {Bd : Nat} {v1 v2 : Value} {l1 l2 : List Cp} {N : Nat} {cs : List Value}
theorem O2.nil (w : World) (Bd : Nat) : O2 w Bd (.slice none 0 0) [] (.slice none 0 0) [] := ⟨HasC.nil _ _, HasC.nil _ _, fun k h => by cases h⟩
theorem O2.swap (h : O2 w Bd v1 l1 v2 l2) : O2 w Bd v2 l2 v1 l1 := ⟨h.o2, h.o1, fun k h2 h1 => h.ne k h1 h2⟩
theorem O2.later (h : O2 w Bd v1 l1 v2 l2) (hb : Below w.heap.size w w') : O2 w' Bd v1 l1 v2 l2 := ⟨h.o1.later hb, h.o2.later hb, h.ne⟩
theorem O2.kept (h : O2 w Bd v1 l1 v2 l2) (hk : ∀ k, Bd ≤ k → w'.heap[k]? = w.heap[k]?) : O2 w' Bd v1 l1 v2 l2 := ⟨HasK.kept h.o1 hk, HasK.kept h.o2 hk, h.ne⟩
theorem Side.swap (h : Side w v1 v2 N cs) : Side w v2 v1 N cs := ⟨h.k, h.n2, h.n1⟩
theorem Side.later (h : Side w v1 v2 N cs) (hb : Below w.heap.size w w') : Side w' v1 v2 N cs := ⟨h.k.later hb, h.n1, h.n2⟩
theorem Side.new (h : O2 w Bd v1 l1 v2 l2) (cs : List Value) (hN : w.heap.size = N) : Side (w.alloc (.cells cs.toArray 42)) v1 v2 N cs := by
  subst hN
  refine ⟨Blk.new w 42 cs, fun e => ?_, fun e => ?_⟩
  · have := h.o1.blk e; omega
  · have := h.o2.blk e; omega
theorem Side.rc {e : Cp} (h : Side w v1 v2 N e.vals) : RC w (.slice (some ⟨N, 0, none⟩) 1 1) [e] :=
  .inr ⟨N, 0, 1, rfl, Nat.le_refl _, h.k.range (fun j u hj => by rw [Nat.zero_add]; simpa [C] using hj), h.k.lt⟩

/-- What an append to the first one leaves. -/
theorem O2.app (h : O2 w Bd v1 l1 v2 l2) {v' : Value} {l' : List Cp} (hH : HasC w' Bd v' l') (hk : ∀ k, k < w.heap.size → blkOf v1 ≠ some k → w'.heap[k]? = w.heap[k]?) (hq : ∀ k, blkOf v' = some k → blkOf v1 = some k ∨ w.heap.size ≤ k) : O2 w' Bd v' l' v2 l2 := by
  refine ⟨hH, h.o2.keptB (fun k e => hk k (h.o2.blk e) (fun e1 => h.ne k e1 e)), fun k e1 e2 => ?_⟩
  rcases hq k e1 with e | e
  · exact h.ne k e e2
  · have := h.o2.blk e2; omega
theorem Side.app (h : Side w v1 v2 N cs) {v' : Value} (hk : ∀ k, k < w.heap.size → blkOf v1 ≠ some k → w'.heap[k]? = w.heap[k]?) (hq : ∀ k, blkOf v' = some k → blkOf v1 = some k ∨ w.heap.size ≤ k) : Side w' v' v2 N cs := by
  refine ⟨h.k.kept (hk N h.k.lt h.n1), fun e => ?_, h.n2⟩
  rcases hq N e with e | e
  · exact h.n1 e
  · have := h.k.lt; omega
end

/-- An append of one part to the first one, as one operation that is ready. -/
theorem wp_append_o2 {w : World} {op : Oper} {a : Act} {K : Act → World → Prop} {Q : Exit → Act → World → Prop} (s x : Operand)
    (ho : op.op = .call { callee := .builtin .append, args := #[s, x], argTypes := #[25, 25] })
    (Bd : Nat) (v1 v2 : Value) (l1 l2 : List Cp) (hs : a.eval s = v1) (hown : O2 w Bd v1 l1 v2 l2) (hBd : Bd ≤ w.heap.size)
    (N : Nat) (e : Cp) (hx : a.eval x = .slice (some ⟨N, 0, none⟩) 1 1) (hsrc : Side w v1 v2 N e.vals) (hb : l1.length + 1 ≤ 4398046511104)
    (h : ∀ v' w', O2 w' Bd v' (l1 ++ [e]) v2 l2 → Below Bd w w' → (∀ M cs, Side w v1 v2 M cs → Side w' v' v2 M cs) → K (a.put op.dst v') w') : Oper.wp Try.prog op a w K Q := by
  obtain ⟨i, z, hi, hz, hsz, hzs, hby⟩ := info_comp
  obtain ⟨v', w', hr, hH, hB, hk, hq⟩ := run_append_k (P := Try.prog) 3 32 w 25 25 op.type 42 i z Try.underlying25 hi hz hsz hzs hby Bd v1 _ _ hown.o1 hBd _ _ _ hsrc.rc.src (by simp only [List.length_cons, List.length_nil]; omega) (by simp only [List.length_cons, List.length_nil]; omega)
  unfold Oper.wp execOp
  simp only [ho, resolve, invoke, builtin, Sem.run_bind, Sem.run_pure, Result.andThen_ok, List.map_toArray, List.map_cons, List.map_nil, hs, hx, hr]
  have hH' : HasC w' Bd v' (l1 ++ [e]) := by
    unfold HasC
    rw [List.length_append, C_append]
    exact hH
  exact h v' w' (hown.app hH' hk hq) hB (fun M cs hM => hM.app hk hq)
theorem wpList_append_o2 {w : World} {ops : Array Oper} {rest : List Oper} {op : Oper} {a : Act} {Q : Exit → Act → World → Prop} (hgd : op.guard = none) (s x : Operand)
    (ho : op.op = .call { callee := .builtin .append, args := #[s, x], argTypes := #[25, 25] })
    (Bd : Nat) (v1 v2 : Value) (l1 l2 : List Cp) (hs : a.eval s = v1) (hown : O2 w Bd v1 l1 v2 l2) (hBd : Bd ≤ w.heap.size)
    (N : Nat) (e : Cp) (hx : a.eval x = .slice (some ⟨N, 0, none⟩) 1 1) (hsrc : Side w v1 v2 N e.vals) (hb : l1.length + 1 ≤ 4398046511104)
    (h : ∀ v' w', O2 w' Bd v' (l1 ++ [e]) v2 l2 → Below Bd w w' → (∀ M cs, Side w v1 v2 M cs → Side w' v' v2 M cs) → wpList Try.prog ops Q rest (a.put op.dst v') w') : wpList Try.prog ops Q (op :: rest) a w :=
  wpList_plain hgd fun J hJ => wp_append_o2 s x ho Bd v1 v2 l1 l2 hs hown hBd N e hx hsrc hb (fun v' w' h1 h2 h3 => hJ _ _ (h v' w' h1 h2 h3))
/-- A part is stored over another, as one operation that is ready. -/
theorem wp_store_box {w : World} {op : Oper} {a : Act} {K : Act → World → Prop} {Q : Exit → Act → World → Prop} (x y : Operand) (ho : op.op = .store 42 x y)
    (g : Nat) (c e : Cp) (hx : a.eval x = .pointer (some ⟨g, 0, none⟩)) (hy : a.eval y = .agg e.vals.toArray) (hB : Blk w 42 g c.vals)
    (h : ∀ w', Blk w' 42 g e.vals → (∀ k, k ≠ g → w'.heap[k]? = w.heap[k]?) → Below g w w' → K (a.put op.dst undef) w') : Oper.wp Try.prog op a w K Q := by
  refine wp_store_mid 42 x y ho g 0 e.vals.toArray hx hy (by simpa [Cp.vals] using hB.there (o := 0) (n := 3) (by simp [Cp.vals])) (by kernel_rfl) (all_oneCell_toArray (fun v hv => by
    simp only [Cp.vals, List.mem_cons, List.not_mem_nil, or_false] at hv
    rcases hv with rfl | rfl | rfl <;> rfl)) (h _ ?_ ?_ ?_)
  · have := Blk.setCells (t := 42) (g := g) e.vals [] c.vals [] (w := w) (o := 0) (by simpa using hB) rfl rfl
    simpa using this
  · intro k hk
    exact setCells_heap hk _ _ _
  · exact below_setCells (Nat.le_refl _) _ _ (Below.refl _ _)
/-- A new variable of a part's type, as one operation that is ready. -/
theorem Try.zeroComp : (Try.prog.info? 42).bind (fun i => i.zero.map fun z => z.cells.toList) = some (Cp.vals ⟨0, 0, ⟨#[]⟩⟩) := by kernel_rfl
theorem wp_alloc_box {w : World} {op : Oper} {a : Act} {K : Act → World → Prop} {Q : Exit → Act → World → Prop} (ho : op.op = .alloc 42) (N : Nat) (hN : w.heap.size = N)
    (h : ∀ w', Blk w' 42 N (Cp.vals ⟨0, 0, ⟨#[]⟩⟩) → Below N w w' → w'.heap.size = N + 1 → K (a.put op.dst (.pointer (some ⟨N, 0, none⟩))) w') : Oper.wp Try.prog op a w K Q := by
  subst hN
  have hz := Try.zeroComp
  cases hi : Try.prog.info? 42 with
  | none => simp [hi] at hz
  | some i =>
    cases hz0 : i.zero with
    | none => simp [hi, hz0] at hz
    | some z =>
      have hc : z.cells.toList = Cp.vals ⟨0, 0, ⟨#[]⟩⟩ := by simpa [hi, hz0] using hz
      have hB := Blk.new w 42 z.cells.toList
      rw [hc] at hB
      unfold Oper.wp
      simp [execOp, ho, Instr.alloc, zeroValue, typeInfo, hi, hz0, newVar, Result.andThen]
      exact h _ (by rw [← hc] at hB ⊢; simpa using hB) ((Below.refl _ _).alloc (Nat.le_refl _) _) (by simp)
end Go.Proofs.Ytlgdllbhddnokab
