/- Slices of slices of bytes: of none, one, two; a block that reads as bytes. -/
import Derived.Test.YtmfmbcghknknjaaDoorSum2
namespace Go.Proofs.YtmfmbcghknknjaaDoor
open Go.RowKit
set_option linter.unusedSimpArgs false
set_option linter.unusedVariables false

theorem reads_row {w : World} {g : Nat} {C : Array Value} {t : TypeId} {fr : Nat × Nat} {l : List UInt8} (h : w.heap[g]? = some (.cells C t fr)) (hC : C.toList = B l) (n cap : Nat) (hn : l.length = n) (hc : n ≤ cap) : Reads w (.slice (some ⟨g, 0, none⟩) n cap) (B l) := by
  subst hn
  refine ⟨some ⟨g, 0, none⟩, cap, by rw [B_length], by rw [B_length]; exact hc, (fun h => by cases h), fun ad he j u hj => ?_⟩
  cases he
  rw [Addr.add_lit, Nat.zero_add, cell_of_row w g j C t fr h, ← Array.getElem?_toList, hC]
  exact hj

theorem Parts.nil (w : World) : Parts w (.slice none 0 0) [] := ⟨none, 0, rfl, Nat.le_refl _, fun _ => rfl, fun _ h => by cases h⟩

theorem Parts.one {w : World} {g : Nat} {t : TypeId} {fr : Nat × Nat} {p : Option Addr} {n c : Nat} {l : List UInt8} (h : w.heap[g]? = some (.cells #[.slice p n c] t fr)) (hr : Reads w (.slice p n c) (B l)) (hl : l.length = n) (hc : c ≤ maxLen) : Parts w (.slice (some ⟨g, 0, none⟩) 1 1) [l] := by
  subst hl
  refine ⟨some ⟨g, 0, none⟩, 1, rfl, Nat.le_refl _, (fun h => by cases h), fun ad he j l' hj => ?_⟩
  cases he
  match j, hj with
  | 0, hj =>
    cases hj
    exact ⟨p, c, by rw [Addr.add_lit, Nat.zero_add, cell_of_row w g 0 _ t fr h]; rfl, hr, hc⟩
  | j + 1, hj => simp at hj

theorem Parts.pair {w : World} {g : Nat} {t : TypeId} {fr : Nat × Nat} {p q : Option Addr} {n c n' c' : Nat} {l l' : List UInt8} (h : w.heap[g]? = some (.cells #[.slice p n c, .slice q n' c'] t fr))
    (hr : Reads w (.slice p n c) (B l)) (hl : l.length = n) (hc : c ≤ maxLen) (hr' : Reads w (.slice q n' c') (B l')) (hl' : l'.length = n') (hc' : c' ≤ maxLen) : Parts w (.slice (some ⟨g, 0, none⟩) 2 2) [l, l'] := by
  subst hl
  subst hl'
  refine ⟨some ⟨g, 0, none⟩, 2, rfl, Nat.le_refl _, (fun h => by cases h), fun ad he j m hj => ?_⟩
  cases he
  match j, hj with
  | 0, hj =>
    cases hj
    exact ⟨p, c, by rw [Addr.add_lit, Nat.zero_add, cell_of_row w g 0 _ t fr h]; rfl, hr, hc⟩
  | 1, hj =>
    cases hj
    exact ⟨q, c', by rw [Addr.add_lit, Nat.zero_add, cell_of_row w g 1 _ t fr h]; rfl, hr', hc'⟩
  | j + 2, hj => simp at hj

theorem heap_of_alloc (w : World) (o : Obj) (k : Nat) : (w.alloc o).heap[k]? = if k = w.heap.size then some o else w.heap[k]? := by
  show (w.heap.push o)[k]? = _
  rw [Array.getElem?_push]

section
variable {P : Program}
theorem wpList_box_blk {ops : Array Oper} {rest : List Oper} {o : Oper} {a : Act} {w : World} {Q : Exit → Act → World → Prop} (hgd : o.guard = none) (t : TypeId) (x : Operand) (ho : o.op = .box t x)
    (cs : List Value) (hx : a.eval x = .agg cs.toArray) (N : Nat) (hN : w.heap.size = N)
    (h : ∀ w', Blk w' t N cs → Below N w w' → w'.heap.size = N + 1 → wpList P ops Q rest (a.put o.dst (.pointer (some ⟨N, 0, none⟩))) w') : wpList P ops Q (o :: rest) a w := by
  subst hN
  refine wpList_plain hgd fun K hK => ?_
  unfold Oper.wp
  simp [execOp, ho, hx, Instr.box, newVar, Value.cells, Result.andThen]
  exact hK _ _ (h _ (Blk.new w t _) ((Below.refl _ _).alloc (Nat.le_refl _) _) (by simp))

theorem exec_index {o : Oper} {a : Act} {w : World} {t : TypeId} {x i : Operand} {X I v : Value} (ho : o.op = .index t x i) (hx : a.eval x = X) (hi : a.eval i = I) (hr : (Instr.index t X I).run P w = .ok v w) :
    (execOp a.eval o).run P w = .ok (.value v) w := by
  unfold execOp
  simp only [ho, hx, hi, Sem.run_bind, Sem.run_pure, hr, Result.andThen_ok]

theorem wp_append_has (w : World) {o : Oper} {a : Act} {K : Act → World → Prop} {Q : Exit → Act → World → Prop} (s x : Operand) (t tx : TypeId)
    (ho : o.op = .call { callee := .builtin .append, args := #[s, x], argTypes := #[t, tx] })
    (e : TypeId) (i : TypeInfo) (z : Value) (ht : P.underlying t = some (.slice e)) (hi : P.info? e = some i) (hz : i.zero = some z) (hsize : i.size = 1) (hby : i.bytes = 1) (hzs : z.cells.size = 1)
    (Bd : Nat) (v : Value) (n : Nat) (xs : List Value) (hs : a.eval s = v) (hown : Has w e Bd v n xs) (hBd : Bd ≤ w.heap.size)
    (y : Value) (m : Nat) (news : List Value) (hx : a.eval x = y) (hsrc : Src P 1 tx y m news w) (hm : 0 < m) (hb : n + m ≤ 140737488355328)
    (h : ∀ v' w', Has w' e Bd v' (n + m) (xs ++ news) → Below Bd w w' → K (a.put o.dst v') w') : o.wp P a w K Q := by
  obtain ⟨v', w', hr, hH, hB⟩ := run_append_has (P := P) w t tx o.type e i z ht hi hz hsize hby hzs Bd v n xs hown hBd y m news hsrc hm hb
  unfold Oper.wp execOp
  simp only [ho, resolve, invoke, builtin, Sem.run_bind, Sem.run_pure, Result.andThen_ok, List.map_toArray, List.map_cons, List.map_nil, hs, hx, hr]
  exact h v' w' hH hB
end

section
variable {P : Program}
theorem run_append_any (w : World) (t tx ty e : TypeId) (i : TypeInfo) (z : Value) (ht : P.underlying t = some (.slice e)) (hi : P.info? e = some i) (hz : i.zero = some z)
    (hsize : i.size = 1) (hby : i.bytes = 1) (hzs : z.cells.size = 1)
    (Bd : Nat) (v : Value) (n : Nat) (xs : List Value) (hown : Has w e Bd v n xs) (hBd : Bd ≤ w.heap.size) (x : Value) (m : Nat) (news : List Value) (hs : Src P 1 tx x m news w)
    (hb : n + m ≤ 140737488355328) :
    ∃ v' w', (Builtin.append_ #[t, tx] ty #[v, x]).run P w = .ok v' w' ∧ Has w' e Bd v' (n + m) (xs ++ news) ∧ Below Bd w w' := by
  by_cases hm : 0 < m
  · exact run_append_has w t tx ty e i z ht hi hz hsize hby hzs Bd v n xs hown hBd x m news hs hm hb
  · have hm0 : m = 0 := by omega
    subst hm0
    have hn0 : news = [] := List.eq_nil_of_length_eq_zero (by have := hs.newsLen; omega)
    subst hn0
    rcases hown with ⟨rfl, rfl, rfl⟩ | ⟨g, cap, rfl, h1, h2⟩
    · refine ⟨.slice none 0 0, w, ?_, Has.nil w e Bd, Below.refl _ _⟩
      have hl := hs.len w
      have hc := hs.cells
      unfold Builtin.append_
      rcases hs.kind with ⟨e', hd⟩ | hd <;> simp [run_underlying ht, run_underlying hd, sizeOf, typeInfo, hi, hl, hsize, hc]
    · obtain ⟨g', cap', w', hr, hG⟩ := run_append_src (P := P) w t tx ty e i z ht hi hz hsize hby hzs g cap n xs h2 x 0 [] hs hb
      refine ⟨_, w', hr, .inr ⟨g', cap', rfl, ?_, hG.own⟩, hG.below (Below.refl _ _) h1⟩
      rcases hG.blk with ⟨rfl, _⟩ | hb'
      · exact h1
      · omega

theorem wpList_append_any {w : World} {ops : Array Oper} {rest : List Oper} {o : Oper} {a : Act} {Q : Exit → Act → World → Prop} (hgd : o.guard = none) (s x : Operand) (t tx : TypeId)
    (ho : o.op = .call { callee := .builtin .append, args := #[s, x], argTypes := #[t, tx] })
    (e : TypeId) (i : TypeInfo) (z : Value) (ht : P.underlying t = some (.slice e)) (hi : P.info? e = some i) (hz : i.zero = some z) (hsize : i.size = 1) (hby : i.bytes = 1) (hzs : z.cells.size = 1)
    (Bd : Nat) (v : Value) (n : Nat) (xs : List Value) (hs : a.eval s = v) (hown : Has w e Bd v n xs) (hBd : Bd ≤ w.heap.size)
    (y : Value) (m : Nat) (news : List Value) (hx : a.eval x = y) (hsrc : Src P 1 tx y m news w) (hb : n + m ≤ 140737488355328)
    (h : ∀ v' w', Has w' e Bd v' (n + m) (xs ++ news) → Below Bd w w' → wpList P ops Q rest (a.put o.dst v') w') : wpList P ops Q (o :: rest) a w := by
  refine wpList_plain hgd fun K hK => ?_
  obtain ⟨v', w', hr, hH, hB⟩ := run_append_any (P := P) w t tx o.type e i z ht hi hz hsize hby hzs Bd v n xs hown hBd y m news hsrc hb
  unfold Oper.wp execOp
  simp only [ho, resolve, invoke, builtin, Sem.run_bind, Sem.run_pure, Result.andThen_ok, List.map_toArray, List.map_cons, List.map_nil, hs, hx, hr]
  exact hK _ _ (h v' w' hH hB)
end

theorem reads_drew {w : World} {v : Value} {xs : List Value} (h : Reads w v xs) : Reads w.drew v xs := h.later ((Below.refl _ _).drew)
end Go.Proofs.YtmfmbcghknknjaaDoor
