/- append to a slice of bytes of the call's own, of none too; of no program. -/
import Derived.Test.YtifdoneffnfogabHas
namespace Go.Proofs.Ytifdoneffnfogab
open Go.RowKit
set_option linter.unusedSimpArgs false
set_option linter.unusedVariables false

section
variable {P : Program}
theorem wp_append_has (w : World) {o : Oper} {a : Act} {K : Act → World → Prop} {Q : Exit → Act → World → Prop} (s x : Operand) (t tx : TypeId)
    (ho : o.op = .call { callee := .builtin .append, args := #[s, x], argTypes := #[t, tx] })
    (e : TypeId) (i : TypeInfo) (z : Value) (ht : P.underlying t = some (.slice e)) (hi : P.info? e = some i) (hz : i.zero = some z) (hsize : i.size = 1) (hby : i.bytes = 1) (hzs : z.cells.size = 1)
    (Bd : Nat) (v : Value) (n : Nat) (xs : List Value) (hs : a.eval s = v) (hown : Has w e Bd v n xs) (hBd : Bd ≤ w.heap.size)
    (y : Value) (m : Nat) (news : List Value) (hx : a.eval x = y) (hsrc : Src P 1 tx y m news w) (hm : 0 < m) (hb : n + m ≤ 140737488355328)
    (h : ∀ v' w', Has w' e Bd v' (n + m) (xs ++ news) → Below Bd w w' → K (a.put o.dst v') w') : o.wp P a w K Q := by
  obtain ⟨v', w', hr, hH, hB⟩ := run_append_has (P := P) w t tx o.type e i z ht hi hz hsize hby hzs Bd v n xs hown hBd y m news hsrc hm hb
  unfold Oper.wp execOp
  simp only [ho, resolve, invoke, builtin, Sem.run_bind, Sem.run_pure, Result.andThen_ok, List.map_toArray, List.map_cons, List.map_nil, hs, hx, hr]
  exact h v' w' hH hB

theorem run_append_any (w : World) (t tx ty e : TypeId) (i : TypeInfo) (z : Value) (ht : P.underlying t = some (.slice e)) (hi : P.info? e = some i) (hz : i.zero = some z)
    (hsize : i.size = 1) (hby : i.bytes = 1) (hzs : z.cells.size = 1)
    (Bd : Nat) (v : Value) (n : Nat) (xs : List Value) (hown : Has w e Bd v n xs) (hBd : Bd ≤ w.heap.size) (x : Value) (m : Nat) (news : List Value) (hs : Src P 1 tx x m news w)
    (hb : n + m ≤ 140737488355328) :
    ∃ v' w', (Builtin.append_ #[t, tx] ty #[v, x]).run P w = .ok v' w' ∧ Has w' e Bd v' (n + m) (xs ++ news) ∧ Below Bd w w' := by
  by_cases hm : 0 < m
  · exact run_append_has w t tx ty e i z ht hi hz hsize hby hzs Bd v n xs hown hBd x m news hs hm hb
  · have hm0 : m = 0 := by omega
    subst hm0
    have hn0 : news = [] := List.eq_nil_of_length_eq_zero (by have := hs.newsLen; omega)
    subst hn0
    rcases hown with ⟨rfl, rfl, rfl⟩ | ⟨g, cap, rfl, h1, h2⟩
    · refine ⟨.slice none 0 0, w, ?_, Has.nil w e Bd, Below.refl _ _⟩
      have hl := hs.len w
      have hc := hs.cells
      unfold Builtin.append_
      rcases hs.kind with ⟨e', hd⟩ | hd <;> simp [run_underlying ht, run_underlying hd, sizeOf, typeInfo, hi, hl, hsize, hc]
    · obtain ⟨g', cap', w', hr, hG⟩ := run_append_src (P := P) w t tx ty e i z ht hi hz hsize hby hzs g cap n xs h2 x 0 [] hs hb
      refine ⟨_, w', hr, .inr ⟨g', cap', rfl, ?_, hG.own⟩, hG.below (Below.refl _ _) h1⟩
      rcases hG.blk with ⟨rfl, _⟩ | hb'
      · exact h1
      · omega

theorem wp_append_any (w : World) {o : Oper} {a : Act} {K : Act → World → Prop} {Q : Exit → Act → World → Prop} (s x : Operand) (t tx : TypeId)
    (ho : o.op = .call { callee := .builtin .append, args := #[s, x], argTypes := #[t, tx] })
    (e : TypeId) (i : TypeInfo) (z : Value) (ht : P.underlying t = some (.slice e)) (hi : P.info? e = some i) (hz : i.zero = some z) (hsize : i.size = 1) (hby : i.bytes = 1) (hzs : z.cells.size = 1)
    (Bd : Nat) (v : Value) (n : Nat) (xs : List Value) (hs : a.eval s = v) (hown : Has w e Bd v n xs) (hBd : Bd ≤ w.heap.size)
    (y : Value) (m : Nat) (news : List Value) (hx : a.eval x = y) (hsrc : Src P 1 tx y m news w) (hb : n + m ≤ 140737488355328)
    (h : ∀ v' w', Has w' e Bd v' (n + m) (xs ++ news) → Below Bd w w' → K (a.put o.dst v') w') : o.wp P a w K Q := by
  obtain ⟨v', w', hr, hH, hB⟩ := run_append_any (P := P) w t tx o.type e i z ht hi hz hsize hby hzs Bd v n xs hown hBd y m news hsrc hb
  unfold Oper.wp execOp
  simp only [ho, resolve, invoke, builtin, Sem.run_bind, Sem.run_pure, Result.andThen_ok, List.map_toArray, List.map_cons, List.map_nil, hs, hx, hr]
  exact h v' w' hH hB

theorem wpList_append_any {w : World} {ops : Array Oper} {rest : List Oper} {o : Oper} {a : Act} {Q : Exit → Act → World → Prop} (hgd : o.guard = none) (s x : Operand) (t tx : TypeId)
    (ho : o.op = .call { callee := .builtin .append, args := #[s, x], argTypes := #[t, tx] })
    (e : TypeId) (i : TypeInfo) (z : Value) (ht : P.underlying t = some (.slice e)) (hi : P.info? e = some i) (hz : i.zero = some z) (hsize : i.size = 1) (hby : i.bytes = 1) (hzs : z.cells.size = 1)
    (Bd : Nat) (v : Value) (n : Nat) (xs : List Value) (hs : a.eval s = v) (hown : Has w e Bd v n xs) (hBd : Bd ≤ w.heap.size)
    (y : Value) (m : Nat) (news : List Value) (hx : a.eval x = y) (hsrc : Src P 1 tx y m news w) (hb : n + m ≤ 140737488355328)
    (h : ∀ v' w', Has w' e Bd v' (n + m) (xs ++ news) → Below Bd w w' → wpList P ops Q rest (a.put o.dst v') w') : wpList P ops Q (o :: rest) a w := by
  refine wpList_plain hgd fun K hK => ?_
  obtain ⟨v', w', hr, hH, hB⟩ := run_append_any (P := P) w t tx o.type e i z ht hi hz hsize hby hzs Bd v n xs hown hBd y m news hsrc hb
  unfold Oper.wp execOp
  simp only [ho, resolve, invoke, builtin, Sem.run_bind, Sem.run_pure, Result.andThen_ok, List.map_toArray, List.map_cons, List.map_nil, hs, hx, hr]
  exact hK _ _ (h v' w' hH hB)

theorem Has.mono {w : World} {e : TypeId} {Bd Bd2 : Nat} {v : Value} {n : Nat} {xs : List Value} (h : Has w e Bd v n xs) (hb : Bd2 ≤ Bd) : Has w e Bd2 v n xs := by
  rcases h with h | ⟨g, cap, h1, h2, h3⟩
  · exact .inl h
  · exact .inr ⟨g, cap, h1, Nat.le_trans hb h2, h3⟩
/-- As wpList_append_any; and no block but the slice's own has changed. -/
theorem wpList_append_keep {w : World} {ops : Array Oper} {rest : List Oper} {o : Oper} {a : Act} {Q : Exit → Act → World → Prop} (hgd : o.guard = none) (s x : Operand) (t tx : TypeId)
    (ho : o.op = .call { callee := .builtin .append, args := #[s, x], argTypes := #[t, tx] })
    (e : TypeId) (i : TypeInfo) (z : Value) (ht : P.underlying t = some (.slice e)) (hi : P.info? e = some i) (hz : i.zero = some z) (hsize : i.size = 1) (hby : i.bytes = 1) (hzs : z.cells.size = 1)
    (Bd : Nat) (ao : Option Addr) (n cap : Nat) (xs : List Value) (hs : a.eval s = .slice ao n cap) (hown : Has w e Bd (.slice ao n cap) n xs) (hBd : Bd ≤ w.heap.size)
    (y : Value) (m : Nat) (news : List Value) (hx : a.eval x = y) (hsrc : Src P 1 tx y m news w) (hb : n + m ≤ 140737488355328)
    (h : ∀ v' w', Has w' e Bd v' (n + m) (xs ++ news) → Below Bd w w' → (∀ k, k < w.heap.size → ao ≠ some ⟨k, 0, none⟩ → w'.heap[k]? = w.heap[k]?) → (∀ k n' c', v' = .slice (some ⟨k, 0, none⟩) n' c' → ao = some ⟨k, 0, none⟩ ∨ w.heap.size ≤ k) → wpList P ops Q rest (a.put o.dst v') w') : wpList P ops Q (o :: rest) a w := by
  refine wpList_plain hgd fun K hK => ?_
  have main : ∃ v' w', (Builtin.append_ #[t, tx] o.type #[.slice ao n cap, y]).run P w = .ok v' w' ∧ Has w' e Bd v' (n + m) (xs ++ news) ∧ Below Bd w w' ∧ (∀ k, k < w.heap.size → ao ≠ some ⟨k, 0, none⟩ → w'.heap[k]? = w.heap[k]?) ∧ ∀ k n' c', v' = .slice (some ⟨k, 0, none⟩) n' c' → ao = some ⟨k, 0, none⟩ ∨ w.heap.size ≤ k := by
    rcases hown with ⟨e1, e2, e3⟩ | ⟨g, c, e1, h1, h2⟩
    · obtain ⟨v', w', hr, hH, hB⟩ := run_append_any (P := P) w t tx o.type e i z ht hi hz hsize hby hzs w.heap.size (.slice ao n cap) n xs (.inl ⟨e1, e2, e3⟩) (Nat.le_refl _) y m news hsrc hb
      refine ⟨v', w', hr, hH.mono hBd, hB.mono hBd, fun k hk _ => hB.block k hk, fun k n' c' e => ?_⟩
      rcases hH with ⟨e4, _⟩ | ⟨g, c, e4, h5, _⟩
      · rw [e] at e4; cases e4
      · rw [e] at e4
        injection e4 with e4
        injection e4 with e4
        injection e4 with e4
        exact .inr (by omega)
    · injection e1 with e1 e2 e3
      subst e1 e3
      obtain ⟨g', cap', w', hr, hG⟩ := run_append_src (P := P) w t tx o.type e i z ht hi hz hsize hby hzs g cap n xs h2 y m news hsrc hb
      refine ⟨_, w', hr, .inr ⟨g', cap', rfl, ?_, hG.own⟩, hG.below (Below.refl _ _) h1, fun k hk hne => hG.grown.block k hk (fun e => hne (by injection e with e; rw [e])), fun k n' c' e => ?_⟩
      · rcases hG.blk with ⟨rfl, _⟩ | hb'
        · exact h1
        · omega
      · injection e with e
        injection e with e
        injection e with e
        subst e
        rcases hG.blk with ⟨rfl, _⟩ | hb'
        · exact .inl rfl
        · exact .inr hb'
  obtain ⟨v', w', hr, hH, hB, hk, hnew⟩ := main
  unfold Oper.wp execOp
  simp only [ho, resolve, invoke, builtin, Sem.run_bind, Sem.run_pure, Result.andThen_ok, List.map_toArray, List.map_cons, List.map_nil, hs, hx, hr]
  exact hK _ _ (h v' w' hH hB hk hnew)
end
end Go.Proofs.Ytifdoneffnfogab
