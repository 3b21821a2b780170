/- A slice of slices of bytes that a call builds by appends from nil on, each in new memory. -/
import Derived.Test.YtifdoneffnfogabByteI
import Derived.Test.YtifdoneffnfogabAppAny
import Derived.Test.YtifdoneffnfogabPartsD
import Derived.Test.YtifdoneffnfogabBlk
namespace Go.Proofs.Ytifdoneffnfogab
open Go.RowKit
set_option linter.unusedSimpArgs false
set_option linter.unusedVariables false

theorem Try.infoBytesT : (Try.prog.info? 31).map (fun i => (i.zero, i.size, i.bytes)) = some (some (.slice none 0 0), 1, 24) := by kernel_rfl

section
variable {P : Program}
/-- append of one slice to a slice of slices. -/
theorem run_append_one (w : World) (t tx ty e : TypeId) (i : TypeInfo) (z : Value) (ht : P.underlying t = some (.slice e)) (hi : P.info? e = some i) (hz : i.zero = some z)
    (hsize : i.size = 1) (hzs : z.cells.size = 1)
    (Bd : Nat) (ao : Option Addr) (n cap : Nat) (xs : List Value) (hown : Has w e Bd (.slice ao n cap) n xs) (hBd : Bd ≤ w.heap.size) (x u : Value) (hs : Src P 1 tx x 1 [u] w)
    (hb : (n + 1) * i.bytes ≤ 140737488355328) (hb2 : n + 1 ≤ 140737488355328) :
    ∃ v' w', (Builtin.append_ #[t, tx] ty #[.slice ao n cap, x]).run P w = .ok v' w' ∧ Has w' e Bd v' (n + 1) (xs ++ [u]) ∧ Below Bd w w' ∧ w.heap.size ≤ w'.heap.size ∧
      (∀ k, k < w.heap.size → ao ≠ some ⟨k, 0, none⟩ → w'.heap[k]? = w.heap[k]?) ∧ ∀ k n' c', v' = .slice (some ⟨k, 0, none⟩) n' c' → ao = some ⟨k, 0, none⟩ ∨ w.heap.size ≤ k := by
  rcases hown with ⟨e1, e2, e3⟩ | ⟨g, c, e1, h1, h2⟩
  · injection e1 with e1 e4 e5
    subst e1 e3 e5
    subst e2
    have hf : (Builtin.firstCells i.size 0 (.slice none 0 0)).run P w.drew = .ok ([] : List Value).toArray w.drew := by simp [Builtin.firstCells]
    have hgc := grownCap_ge w (0 + 1) 0 e
    have hcm := grownCap_le_maxLen w (0 + 1) 0 e (by unfold maxLen; omega)
    have hr := run_append_grow_src (P := P) w t tx ty e i z ht hi hz none 0 0 [] hf x 1 [u] (by rw [hsize]; exact hs) (by omega) (by omega) (growslice_fits (by omega) hb)
    refine ⟨_, _, hr, .inr ⟨w.heap.size, grownCap w (0 + 1) 0 e, rfl, hBd, ⟨by simp, hgc, hcm, _, heap_alloc_new w.drew _, ?_, ?_⟩⟩, ⟨rfl, rfl, rfl, by simp, fun k hk => Below.heap_alloc w.drew _ k (by show k < w.heap.size; omega)⟩, by simp, fun k hk _ => Below.heap_alloc w.drew _ k hk, fun k n' c' e => ?_⟩
    · simp only [Array.size_append, List.size_toArray, size_zeroCells, hzs]
      simp only [List.nil_append, List.length_cons, List.length_nil]
      omega
    · simp only [Array.toList_append, List.nil_append]
      rw [show 0 + 1 = ([u] : List Value).length by rfl]
      exact List.take_left
    · injection e with e
      injection e with e
      injection e with e
      exact .inr (by omega)
  · injection e1 with e1 e2 e3
    subst e1 e3
    have h0 := h2
    obtain ⟨l1, l2, l3, cur, hg, hcs, htake⟩ := h0
    have hlen : (xs ++ [u]).length = n + 1 := by rw [List.length_append, l1]; rfl
    by_cases hroom : n + 1 ≤ cap
    · have hst := run_storeCells_at P g n e [u] 0 cur w hg (by simp; omega) hs.one
      simp only [Nat.add_zero] at hst
      have hr : (Builtin.append_ #[t, tx] ty #[.slice (some ⟨g, 0, none⟩) n cap, x]).run P w = .ok (.slice (some ⟨g, 0, none⟩) (n + 1) cap) (w.setRow g (cur.toList.take n ++ [u] ++ cur.toList.drop (n + ([u] : List Value).length)).toArray) := by
        rcases hs.kind with ⟨e', hk⟩ | hk <;> simp [Builtin.append_, run_underlying ht, run_underlying hk, sizeOf, typeInfo, hi, hsize, hs.len, hroom, hs.cells, Addr.add_lit, hst]
      refine ⟨_, _, hr, .inr ⟨g, cap, rfl, h1, ⟨hlen, hroom, l3, _, setRow_heap w g cur _ e _ hg, ?_, ?_⟩⟩, ⟨rfl, rfl, rfl, by simp, fun k hk => setRow_other w g k _ (by omega)⟩, by simp, fun k _ hne => setRow_other w g k _ (fun e => hne (by rw [e])), fun k n' c' e => ?_⟩
      · simp only [List.size_toArray, List.length_append, List.length_take, List.length_drop, Array.length_toList, List.length_cons, List.length_nil]
        omega
      · rw [htake]
        simp only [List.append_assoc]
        rw [← List.append_assoc, ← hlen]
        exact List.take_left
      · injection e with e
        exact .inl e
    · have hgc := grownCap_ge w (n + 1) cap e
      have hcm := grownCap_le_maxLen w (n + 1) cap e (by unfold maxLen; omega)
      have hf : (Builtin.firstCells i.size n (.slice (some ⟨g, 0, none⟩) n cap)).run P w.drew = .ok xs.toArray w.drew :=
        run_firstCells_some (P := P) w.drew i.size n ⟨g, 0, none⟩ n cap xs (by rw [hsize, l1, Nat.mul_one]) (by intro j u hj; rw [Addr.add_lit, Nat.zero_add]; exact h2.drew.cell hj)
      have hr := run_append_grow_src (P := P) w t tx ty e i z ht hi hz (some ⟨g, 0, none⟩) n cap xs hf x 1 [u] (by rw [hsize]; exact hs) (by omega) (by omega) (growslice_fits (by omega) hb)
      refine ⟨_, _, hr, .inr ⟨w.heap.size, grownCap w (n + 1) cap e, rfl, hBd, ⟨hlen, hgc, hcm, _, heap_alloc_new w.drew _, ?_, ?_⟩⟩, ⟨rfl, rfl, rfl, by simp, fun k hk => Below.heap_alloc w.drew _ k (by show k < w.heap.size; omega)⟩, by simp, fun k hk _ => Below.heap_alloc w.drew _ k hk, fun k n' c' e => ?_⟩
      · simp only [Array.size_append, List.size_toArray, size_zeroCells, hzs, hlen]
        omega
      · simp only [Array.toList_append]
        rw [← hlen]
        exact List.take_left
      · injection e with e
        injection e with e
        injection e with e
        exact .inr (by omega)

theorem wpList_append_one {w : World} {ops : Array Oper} {rest : List Oper} {o : Oper} {a : Act} {Q : Exit → Act → World → Prop} (hgd : o.guard = none) (s x : Operand) (t tx : TypeId)
    (ho : o.op = .call { callee := .builtin .append, args := #[s, x], argTypes := #[t, tx] })
    (e : TypeId) (i : TypeInfo) (z : Value) (ht : P.underlying t = some (.slice e)) (hi : P.info? e = some i) (hz : i.zero = some z) (hsize : i.size = 1) (hzs : z.cells.size = 1)
    (Bd : Nat) (ao : Option Addr) (n cap : Nat) (xs : List Value) (hs : a.eval s = .slice ao n cap) (hown : Has w e Bd (.slice ao n cap) n xs) (hBd : Bd ≤ w.heap.size)
    (y u : Value) (hx : a.eval x = y) (hsrc : Src P 1 tx y 1 [u] w) (hb : (n + 1) * i.bytes ≤ 140737488355328) (hb2 : n + 1 ≤ 140737488355328)
    (h : ∀ v' w', Has w' e Bd v' (n + 1) (xs ++ [u]) → Below Bd w w' → w.heap.size ≤ w'.heap.size → (∀ k, k < w.heap.size → ao ≠ some ⟨k, 0, none⟩ → w'.heap[k]? = w.heap[k]?) → (∀ k n' c', v' = .slice (some ⟨k, 0, none⟩) n' c' → ao = some ⟨k, 0, none⟩ ∨ w.heap.size ≤ k) → wpList P ops Q rest (a.put o.dst v') w') : wpList P ops Q (o :: rest) a w := by
  refine wpList_plain hgd fun K hK => ?_
  obtain ⟨v', w', hr, hH, hB, hz', hk, hn⟩ := run_append_one (P := P) w t tx o.type e i z ht hi hz hsize hzs Bd ao n cap xs hown hBd y u hsrc hb hb2
  unfold Oper.wp execOp
  simp only [ho, resolve, invoke, builtin, Sem.run_bind, Sem.run_pure, Result.andThen_ok, List.map_toArray, List.map_cons, List.map_nil, hs, hx, hr]
  exact hK _ _ (h v' w' hH hB hz' hk hn)
end

/-- The slice v, of a call's own from Bd on, holds slices, each of its own, that read as ls. -/
def RowsW (w : World) (Bd : Nat) (v : Value) (ls : List (List UInt8)) : Prop :=
  ∃ xs : List Value, Has w 31 Bd v ls.length xs ∧ ∀ (j : Nat) (l : List UInt8), ls[j]? = some l → ∃ p c, xs[j]? = some (Value.slice p l.length c) ∧ c ≤ maxLen ∧ Has w 5 Bd (.slice p l.length c) l.length (B l)
theorem RowsW.nil (w : World) (Bd : Nat) : RowsW w Bd (.slice none 0 0) [] := ⟨[], Has.nil _ _ _, fun j l h => by cases h⟩
theorem Has.lenXs {w : World} {e : TypeId} {Bd n : Nat} {v : Value} {xs : List Value} (h : Has w e Bd v n xs) : xs.length = n := h.len
theorem RowsW.keptAt {w w' : World} {Bd : Nat} {v : Value} {ls : List (List UInt8)} (h : RowsW w Bd v ls) (kp : ∀ k, Bd ≤ k → k < w.heap.size → w'.heap[k]? = w.heap[k]?) : RowsW w' Bd v ls := by
  obtain ⟨xs, h1, h2⟩ := h
  have kept : ∀ {e : TypeId} {v : Value} {n : Nat} {xs : List Value}, Has w e Bd v n xs → Has w' e Bd v n xs := fun h => by
    rcases h with h | ⟨g, cap, rfl, h3, h4⟩
    · exact .inl h
    · exact .inr ⟨g, cap, rfl, h3, h4.kept (kp g h3 h4.lt)⟩
  exact ⟨xs, kept h1, fun j l hj => by
    obtain ⟨p, c, e1, e2, e3⟩ := h2 j l hj
    exact ⟨p, c, e1, e2, kept e3⟩⟩
theorem RowsW.later {w w' : World} {Bd : Nat} {v : Value} {ls : List (List UInt8)} (h : RowsW w Bd v ls) (hb : Below w.heap.size w w') : RowsW w' Bd v ls := h.keptAt fun k _ hk => hb.block k hk
theorem RowsW.form {w : World} {Bd : Nat} {v : Value} {ls : List (List UInt8)} (h : RowsW w Bd v ls) : ∃ a cap, v = .slice a ls.length cap := by
  obtain ⟨xs, h1, _⟩ := h
  exact h1.form
theorem RowsW.parts {w : World} {Bd : Nat} {v : Value} {ls : List (List UInt8)} (h : RowsW w Bd v ls) : Parts w v ls := by
  obtain ⟨xs, h1, h2⟩ := h
  rcases h1 with ⟨rfl, h3, rfl⟩ | ⟨g, cap, rfl, h3, h4⟩
  · have e : ls = [] := List.eq_nil_of_length_eq_zero h3
    subst e
    exact Parts.nil w
  · refine ⟨_, cap, rfl, h4.2.1, (fun h => by cases h), fun ad he j l hj => ?_⟩
    cases he
    obtain ⟨p, c, e1, e2, e3⟩ := h2 j l hj
    exact ⟨p, c, by rw [Addr.add_lit, Nat.zero_add]; exact h4.cell e1, e3.reads, e2⟩
theorem RowsW.mono {w : World} {Bd Bd2 : Nat} {v : Value} {ls : List (List UInt8)} (h : RowsW w Bd v ls) (hb : Bd2 ≤ Bd) : RowsW w Bd2 v ls := by
  obtain ⟨xs, h1, h2⟩ := h
  exact ⟨xs, h1.mono hb, fun j l hj => by
    obtain ⟨p, c, e1, e2, e3⟩ := h2 j l hj
    exact ⟨p, c, e1, e2, e3.mono hb⟩⟩
theorem RowsW.headLt {w : World} {Bd n cap k : Nat} {ao : Option Addr} {ls : List (List UInt8)} (h : RowsW w Bd (.slice ao n cap) ls) (e : ao = some ⟨k, 0, none⟩) : k < w.heap.size := by
  obtain ⟨xs, h1, _⟩ := h
  subst e
  rcases h1 with ⟨e, _⟩ | ⟨g, c, e, _, h4⟩
  · cases e
  · injection e with e
    injection e with e
    injection e with e
    subst e
    exact h4.lt
/-- One more. -/
theorem RowsW.snoc {w w' : World} {Bd : Nat} {ao : Option Addr} {n cap : Nat} {v' : Value} {ls : List (List UInt8)} {xs : List Value}
    (hx : ∀ (j : Nat) (l : List UInt8), ls[j]? = some l → ∃ p c, xs[j]? = some (Value.slice p l.length c) ∧ c ≤ maxLen ∧ Has w 5 Bd (.slice p l.length c) l.length (B l)) (hxl : xs.length = ls.length)
    (hown : Has w 31 Bd (.slice ao n cap) n xs) (hk : ∀ k, k < w.heap.size → ao ≠ some ⟨k, 0, none⟩ → w'.heap[k]? = w.heap[k]?)
    {p : Option Addr} {m c : Nat} {l : List UInt8} (hm : l.length = m) (hc : c ≤ maxLen) (hl : Has w 5 Bd (.slice p m c) m (B l)) (hH : Has w' 31 Bd v' (n + 1) (xs ++ [.slice p m c])) : RowsW w' Bd v' (ls ++ [l]) := by
  subst hm
  have hn : n = ls.length := by have := hown.len; omega
  have kept : ∀ {q : Option Addr} {m c : Nat} {l : List UInt8}, Has w 5 Bd (.slice q m c) m (B l) → Has w' 5 Bd (.slice q m c) m (B l) := fun h => by
    rcases h with h | ⟨g, cp, e1, h3, h4⟩
    · exact .inl h
    · refine .inr ⟨g, cp, e1, h3, h4.kept (hk g h4.lt (fun e => ?_))⟩
      rcases hown with ⟨e5, _⟩ | ⟨g2, c2, e5, _, h6⟩
      · injection e5 with e5
        rw [e] at e5; cases e5
      · injection e5 with e5
        rw [e] at e5
        injection e5 with e5
        injection e5 with e5
        subst e5
        obtain ⟨_, _, _, cur, hg, _⟩ := h4
        obtain ⟨_, _, _, cur2, hg2, _⟩ := h6
        rw [hg] at hg2
        injection hg2 with hg2
        injection hg2 with _ hg2
        exact absurd hg2 (by decide)
  refine ⟨_, by rw [List.length_append, List.length_singleton, ← hn]; exact hH, fun j l' hj => ?_⟩
  by_cases hlt : j < ls.length
  · rw [List.getElem?_append_left hlt] at hj
    obtain ⟨p', c', e1, e2, e3⟩ := hx j l' hj
    exact ⟨p', c', by rw [List.getElem?_append_left (by omega)]; exact e1, e2, kept e3⟩
  · rw [List.getElem?_append_right (by omega)] at hj
    have hj0 : j - ls.length = 0 := by
      rcases Nat.eq_zero_or_pos (j - ls.length) with h | h
      · exact h
      · rw [List.getElem?_eq_none (by simp; omega)] at hj; cases hj
    rw [hj0] at hj
    cases hj
    exact ⟨p, c, by rw [List.getElem?_append_right (by omega), hxl, hj0]; rfl, hc, kept hl⟩
end Go.Proofs.Ytifdoneffnfogab
