/- A slice of slices that a law builds by appends from nil on, or from an empty one. -/
import Derived.Test.YtifdoneffnfogaaAppAny
import Derived.Test.YtifdoneffnfogaaPartsD
import Derived.Test.YtifdoneffnfogaaByteI
namespace Go.Proofs.Ytifdoneffnfogaa
open Go.RowKit
set_option linter.unusedSimpArgs false
set_option linter.unusedVariables false

section
variable {P : Program} (w : World)

theorem run_append_rowV (t tx ty e : TypeId) (i : TypeInfo) (z : Value) (ht : P.underlying t = some (.slice e)) (hi : P.info? e = some i) (hz : i.zero = some z)
    (hsize : i.size = 1) (hzs : z.cells.size = 1)
    (Bd : Nat) (v : Value) (n : Nat) (xs : List Value) (hown : Has w e Bd v n xs) (hBd : Bd ≤ w.heap.size) (x : Value) (m : Nat) (news : List Value) (hs : Src P 1 tx x m news w)
    (hm : v = .slice none 0 0 → 0 < m ∨ 0 < n) (hb : (n + m) * i.bytes ≤ 140737488355328) (hb2 : n + m ≤ 140737488355328) :
    ∃ v' w', (Builtin.append_ #[t, tx] ty #[v, x]).run P w = .ok v' w' ∧ Has w' e Bd v' (n + m) (xs ++ news) ∧ Below Bd w w' := by
  have hl : news.length = m := by simpa using hs.newsLen
  rcases hown with ⟨rfl, rfl, rfl⟩ | ⟨g, cap, rfl, h1, h2⟩
  · have hm : 0 < m := by have := hm rfl; omega
    have hf : (Builtin.firstCells i.size 0 (.slice none 0 0)).run P w.drew = .ok ([] : List Value).toArray w.drew := by simp [Builtin.firstCells]
    have hgc := grownCap_ge w (0 + m) 0 e
    have hcm := grownCap_le_maxLen w (0 + m) 0 e (by unfold maxLen; omega)
    have hr := run_append_grow_src (P := P) w t tx ty e i z ht hi hz none 0 0 [] hf x m news (by rw [hsize]; exact hs) (by omega) (by omega) (growslice_fits (by omega) hb)
    refine ⟨_, _, hr, .inr ⟨w.heap.size, grownCap w (0 + m) 0 e, rfl, hBd, ⟨by simp [hl], hgc, hcm, _, heap_alloc_new w.drew _, ?_, ?_⟩⟩, ?_⟩
    · simp only [Array.size_append, List.size_toArray, size_zeroCells, hzs, hl]
      simp only [List.nil_append, hl]
      omega
    · simp only [Array.toList_append, List.nil_append]
      rw [Nat.zero_add, ← hl]
      exact List.take_left
    · exact ⟨rfl, rfl, rfl, by simp, fun k hk => Below.heap_alloc w.drew _ k (by show k < w.heap.size; omega)⟩
  · have h0 := h2
    obtain ⟨l1, l2, l3, cur, hg, hcs, htake⟩ := h0
    have hlen : (xs ++ news).length = n + m := by rw [List.length_append, l1, hl]
    by_cases hroom : n + m ≤ cap
    · have hst := run_storeCells_at P g n e news 0 cur w hg (by rw [hl]; omega) hs.one
      simp only [Nat.add_zero] at hst
      have hr : (Builtin.append_ #[t, tx] ty #[.slice (some ⟨g, 0, none⟩) n cap, x]).run P w = .ok (.slice (some ⟨g, 0, none⟩) (n + m) cap) (w.setRow g (cur.toList.take n ++ news ++ cur.toList.drop (n + news.length)).toArray) := by
        rcases hs.kind with ⟨e', hk⟩ | hk <;> simp [Builtin.append_, run_underlying ht, run_underlying hk, sizeOf, typeInfo, hi, hsize, hs.len, hroom, hs.cells, Addr.add_lit, hst]
      refine ⟨_, _, hr, .inr ⟨g, cap, rfl, h1, ⟨hlen, hroom, l3, _, setRow_heap w g cur _ e _ hg, ?_, ?_⟩⟩, ⟨rfl, rfl, rfl, by simp, fun k hk => setRow_other w g k _ (by omega)⟩⟩
      · simp only [List.size_toArray, List.length_append, List.length_take, List.length_drop, Array.length_toList]
        omega
      · rw [htake]
        simp only [List.append_assoc]
        rw [← List.append_assoc, ← hlen]
        exact List.take_left
    · have hgc := grownCap_ge w (n + m) cap e
      have hcm := grownCap_le_maxLen w (n + m) cap e (by unfold maxLen; omega)
      have hf : (Builtin.firstCells i.size n (.slice (some ⟨g, 0, none⟩) n cap)).run P w.drew = .ok xs.toArray w.drew :=
        run_firstCells_some (P := P) w.drew i.size n ⟨g, 0, none⟩ n cap xs (by rw [hsize, l1, Nat.mul_one]) (by intro j u hj; rw [Addr.add_lit, Nat.zero_add]; exact h2.drew.cell hj)
      have hr := run_append_grow_src (P := P) w t tx ty e i z ht hi hz (some ⟨g, 0, none⟩) n cap xs hf x m news (by rw [hsize]; exact hs) (by omega) (by omega) (growslice_fits (by omega) hb)
      refine ⟨_, _, hr, .inr ⟨w.heap.size, grownCap w (n + m) cap e, rfl, hBd, ⟨hlen, hgc, hcm, _, heap_alloc_new w.drew _, ?_, ?_⟩⟩, ⟨rfl, rfl, rfl, by simp, fun k hk => Below.heap_alloc w.drew _ k (by show k < w.heap.size; omega)⟩⟩
      · simp only [Array.size_append, List.size_toArray, size_zeroCells, hzs, hlen]
        omega
      · simp only [Array.toList_append]
        rw [← hlen]
        exact List.take_left

theorem wpList_append_row {ops : Array Oper} {rest : List Oper} {o : Oper} {a : Act} {Q : Exit → Act → World → Prop} (hgd : o.guard = none) (s x : Operand) (t tx : TypeId)
    (ho : o.op = .call { callee := .builtin .append, args := #[s, x], argTypes := #[t, tx] })
    (e : TypeId) (i : TypeInfo) (z : Value) (ht : P.underlying t = some (.slice e)) (hi : P.info? e = some i) (hz : i.zero = some z) (hsize : i.size = 1) (hzs : z.cells.size = 1)
    (Bd : Nat) (v : Value) (n : Nat) (xs : List Value) (hs : a.eval s = v) (hown : Has w e Bd v n xs) (hBd : Bd ≤ w.heap.size)
    (y : Value) (m : Nat) (news : List Value) (hx : a.eval x = y) (hsrc : Src P 1 tx y m news w) (hm : 0 < m ∨ 0 < n) (hb : (n + m) * i.bytes ≤ 140737488355328) (hb2 : n + m ≤ 140737488355328)
    (h : ∀ v' w', Has w' e Bd v' (n + m) (xs ++ news) → Below Bd w w' → wpList P ops Q rest (a.put o.dst v') w') : wpList P ops Q (o :: rest) a w := by
  refine wpList_plain hgd fun K hK => ?_
  obtain ⟨v', w', hr, hH, hB⟩ := run_append_rowV (P := P) w t tx o.type e i z ht hi hz hsize hzs Bd v n xs hown hBd y m news hsrc (fun _ => hm) hb hb2
  unfold Oper.wp execOp
  simp only [ho, resolve, invoke, builtin, Sem.run_bind, Sem.run_pure, Result.andThen_ok, List.map_toArray, List.map_cons, List.map_nil, hs, hx, hr]
  exact hK _ _ (h v' w' hH hB)
/-- The same where a guard asks for it. -/
theorem wpList_append_rowW {ops : Array Oper} {rest : List Oper} {o : Oper} {a : Act} {Q : Exit → Act → World → Prop} (hw : Region.wanted o (yielded ops a.tmps) = true) (s x : Operand) (t tx : TypeId)
    (ho : o.op = .call { callee := .builtin .append, args := #[s, x], argTypes := #[t, tx] })
    (e : TypeId) (i : TypeInfo) (z : Value) (ht : P.underlying t = some (.slice e)) (hi : P.info? e = some i) (hz : i.zero = some z) (hsize : i.size = 1) (hzs : z.cells.size = 1)
    (Bd : Nat) (v : Value) (n : Nat) (xs : List Value) (hs : a.eval s = v) (hown : Has w e Bd v n xs) (hBd : Bd ≤ w.heap.size)
    (y : Value) (m : Nat) (news : List Value) (hx : a.eval x = y) (hsrc : Src P 1 tx y m news w) (hm : v = .slice none 0 0 → 0 < m ∨ 0 < n) (hb : (n + m) * i.bytes ≤ 140737488355328) (hb2 : n + m ≤ 140737488355328)
    (h : ∀ v' w', Has w' e Bd v' (n + m) (xs ++ news) → Below Bd w w' → wpList P ops Q rest (a.put o.dst v') w') : wpList P ops Q (o :: rest) a w := by
  refine wpList_step fun K hK => ?_
  rw [if_pos hw]
  obtain ⟨v', w', hr, hH, hB⟩ := run_append_rowV (P := P) w t tx o.type e i z ht hi hz hsize hzs Bd v n xs hown hBd y m news hsrc hm hb hb2
  unfold Oper.wp execOp
  simp only [ho, resolve, invoke, builtin, Sem.run_bind, Sem.run_pure, Result.andThen_ok, List.map_toArray, List.map_cons, List.map_nil, hs, hx, hr]
  exact hK _ _ (h v' w' hH hB)
end

theorem Try.infoBytes : (Try.prog.info? 37).map (fun i => (i.zero, i.size, i.bytes)) = some (some (.slice none 0 0), 1, 24) := by kernel_rfl

/-- The slice v holds slices that read, in w0, as ls. -/
def PRow (w0 w : World) (Bd : Nat) (v : Value) (ls : List (List UInt8)) : Prop :=
  ∃ xs : List Value, Has w 37 Bd v ls.length xs ∧ ∀ (j : Nat) (l : List UInt8), ls[j]? = some l → ∃ p c, xs[j]? = some (Value.slice p l.length c) ∧ Reads w0 (.slice p l.length c) (B l) ∧ c ≤ maxLen

theorem PRow.parts {w0 w : World} {Bd : Nat} {v : Value} {ls : List (List UInt8)} (h : PRow w0 w Bd v ls) (hb : Below w0.heap.size w0 w) : Parts w v ls := by
  obtain ⟨xs, hH, hx⟩ := h
  rcases hH with ⟨rfl, h0, rfl⟩ | ⟨g, cap, rfl, h1, h2⟩
  · have : ls = [] := List.eq_nil_of_length_eq_zero h0
    subst this
    exact Parts.nil w
  · refine ⟨some ⟨g, 0, none⟩, cap, rfl, h2.2.1, (fun h => by cases h), fun ad he j l hj => ?_⟩
    cases he
    obtain ⟨p, c, e1, e2, e3⟩ := hx j l hj
    exact ⟨p, c, by rw [Addr.add_lit, Nat.zero_add]; exact h2.cell e1, e2.later hb, e3⟩

theorem PRow.snoc {w0 w' : World} {Bd : Nat} {v' : Value} {ls : List (List UInt8)} {xs : List Value} (hx : ∀ (j : Nat) (l : List UInt8), ls[j]? = some l → ∃ p c, xs[j]? = some (Value.slice p l.length c) ∧ Reads w0 (.slice p l.length c) (B l) ∧ c ≤ maxLen) (hl : xs.length = ls.length)
    (l : List UInt8) (p : Option Addr) (n c : Nat) (hn : l.length = n) (hr : Reads w0 (.slice p n c) (B l)) (hc : c ≤ maxLen) (hH : Has w' 37 Bd v' (ls.length + 1) (xs ++ [.slice p n c])) : PRow w0 w' Bd v' (ls ++ [l]) := by
  subst hn
  refine ⟨_, by rw [List.length_append, List.length_singleton]; exact hH, fun j l' hj => ?_⟩
  by_cases hlt : j < ls.length
  · rw [List.getElem?_append_left hlt] at hj
    rw [List.getElem?_append_left (by omega)]
    exact hx j l' hj
  · rw [List.getElem?_append_right (by omega)] at hj
    have hj0 : j - ls.length = 0 := by
      rcases Nat.eq_zero_or_pos (j - ls.length) with h | h
      · exact h
      · rw [List.getElem?_eq_none (by simp; omega)] at hj; cases hj
    rw [hj0] at hj
    cases hj
    rw [List.getElem?_append_right (by omega), hl, hj0]
    exact ⟨p, c, rfl, hr, hc⟩

theorem PRow.cons {w0 w' : World} {Bd : Nat} {v' : Value} {ls : List (List UInt8)} {xs : List Value} (hx : ∀ (j : Nat) (l : List UInt8), ls[j]? = some l → ∃ p c, xs[j]? = some (Value.slice p l.length c) ∧ Reads w0 (.slice p l.length c) (B l) ∧ c ≤ maxLen)
    (l : List UInt8) (p : Option Addr) (n c : Nat) (hn : l.length = n) (hr : Reads w0 (.slice p n c) (B l)) (hc : c ≤ maxLen) (hH : Has w' 37 Bd v' (1 + ls.length) ([.slice p n c] ++ xs)) : PRow w0 w' Bd v' (l :: ls) := by
  subst hn
  refine ⟨_, by rw [List.length_cons, Nat.add_comm]; exact hH, fun j l' hj => ?_⟩
  cases j with
  | zero => cases hj; exact ⟨p, c, rfl, hr, hc⟩
  | succ j => exact hx j l' hj

/-- The cells of a slice of slices. -/
theorem Parts.cells {w : World} {v : Value} {ls : List (List UInt8)} (h : Parts w v ls) : ∃ xs : List Value, xs.length = ls.length ∧ (∀ w', Below w.heap.size w w' → Src Try.prog 1 22 v ls.length xs w') ∧
    ∀ (j : Nat) (l : List UInt8), ls[j]? = some l → ∃ p c, xs[j]? = some (Value.slice p l.length c) ∧ Reads w (.slice p l.length c) (B l) ∧ c ≤ maxLen := by
  obtain ⟨ao, cap, rfl, hc, hn, hcell⟩ := h
  cases ao with
  | none =>
    have := hn rfl
    subst this
    exact ⟨[], rfl, fun w' _ => Src.ofNil w' Try.underlying22 cap, fun j l hj => by simp at hj⟩
  | some ad =>
    have each : ∀ j, j < ls.length → ∃ u : Value, ∃ l p c, ls[j]? = some l ∧ u = .slice p l.length c ∧ w.cell? (ad.add j) = some u ∧ Reads w (.slice p l.length c) (B l) ∧ c ≤ maxLen := by
      intro j hj
      obtain ⟨p, c, h1, h2, h3⟩ := hcell ad rfl j _ (List.getElem?_eq_getElem hj)
      exact ⟨_, _, p, c, List.getElem?_eq_getElem hj, rfl, h1, h2, h3⟩
    obtain ⟨f, hf⟩ : ∃ f : Nat → Value, ∀ j, j < ls.length → ∃ l p c, ls[j]? = some l ∧ f j = .slice p l.length c ∧ w.cell? (ad.add j) = some (f j) ∧ Reads w (.slice p l.length c) (B l) ∧ c ≤ maxLen :=
      ⟨fun j => if hj : j < ls.length then (each j hj).choose else undef, fun j hj => by simp only [dif_pos hj]; exact (each j hj).choose_spec⟩
    have hget : ∀ j, j < ls.length → ((List.range ls.length).map f)[j]? = some (f j) := fun j hj => by simp [hj]
    refine ⟨(List.range ls.length).map f, by simp, fun w' hb => Src.ofSlice w' Try.underlying22 ad ls.length cap _ (by simp) (fun j u hj => cell_later hb ?_) (fun u hu => ?_), fun j l hj => ?_⟩
    · have hjl : j < ls.length := by simpa using (List.getElem?_eq_some_iff.1 hj).1
      rw [hget j hjl] at hj
      cases hj
      obtain ⟨l, p, c, _, _, h3, _⟩ := hf j hjl
      exact h3
    · simp only [List.mem_map, List.mem_range] at hu
      obtain ⟨j, hj, rfl⟩ := hu
      obtain ⟨l, p, c, _, h2, _⟩ := hf j hj
      rw [h2]
      rfl
    · have hjl : j < ls.length := (List.getElem?_eq_some_iff.1 hj).1
      obtain ⟨l', p, c, h1, h2, h3, h4, h5⟩ := hf j hjl
      rw [h1] at hj
      cases hj
      exact ⟨p, c, by rw [hget j hjl, h2], h4, h5⟩

end Go.Proofs.Ytifdoneffnfogaa
