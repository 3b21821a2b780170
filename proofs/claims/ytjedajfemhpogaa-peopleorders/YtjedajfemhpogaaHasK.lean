/- A slice of the call's own whose elements are K cells each, or nil; what appends make of it. -/
import Derived.Test.YtjedajfemhpogaaBlk
import Derived.Test.YtjedajfemhpogaaRows
namespace Go.Proofs.Ytjedajfemhpogaa
open Go.RowKit
set_option linter.unusedSimpArgs false
set_option linter.unusedVariables false

/-- v is nil, or n elements of K cells each (xs: all their cells) in a block from Bd on. -/
def HasK (K : Nat) (w : World) (e : TypeId) (Bd : Nat) (v : Value) (n : Nat) (xs : List Value) : Prop :=
  (v = .slice none 0 0 ∧ n = 0 ∧ xs = []) ∨ ∃ g cap cur, v = .slice (some ⟨g, 0, none⟩) n cap ∧ Bd ≤ g ∧ xs.length = n * K ∧ n ≤ cap ∧ w.heap[g]? = some (.cells cur e (0, 0)) ∧ cur.size = cap * K ∧ cur.toList.take (n * K) = xs

section
variable {K : Nat} {w w' : World} {e : TypeId} {Bd : Nat} {v : Value} {n : Nat} {xs : List Value}
theorem HasK.nil (K : Nat) (w : World) (e : TypeId) (Bd : Nat) : HasK K w e Bd (.slice none 0 0) 0 [] := .inl ⟨rfl, rfl, rfl⟩
theorem HasK.later (h : HasK K w e Bd v n xs) (hb : Below w.heap.size w w') : HasK K w' e Bd v n xs := by
  rcases h with h | ⟨g, cap, cur, rfl, h1, h2, h3, h4, h5, h6⟩
  · exact .inl h
  · exact .inr ⟨g, cap, cur, rfl, h1, h2, h3, by rw [hb.block g (Array.getElem?_eq_some_iff.1 h4).1]; exact h4, h5, h6⟩
theorem HasK.mono (h : HasK K w e Bd v n xs) {B2 : Nat} (hb : B2 ≤ Bd) : HasK K w e B2 v n xs := by
  rcases h with h | ⟨g, cap, cur, rfl, h1, r⟩
  · exact .inl h
  · exact .inr ⟨g, cap, cur, rfl, Nat.le_trans hb h1, r⟩
theorem HasK.form (h : HasK K w e Bd v n xs) : ∃ a cap, v = .slice a n cap := by
  rcases h with ⟨rfl, rfl, rfl⟩ | ⟨g, cap, cur, rfl, h1, h2, h3, h4, h5, h6⟩
  · exact ⟨_, _, rfl⟩
  · exact ⟨_, _, rfl⟩
theorem HasK.cell {g cap : Nat} (h : HasK K w e Bd (.slice (some ⟨g, 0, none⟩) n cap) n xs) {j : Nat} {u : Value} (hj : xs[j]? = some u) : w.cell? ⟨g, j, none⟩ = some u := by
  rcases h with ⟨h, _⟩ | ⟨g', cap', cur, e1, h1, h2, h3, h4, h5, h6⟩
  · cases h
  · injection e1 with e1 e2 e3
    injection e1 with e1
    injection e1 with e1
    subst e1
    rw [cell_of_row w g j _ e (0, 0) h4]
    rw [← h6] at hj
    have hlt : j < n * K := by
      have := (List.getElem?_eq_some_iff.1 hj).1
      rw [List.length_take] at this
      omega
    rw [List.getElem?_take_of_lt hlt] at hj
    simpa using hj
/-- The block that a row of K cells an element lies in, whole. -/
theorem HasK.built {g n : Nat} {xs : List Value} (hg : w.heap[g]? = some (.cells xs.toArray e (0, 0))) (hl : xs.length = n * K) (hB : Bd ≤ g) : HasK K w e Bd (.slice (some ⟨g, 0, none⟩) n n) n xs :=
  .inr ⟨g, n, xs.toArray, rfl, hB, hl, Nat.le_refl _, hg, by simpa using hl, by rw [List.take_of_length_le (by simp [hl])]⟩
end

/-- The block that a slice lies in. -/
def blkOf : Value → Option Nat
  | .slice (some a) _ _ => some a.block
  | _ => none
theorem HasK.blk {K : Nat} {w : World} {e : TypeId} {Bd : Nat} {v : Value} {n : Nat} {xs : List Value} (h : HasK K w e Bd v n xs) {k : Nat} (hk : blkOf v = some k) : k < w.heap.size := by
  rcases h with ⟨rfl, _⟩ | ⟨g, cap, cur, rfl, h1, h2, h3, h4, h5, h6⟩
  · cases hk
  · cases hk; exact (Array.getElem?_eq_some_iff.1 h4).1

section
variable {P : Program}
theorem run_append_k (K Y : Nat) (w : World) (t tx ty e : TypeId) (i : TypeInfo) (z : Value) (ht : P.underlying t = some (.slice e)) (hi : P.info? e = some i) (hz : i.zero = some z)
    (hsize : i.size = K) (hzs : z.cells.size = K) (hby : i.bytes = Y)
    (Bd : Nat) (v : Value) (n : Nat) (xs : List Value) (hown : HasK K w e Bd v n xs) (hBd : Bd ≤ w.heap.size) (x : Value) (m : Nat) (news : List Value) (hs : Src P K tx x m news w)
    (hb : (n + m) * Y ≤ 140737488355328) (hb2 : n + m ≤ 140737488355328) :
    ∃ v' w', (Builtin.append_ #[t, tx] ty #[v, x]).run P w = .ok v' w' ∧ HasK K w' e Bd v' (n + m) (xs ++ news) ∧ Below Bd w w' ∧ (∀ k, k < w.heap.size → blkOf v ≠ some k → w'.heap[k]? = w.heap[k]?) ∧ ∀ k, blkOf v' = some k → blkOf v = some k ∨ w.heap.size ≤ k := by
  have hl : news.length = m * K := hs.newsLen
  rcases hown with ⟨rfl, rfl, rfl⟩ | ⟨g, cap, cur, rfl, h1, l1, l2, hg, hcs, htake⟩
  · by_cases hm : m = 0
    · subst hm
      have hn : news = [] := List.eq_nil_of_length_eq_zero (by omega)
      subst hn
      refine ⟨.slice none 0 0, w, ?_, .inl ⟨rfl, rfl, rfl⟩, Below.refl _ _, fun _ _ _ => rfl, fun _ h => .inl h⟩
      rcases hs.kind with ⟨e', hk⟩ | hk <;> simp [Builtin.append_, run_underlying ht, run_underlying hk, sizeOf, typeInfo, hi, hsize, hs.len, hs.cells]
    have hf : (Builtin.firstCells i.size 0 (.slice none 0 0)).run P w.drew = .ok ([] : List Value).toArray w.drew := by simp [Builtin.firstCells]
    have hgc := grownCap_ge w (0 + m) 0 e
    have hr := run_append_grow_src (P := P) w t tx ty e i z ht hi hz none 0 0 [] hf x m news (by rw [hsize]; exact hs) (by omega) (by omega) (growslice_fits (by omega) (by rw [hby]; omega))
    refine ⟨_, _, hr, .inr ⟨w.heap.size, grownCap w (0 + m) 0 e, _, rfl, hBd, by simp [hl], hgc, heap_alloc_new w.drew _, ?_, ?_⟩, ?_, fun k hk _ => Below.heap_alloc w.drew _ k hk, fun k h => by cases h; exact .inr (Nat.le_refl _)⟩
    · simp only [Array.size_append, List.size_toArray, size_zeroCells, hzs, List.nil_append, hl]
      rw [← Nat.add_mul]
      congr 1
      omega
    · simp only [Array.toList_append, List.nil_append]
      rw [Nat.zero_add, ← hl]
      exact List.take_left
    · exact ⟨rfl, rfl, rfl, by simp, fun k hk => Below.heap_alloc w.drew _ k (by show k < w.heap.size; omega)⟩
  · have hlen : (xs ++ news).length = (n + m) * K := by rw [List.length_append, l1, hl, Nat.add_mul]
    by_cases hroom : n + m ≤ cap
    · have hmul : (n + m) * K ≤ cap * K := Nat.mul_le_mul_right K hroom
      have hst := run_storeCells_at P g (n * K) e news 0 cur w hg (by rw [hl, hcs]; rw [Nat.add_mul] at hmul; omega) hs.one
      simp only [Nat.add_zero] at hst
      have hr : (Builtin.append_ #[t, tx] ty #[.slice (some ⟨g, 0, none⟩) n cap, x]).run P w = .ok (.slice (some ⟨g, 0, none⟩) (n + m) cap) (w.setRow g (cur.toList.take (n * K) ++ news ++ cur.toList.drop (n * K + news.length)).toArray) := by
        rcases hs.kind with ⟨e', hk⟩ | hk <;> simp [Builtin.append_, run_underlying ht, run_underlying hk, sizeOf, typeInfo, hi, hsize, hs.len, hroom, hs.cells, Addr.add_lit, hst]
      refine ⟨_, _, hr, .inr ⟨g, cap, _, rfl, h1, hlen, hroom, setRow_heap w g cur _ e _ hg, ?_, ?_⟩, ⟨rfl, rfl, rfl, by simp, fun k hk => setRow_other w g k _ (by omega)⟩, fun k hk hne => setRow_other w g k _ (fun e => hne (by rw [e]; rfl)), fun _ h => .inl h⟩
      · simp only [List.size_toArray, List.length_append, List.length_take, List.length_drop, Array.length_toList]
        rw [Nat.add_mul] at hmul
        omega
      · rw [htake]
        simp only [List.append_assoc]
        rw [← List.append_assoc, ← hlen]
        exact List.take_left
    · have hgc := grownCap_ge w (n + m) cap e
      have hold : HasK K w.drew e Bd (.slice (some ⟨g, 0, none⟩) n cap) n xs := .inr ⟨g, cap, cur, rfl, h1, l1, l2, hg, hcs, htake⟩
      have hf : (Builtin.firstCells i.size n (.slice (some ⟨g, 0, none⟩) n cap)).run P w.drew = .ok xs.toArray w.drew :=
        run_firstCells_some (P := P) w.drew i.size n ⟨g, 0, none⟩ n cap xs (by rw [hsize, l1]) (by intro j u hj; rw [Addr.add_lit, Nat.zero_add]; exact hold.cell hj)
      have hr := run_append_grow_src (P := P) w t tx ty e i z ht hi hz (some ⟨g, 0, none⟩) n cap xs hf x m news (by rw [hsize]; exact hs) (by omega) (by omega) (growslice_fits (by omega) (by rw [hby]; omega))
      refine ⟨_, _, hr, .inr ⟨w.heap.size, grownCap w (n + m) cap e, _, rfl, hBd, hlen, hgc, heap_alloc_new w.drew _, ?_, ?_⟩, ⟨rfl, rfl, rfl, by simp, fun k hk => Below.heap_alloc w.drew _ k (by show k < w.heap.size; omega)⟩, fun k hk _ => Below.heap_alloc w.drew _ k hk, fun k h => by cases h; exact .inr (Nat.le_refl _)⟩
      · simp only [Array.size_append, List.size_toArray, size_zeroCells, hzs, hlen]
        rw [← Nat.add_mul]
        congr 1
        omega
      · simp only [Array.toList_append]
        rw [← hlen]
        exact List.take_left

theorem wpList_append_k (K Y : Nat) {w : World} {ops : Array Oper} {rest : List Oper} {o : Oper} {a : Act} {Q : Exit → Act → World → Prop} (hgd : o.guard = none) (s x : Operand) (t tx : TypeId)
    (ho : o.op = .call { callee := .builtin .append, args := #[s, x], argTypes := #[t, tx] })
    (e : TypeId) (i : TypeInfo) (z : Value) (ht : P.underlying t = some (.slice e)) (hi : P.info? e = some i) (hz : i.zero = some z) (hsize : i.size = K) (hzs : z.cells.size = K) (hby : i.bytes = Y)
    (Bd : Nat) (v : Value) (n : Nat) (xs : List Value) (hs : a.eval s = v) (hown : HasK K w e Bd v n xs) (hBd : Bd ≤ w.heap.size)
    (y : Value) (m : Nat) (news : List Value) (hx : a.eval x = y) (hsrc : Src P K tx y m news w) (hb : (n + m) * Y ≤ 140737488355328) (hb2 : n + m ≤ 140737488355328)
    (h : ∀ v' w', HasK K w' e Bd v' (n + m) (xs ++ news) → Below Bd w w' → (∀ k, k < w.heap.size → blkOf v ≠ some k → w'.heap[k]? = w.heap[k]?) → (∀ k, blkOf v' = some k → blkOf v = some k ∨ w.heap.size ≤ k) → wpList P ops Q rest (a.put o.dst v') w') : wpList P ops Q (o :: rest) a w := by
  refine wpList_plain hgd fun J hJ => ?_
  obtain ⟨v', w', hr, hH, hB, hKp, hKq⟩ := run_append_k (P := P) K Y w t tx o.type e i z ht hi hz hsize hzs hby Bd v n xs hown hBd y m news hsrc hb hb2
  unfold Oper.wp execOp
  simp only [ho, resolve, invoke, builtin, Sem.run_bind, Sem.run_pure, Result.andThen_ok, List.map_toArray, List.map_cons, List.map_nil, hs, hx, hr]
  exact hJ _ _ (h v' w' hH hB hKp hKq)
end
end Go.Proofs.Ytjedajfemhpogaa
