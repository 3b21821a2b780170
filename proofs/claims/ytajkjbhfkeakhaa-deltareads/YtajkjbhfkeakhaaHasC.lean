/- A slice of the call's own whose elements are K cells each, or nil; what appends make of it; slices of parts. -/
import Derived.Test.YtajkjbhfkeakhaaOpS
import Derived.Test.YtajkjbhfkeakhaaRows
namespace Go.Proofs.Ytajkjbhfkeakhaa
open Go.RowKit
set_option linter.unusedSimpArgs false
set_option linter.unusedVariables false

/-- v is nil, or n elements of K cells each (xs: all their cells) in a block from Bd on. -/
def HasK (K : Nat) (w : World) (e : TypeId) (Bd : Nat) (v : Value) (n : Nat) (xs : List Value) : Prop :=
  (v = .slice none 0 0 ∧ n = 0 ∧ xs = []) ∨ ∃ g cap cur, v = .slice (some ⟨g, 0, none⟩) n cap ∧ Bd ≤ g ∧ xs.length = n * K ∧ n ≤ cap ∧ w.heap[g]? = some (.cells cur e (0, 0)) ∧ cur.size = cap * K ∧ cur.toList.take (n * K) = xs

section
variable {K : Nat} {w w' : World} {e : TypeId} {Bd : Nat} {v : Value} {n : Nat} {xs : List Value}
theorem HasK.nil (K : Nat) (w : World) (e : TypeId) (Bd : Nat) : HasK K w e Bd (.slice none 0 0) 0 [] := .inl ⟨rfl, rfl, rfl⟩
theorem HasK.later (h : HasK K w e Bd v n xs) (hb : Below w.heap.size w w') : HasK K w' e Bd v n xs := by
  rcases h with h | ⟨g, cap, cur, rfl, h1, h2, h3, h4, h5, h6⟩
  · exact .inl h
  · exact .inr ⟨g, cap, cur, rfl, h1, h2, h3, by rw [hb.block g (Array.getElem?_eq_some_iff.1 h4).1]; exact h4, h5, h6⟩
theorem HasK.mono (h : HasK K w e Bd v n xs) {B2 : Nat} (hb : B2 ≤ Bd) : HasK K w e B2 v n xs := by
  rcases h with h | ⟨g, cap, cur, rfl, h1, r⟩
  · exact .inl h
  · exact .inr ⟨g, cap, cur, rfl, Nat.le_trans hb h1, r⟩
theorem HasK.form (h : HasK K w e Bd v n xs) : ∃ a cap, v = .slice a n cap := by
  rcases h with ⟨rfl, rfl, rfl⟩ | ⟨g, cap, cur, rfl, h1, h2, h3, h4, h5, h6⟩
  · exact ⟨_, _, rfl⟩
  · exact ⟨_, _, rfl⟩
theorem HasK.cell {g cap : Nat} (h : HasK K w e Bd (.slice (some ⟨g, 0, none⟩) n cap) n xs) {j : Nat} {u : Value} (hj : xs[j]? = some u) : w.cell? ⟨g, j, none⟩ = some u := by
  rcases h with ⟨h, _⟩ | ⟨g', cap', cur, e1, h1, h2, h3, h4, h5, h6⟩
  · cases h
  · injection e1 with e1 e2 e3
    injection e1 with e1
    injection e1 with e1
    subst e1
    rw [cell_of_row w g j _ e (0, 0) h4]
    rw [← h6] at hj
    have hlt : j < n * K := by
      have := (List.getElem?_eq_some_iff.1 hj).1
      rw [List.length_take] at this
      omega
    rw [List.getElem?_take_of_lt hlt] at hj
    simpa using hj
/-- The block that a row of K cells an element lies in, whole. -/
theorem HasK.built {g n : Nat} {xs : List Value} (hg : w.heap[g]? = some (.cells xs.toArray e (0, 0))) (hl : xs.length = n * K) (hB : Bd ≤ g) : HasK K w e Bd (.slice (some ⟨g, 0, none⟩) n n) n xs :=
  .inr ⟨g, n, xs.toArray, rfl, hB, hl, Nat.le_refl _, hg, by simpa using hl, by rw [List.take_of_length_le (by simp [hl])]⟩
end

/-- The block that a slice lies in. -/
def blkOf : Value → Option Nat
  | .slice (some a) _ _ => some a.block
  | _ => none
theorem HasK.blk {K : Nat} {w : World} {e : TypeId} {Bd : Nat} {v : Value} {n : Nat} {xs : List Value} (h : HasK K w e Bd v n xs) {k : Nat} (hk : blkOf v = some k) : k < w.heap.size := by
  rcases h with ⟨rfl, _⟩ | ⟨g, cap, cur, rfl, h1, h2, h3, h4, h5, h6⟩
  · cases hk
  · cases hk; exact (Array.getElem?_eq_some_iff.1 h4).1

section
variable {P : Program}
theorem run_append_k (K Y : Nat) (w : World) (t tx ty e : TypeId) (i : TypeInfo) (z : Value) (ht : P.underlying t = some (.slice e)) (hi : P.info? e = some i) (hz : i.zero = some z)
    (hsize : i.size = K) (hzs : z.cells.size = K) (hby : i.bytes = Y)
    (Bd : Nat) (v : Value) (n : Nat) (xs : List Value) (hown : HasK K w e Bd v n xs) (hBd : Bd ≤ w.heap.size) (x : Value) (m : Nat) (news : List Value) (hs : Src P K tx x m news w)
    (hb : (n + m) * Y ≤ 140737488355328) (hb2 : n + m ≤ 140737488355328) :
    ∃ v' w', (Builtin.append_ #[t, tx] ty #[v, x]).run P w = .ok v' w' ∧ HasK K w' e Bd v' (n + m) (xs ++ news) ∧ Below Bd w w' ∧ (∀ k, k < w.heap.size → blkOf v ≠ some k → w'.heap[k]? = w.heap[k]?) ∧ ∀ k, blkOf v' = some k → blkOf v = some k ∨ w.heap.size ≤ k := by
  have hl : news.length = m * K := hs.newsLen
  rcases hown with ⟨rfl, rfl, rfl⟩ | ⟨g, cap, cur, rfl, h1, l1, l2, hg, hcs, htake⟩
  · by_cases hm : m = 0
    · subst hm
      have hn : news = [] := List.eq_nil_of_length_eq_zero (by omega)
      subst hn
      refine ⟨.slice none 0 0, w, ?_, .inl ⟨rfl, rfl, rfl⟩, Below.refl _ _, fun _ _ _ => rfl, fun _ h => .inl h⟩
      rcases hs.kind with ⟨e', hk⟩ | hk <;> simp [Builtin.append_, run_underlying ht, run_underlying hk, sizeOf, typeInfo, hi, hsize, hs.len, hs.cells]
    have hf : (Builtin.firstCells i.size 0 (.slice none 0 0)).run P w.drew = .ok ([] : List Value).toArray w.drew := by simp [Builtin.firstCells]
    have hgc := grownCap_ge w (0 + m) 0 e
    have hr := run_append_grow_src (P := P) w t tx ty e i z ht hi hz none 0 0 [] hf x m news (by rw [hsize]; exact hs) (by omega) (by omega) (growslice_fits (by omega) (by rw [hby]; omega))
    refine ⟨_, _, hr, .inr ⟨w.heap.size, grownCap w (0 + m) 0 e, _, rfl, hBd, by simp [hl], hgc, heap_alloc_new w.drew _, ?_, ?_⟩, ?_, fun k hk _ => Below.heap_alloc w.drew _ k hk, fun k h => by cases h; exact .inr (Nat.le_refl _)⟩
    · simp only [Array.size_append, List.size_toArray, size_zeroCells, hzs, List.nil_append, hl]
      rw [← Nat.add_mul]
      congr 1
      omega
    · simp only [Array.toList_append, List.nil_append]
      rw [Nat.zero_add, ← hl]
      exact List.take_left
    · exact ⟨rfl, rfl, rfl, by simp, fun k hk => Below.heap_alloc w.drew _ k (by show k < w.heap.size; omega)⟩
  · have hlen : (xs ++ news).length = (n + m) * K := by rw [List.length_append, l1, hl, Nat.add_mul]
    by_cases hroom : n + m ≤ cap
    · have hmul : (n + m) * K ≤ cap * K := Nat.mul_le_mul_right K hroom
      have hst := run_storeCells_at P g (n * K) e news 0 cur w hg (by rw [hl, hcs]; rw [Nat.add_mul] at hmul; omega) hs.one
      simp only [Nat.add_zero] at hst
      have hr : (Builtin.append_ #[t, tx] ty #[.slice (some ⟨g, 0, none⟩) n cap, x]).run P w = .ok (.slice (some ⟨g, 0, none⟩) (n + m) cap) (w.setRow g (cur.toList.take (n * K) ++ news ++ cur.toList.drop (n * K + news.length)).toArray) := by
        rcases hs.kind with ⟨e', hk⟩ | hk <;> simp [Builtin.append_, run_underlying ht, run_underlying hk, sizeOf, typeInfo, hi, hsize, hs.len, hroom, hs.cells, Addr.add_lit, hst]
      refine ⟨_, _, hr, .inr ⟨g, cap, _, rfl, h1, hlen, hroom, setRow_heap w g cur _ e _ hg, ?_, ?_⟩, ⟨rfl, rfl, rfl, by simp, fun k hk => setRow_other w g k _ (by omega)⟩, fun k hk hne => setRow_other w g k _ (fun e => hne (by rw [e]; rfl)), fun _ h => .inl h⟩
      · simp only [List.size_toArray, List.length_append, List.length_take, List.length_drop, Array.length_toList]
        rw [Nat.add_mul] at hmul
        omega
      · rw [htake]
        simp only [List.append_assoc]
        rw [← List.append_assoc, ← hlen]
        exact List.take_left
    · have hgc := grownCap_ge w (n + m) cap e
      have hold : HasK K w.drew e Bd (.slice (some ⟨g, 0, none⟩) n cap) n xs := .inr ⟨g, cap, cur, rfl, h1, l1, l2, hg, hcs, htake⟩
      have hf : (Builtin.firstCells i.size n (.slice (some ⟨g, 0, none⟩) n cap)).run P w.drew = .ok xs.toArray w.drew :=
        run_firstCells_some (P := P) w.drew i.size n ⟨g, 0, none⟩ n cap xs (by rw [hsize, l1]) (by intro j u hj; rw [Addr.add_lit, Nat.zero_add]; exact hold.cell hj)
      have hr := run_append_grow_src (P := P) w t tx ty e i z ht hi hz (some ⟨g, 0, none⟩) n cap xs hf x m news (by rw [hsize]; exact hs) (by omega) (by omega) (growslice_fits (by omega) (by rw [hby]; omega))
      refine ⟨_, _, hr, .inr ⟨w.heap.size, grownCap w (n + m) cap e, _, rfl, hBd, hlen, hgc, heap_alloc_new w.drew _, ?_, ?_⟩, ⟨rfl, rfl, rfl, by simp, fun k hk => Below.heap_alloc w.drew _ k (by show k < w.heap.size; omega)⟩, fun k hk _ => Below.heap_alloc w.drew _ k hk, fun k h => by cases h; exact .inr (Nat.le_refl _)⟩
      · simp only [Array.size_append, List.size_toArray, size_zeroCells, hzs, hlen]
        rw [← Nat.add_mul]
        congr 1
        omega
      · simp only [Array.toList_append]
        rw [← hlen]
        exact List.take_left

theorem wpList_append_k (K Y : Nat) {w : World} {ops : Array Oper} {rest : List Oper} {o : Oper} {a : Act} {Q : Exit → Act → World → Prop} (hgd : o.guard = none) (s x : Operand) (t tx : TypeId)
    (ho : o.op = .call { callee := .builtin .append, args := #[s, x], argTypes := #[t, tx] })
    (e : TypeId) (i : TypeInfo) (z : Value) (ht : P.underlying t = some (.slice e)) (hi : P.info? e = some i) (hz : i.zero = some z) (hsize : i.size = K) (hzs : z.cells.size = K) (hby : i.bytes = Y)
    (Bd : Nat) (v : Value) (n : Nat) (xs : List Value) (hs : a.eval s = v) (hown : HasK K w e Bd v n xs) (hBd : Bd ≤ w.heap.size)
    (y : Value) (m : Nat) (news : List Value) (hx : a.eval x = y) (hsrc : Src P K tx y m news w) (hb : (n + m) * Y ≤ 140737488355328) (hb2 : n + m ≤ 140737488355328)
    (h : ∀ v' w', HasK K w' e Bd v' (n + m) (xs ++ news) → Below Bd w w' → (∀ k, k < w.heap.size → blkOf v ≠ some k → w'.heap[k]? = w.heap[k]?) → (∀ k, blkOf v' = some k → blkOf v = some k ∨ w.heap.size ≤ k) → wpList P ops Q rest (a.put o.dst v') w') : wpList P ops Q (o :: rest) a w := by
  refine wpList_plain hgd fun J hJ => ?_
  obtain ⟨v', w', hr, hH, hB, hKp, hKq⟩ := run_append_k (P := P) K Y w t tx o.type e i z ht hi hz hsize hzs hby Bd v n xs hown hBd y m news hsrc hb hb2
  unfold Oper.wp execOp
  simp only [ho, resolve, invoke, builtin, Sem.run_bind, Sem.run_pure, Result.andThen_ok, List.map_toArray, List.map_cons, List.map_nil, hs, hx, hr]
  exact hJ _ _ (h v' w' hH hB hKp hKq)
end

/-- v is nil, or the parts o in a block from Bd on. -/
def HasC (w : World) (Bd : Nat) (v : Value) (o : List Cp) : Prop := HasK 3 w 55 Bd v o.length (C o)

section
variable {w w' : World} {Bd : Nat} {v : Value} {o : List Cp}
theorem HasC.nil (w : World) (Bd : Nat) : HasC w Bd (.slice none 0 0) [] := HasK.nil _ _ _ _
theorem HasC.later (h : HasC w Bd v o) (hb : Below w.heap.size w w') : HasC w' Bd v o := HasK.later h hb
theorem HasC.mono (h : HasC w Bd v o) {B2 : Nat} (hb : B2 ≤ Bd) : HasC w B2 v o := HasK.mono h hb
theorem HasC.form (h : HasC w Bd v o) : ∃ a cap, v = .slice a o.length cap := HasK.form h
theorem HasC.reads (h : HasC w Bd v o) : RC w v o := by
  have h0 := h
  rcases h with ⟨rfl, h1, h2⟩ | ⟨g, cap, cur, rfl, h1, h2, h3, h4, h5, h6⟩
  · exact .inl ⟨none, 0, rfl, List.eq_nil_of_length_eq_zero h1, fun _ => rfl⟩
  · exact .inr ⟨g, 0, cap, rfl, h3, fun j u hj => by rw [Nat.zero_add]; exact HasK.cell h0 hj, (Array.getElem?_eq_some_iff.1 h4).1⟩
end

theorem Try.infoComp : (Try.prog.info? 55).map (fun i => (i.size, i.bytes, i.zero.map fun z => z.cells.size)) = some (3, 32, some 3) := by kernel_rfl
theorem info_comp : ∃ i z, Try.prog.info? 55 = some i ∧ i.zero = some z ∧ i.size = 3 ∧ z.cells.size = 3 ∧ i.bytes = 32 := by
  have h := Try.infoComp
  cases hi : Try.prog.info? 55 with
  | none => simp [hi] at h
  | some i =>
    cases hz : i.zero with
    | none => simp [hi, hz] at h
    | some z =>
      simp [hi, hz] at h
      exact ⟨i, z, rfl, hz, h.1, h.2.2, h.2.1⟩

/-- What reads as parts, as what an append takes. -/
theorem RC.src {w : World} {v : Value} {o : List Cp} (h : RC w v o) : Src Try.prog 3 27 v o.length (C o) w := by
  rcases h with ⟨ao, cap, rfl, rfl, h0⟩ | ⟨g, off, cap, rfl, h1, h2, h3⟩
  · cases ao with
    | none =>
      have := h0 rfl
      subst this
      exact Src.ofNil w Try.underlying27 0
    | some ad => exact Src.ofSlice w Try.underlying27 ad 0 cap [] rfl (fun j u hj => by simp at hj) (fun u hu => by simp at hu)
  · exact Src.ofSlice w Try.underlying27 ⟨g, off, none⟩ o.length cap (C o) (C_length o) (fun j u hj => by rw [Addr.add_lit]; exact h2 j u hj) (C_one o)

/-- An append of parts; the other blocks stay. -/
theorem wpList_append_c2 {w : World} {ops : Array Oper} {rest : List Oper} {op : Oper} {a : Act} {Q : Exit → Act → World → Prop} (hgd : op.guard = none) (s x : Operand)
    (ho : op.op = .call { callee := .builtin .append, args := #[s, x], argTypes := #[27, 27] })
    (Bd : Nat) (v : Value) (o : List Cp) (hs : a.eval s = v) (hown : HasC w Bd v o) (hBd : Bd ≤ w.heap.size)
    (y : Value) (p : List Cp) (hx : a.eval x = y) (hsrc : RC w y p) (hb : o.length + p.length ≤ 4398046511104)
    (h : ∀ v' w', HasC w' Bd v' (o ++ p) → Below Bd w w' → (∀ k, k < w.heap.size → blkOf v ≠ some k → w'.heap[k]? = w.heap[k]?) → (∀ k, blkOf v' = some k → blkOf v = some k ∨ w.heap.size ≤ k) → wpList Try.prog ops Q rest (a.put op.dst v') w') : wpList Try.prog ops Q (op :: rest) a w := by
  obtain ⟨i, z, hi, hz, hsz, hzs, hby⟩ := info_comp
  refine wpList_append_k 3 32 hgd s x 27 27 ho 55 i z Try.underlying27 hi hz hsz hzs hby Bd v _ _ hs hown hBd y _ _ hx hsrc.src (by omega) (by omega) ?_
  intro v' w' hH hB hK hK2
  refine h v' w' ?_ hB hK hK2
  unfold HasC
  rw [List.length_append, C_append]
  exact hH
/-- An append of parts. -/
theorem wpList_append_c {w : World} {ops : Array Oper} {rest : List Oper} {op : Oper} {a : Act} {Q : Exit → Act → World → Prop} (hgd : op.guard = none) (s x : Operand)
    (ho : op.op = .call { callee := .builtin .append, args := #[s, x], argTypes := #[27, 27] })
    (Bd : Nat) (v : Value) (o : List Cp) (hs : a.eval s = v) (hown : HasC w Bd v o) (hBd : Bd ≤ w.heap.size)
    (y : Value) (p : List Cp) (hx : a.eval x = y) (hsrc : RC w y p) (hb : o.length + p.length ≤ 4398046511104)
    (h : ∀ v' w', HasC w' Bd v' (o ++ p) → Below Bd w w' → wpList Try.prog ops Q rest (a.put op.dst v') w') : wpList Try.prog ops Q (op :: rest) a w :=
  wpList_append_c2 hgd s x ho Bd v o hs hown hBd y p hx hsrc hb (fun v' w' h1 h2 _ _ => h v' w' h1 h2)
/-- One part, as it is built for an append. -/
theorem one_new (w : World) (c : Cp) (Bd : Nat) (hB : Bd ≤ w.heap.size) : HasC (w.alloc (.cells c.vals.toArray 55)) Bd (.slice (some ⟨w.heap.size, 0, none⟩) 1 1) [c] :=
  HasK.built (by rw [show C [c] = c.vals by simp [C]]; exact heap_alloc_new w _) (by rw [C_length]; rfl) hB
/-- A slice of parts that is built at once. -/
theorem parts_new (w : World) (o : List Cp) (n : Nat) (hn : o.length = n) : HasC (w.alloc (.cells (C o).toArray 55)) w.heap.size (.slice (some ⟨w.heap.size, 0, none⟩) n n) o := by
  subst hn
  exact HasK.built (heap_alloc_new w _) (C_length o) (Nat.le_refl _)
end Go.Proofs.Ytajkjbhfkeakhaa
