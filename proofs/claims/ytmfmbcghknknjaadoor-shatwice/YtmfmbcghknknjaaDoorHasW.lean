/- A slice of the call's own whose elements are 32 cells each, or nil; what an append of one makes of it. -/
import Derived.Test.YtmfmbcghknknjaaDoorHasV
namespace Go.Proofs.YtmfmbcghknknjaaDoor
open Go.RowKit
set_option linter.unusedSimpArgs false
set_option linter.unusedVariables false

/-- v is nil, or n elements of 32 cells each (xs: all their cells) in a block from Bd on. -/
def HasW (w : World) (e : TypeId) (Bd : Nat) (v : Value) (n : Nat) (xs : List Value) : Prop :=
  (v = .slice none 0 0 ∧ n = 0 ∧ xs = []) ∨ ∃ g cap cur, v = .slice (some ⟨g, 0, none⟩) n cap ∧ Bd ≤ g ∧ xs.length = n * 32 ∧ n ≤ cap ∧ w.heap[g]? = some (.cells cur e (0, 0)) ∧ cur.size = cap * 32 ∧ cur.toList.take (n * 32) = xs

section
variable {w w' : World} {e : TypeId} {Bd : Nat} {v : Value} {n : Nat} {xs : List Value}
theorem HasW.nil (w : World) (e : TypeId) (Bd : Nat) : HasW w e Bd (.slice none 0 0) 0 [] := .inl ⟨rfl, rfl, rfl⟩
theorem HasW.later (h : HasW w e Bd v n xs) (hb : Below w.heap.size w w') : HasW w' e Bd v n xs := by
  rcases h with h | ⟨g, cap, cur, rfl, h1, h2, h3, h4, h5, h6⟩
  · exact .inl h
  · exact .inr ⟨g, cap, cur, rfl, h1, h2, h3, by rw [hb.block g (Array.getElem?_eq_some_iff.1 h4).1]; exact h4, h5, h6⟩
theorem HasW.form (h : HasW w e Bd v n xs) : ∃ a cap, v = .slice a n cap := by
  rcases h with ⟨rfl, rfl, rfl⟩ | ⟨g, cap, cur, rfl, h1, h2, h3, h4, h5, h6⟩
  · exact ⟨_, _, rfl⟩
  · exact ⟨_, _, rfl⟩
theorem HasW.cell {g cap : Nat} (h : HasW w e Bd (.slice (some ⟨g, 0, none⟩) n cap) n xs) {j : Nat} {u : Value} (hj : xs[j]? = some u) : w.cell? ⟨g, j, none⟩ = some u := by
  rcases h with ⟨h, _⟩ | ⟨g', cap', cur, e1, h1, h2, h3, h4, h5, h6⟩
  · cases h
  · injection e1 with e1 e2 e3
    injection e1 with e1
    injection e1 with e1
    subst e1
    rw [cell_of_row w g j _ e (0, 0) h4]
    rw [← h6] at hj
    have hlt : j < n * 32 := by
      have := (List.getElem?_eq_some_iff.1 hj).1
      rw [List.length_take] at this
      omega
    rw [List.getElem?_take_of_lt hlt] at hj
    simpa using hj
end

section
variable {P : Program}
theorem run_append_wide (w : World) (t tx ty e : TypeId) (i : TypeInfo) (z : Value) (ht : P.underlying t = some (.slice e)) (hi : P.info? e = some i) (hz : i.zero = some z)
    (hsize : i.size = 32) (hzs : z.cells.size = 32) (hby : i.bytes = 32)
    (Bd : Nat) (v : Value) (n : Nat) (xs : List Value) (hown : HasW w e Bd v n xs) (hBd : Bd ≤ w.heap.size) (x : Value) (news : List Value) (hs : Src P 32 tx x 1 news w)
    (hn : n ≤ 1000000) :
    ∃ v' w', (Builtin.append_ #[t, tx] ty #[v, x]).run P w = .ok v' w' ∧ HasW w' e Bd v' (n + 1) (xs ++ news) ∧ Below Bd w w' := by
  have hl : news.length = 32 := by simpa using hs.newsLen
  rcases hown with ⟨rfl, rfl, rfl⟩ | ⟨g, cap, cur, rfl, h1, l1, l2, hg, hcs, htake⟩
  · have hf : (Builtin.firstCells i.size 0 (.slice none 0 0)).run P w.drew = .ok ([] : List Value).toArray w.drew := by simp [Builtin.firstCells]
    have hgc := grownCap_ge w (0 + 1) 0 e
    have hr := run_append_grow_src (P := P) w t tx ty e i z ht hi hz none 0 0 [] hf x 1 news (by rw [hsize]; exact hs) (by omega) (by omega) (growslice_fits (by omega) (by rw [hby]; omega))
    refine ⟨_, _, hr, .inr ⟨w.heap.size, grownCap w (0 + 1) 0 e, _, rfl, hBd, by simp [hl], hgc, heap_alloc_new w.drew _, ?_, ?_⟩, ?_⟩
    · simp only [Array.size_append, List.size_toArray, size_zeroCells, hzs, hl]
      simp only [List.nil_append, hl]
      omega
    · simp only [Array.toList_append, List.nil_append]
      rw [show (0 + 1) * 32 = news.length from hl.symm]
      exact List.take_left
    · exact ⟨rfl, rfl, rfl, by simp, fun k hk => Below.heap_alloc w.drew _ k (by show k < w.heap.size; omega)⟩
  · have hlen : (xs ++ news).length = (n + 1) * 32 := by rw [List.length_append, l1, hl]; omega
    by_cases hroom : n + 1 ≤ cap
    · have hst := run_storeCells_at P g (n * 32) e news 0 cur w hg (by rw [hl]; omega) hs.one
      simp only [Nat.add_zero] at hst
      have hr : (Builtin.append_ #[t, tx] ty #[.slice (some ⟨g, 0, none⟩) n cap, x]).run P w = .ok (.slice (some ⟨g, 0, none⟩) (n + 1) cap) (w.setRow g (cur.toList.take (n * 32) ++ news ++ cur.toList.drop (n * 32 + news.length)).toArray) := by
        rcases hs.kind with ⟨e', hk⟩ | hk <;> simp [Builtin.append_, run_underlying ht, run_underlying hk, sizeOf, typeInfo, hi, hsize, hs.len, hroom, hs.cells, Addr.add_lit, hst]
      refine ⟨_, _, hr, .inr ⟨g, cap, _, rfl, h1, hlen, hroom, setRow_heap w g cur _ e _ hg, ?_, ?_⟩, ⟨rfl, rfl, rfl, by simp, fun k hk => setRow_other w g k _ (by omega)⟩⟩
      · simp only [List.size_toArray, List.length_append, List.length_take, List.length_drop, Array.length_toList]
        omega
      · rw [htake]
        simp only [List.append_assoc]
        rw [← List.append_assoc, ← hlen]
        exact List.take_left
    · have hgc := grownCap_ge w (n + 1) cap e
      have hold : HasW w.drew e Bd (.slice (some ⟨g, 0, none⟩) n cap) n xs := .inr ⟨g, cap, cur, rfl, h1, l1, l2, hg, hcs, htake⟩
      have hf : (Builtin.firstCells i.size n (.slice (some ⟨g, 0, none⟩) n cap)).run P w.drew = .ok xs.toArray w.drew :=
        run_firstCells_some (P := P) w.drew i.size n ⟨g, 0, none⟩ n cap xs (by rw [hsize, l1]) (by intro j u hj; rw [Addr.add_lit, Nat.zero_add]; exact hold.cell hj)
      have hr := run_append_grow_src (P := P) w t tx ty e i z ht hi hz (some ⟨g, 0, none⟩) n cap xs hf x 1 news (by rw [hsize]; exact hs) (by omega) (by omega) (growslice_fits (by omega) (by rw [hby]; omega))
      refine ⟨_, _, hr, .inr ⟨w.heap.size, grownCap w (n + 1) cap e, _, rfl, hBd, hlen, hgc, heap_alloc_new w.drew _, ?_, ?_⟩, ⟨rfl, rfl, rfl, by simp, fun k hk => Below.heap_alloc w.drew _ k (by show k < w.heap.size; omega)⟩⟩
      · simp only [Array.size_append, List.size_toArray, size_zeroCells, hzs, hlen]
        omega
      · simp only [Array.toList_append]
        rw [← hlen]
        exact List.take_left

theorem wpList_append_wide {w : World} {ops : Array Oper} {rest : List Oper} {o : Oper} {a : Act} {Q : Exit → Act → World → Prop} (hgd : o.guard = none) (s x : Operand) (t tx : TypeId)
    (ho : o.op = .call { callee := .builtin .append, args := #[s, x], argTypes := #[t, tx] })
    (e : TypeId) (i : TypeInfo) (z : Value) (ht : P.underlying t = some (.slice e)) (hi : P.info? e = some i) (hz : i.zero = some z) (hsize : i.size = 32) (hzs : z.cells.size = 32) (hby : i.bytes = 32)
    (Bd : Nat) (v : Value) (n : Nat) (xs : List Value) (hs : a.eval s = v) (hown : HasW w e Bd v n xs) (hBd : Bd ≤ w.heap.size)
    (y : Value) (news : List Value) (hx : a.eval x = y) (hsrc : Src P 32 tx y 1 news w) (hn : n ≤ 1000000)
    (h : ∀ v' w', HasW w' e Bd v' (n + 1) (xs ++ news) → Below Bd w w' → wpList P ops Q rest (a.put o.dst v') w') : wpList P ops Q (o :: rest) a w := by
  refine wpList_plain hgd fun K hK => ?_
  obtain ⟨v', w', hr, hH, hB⟩ := run_append_wide (P := P) w t tx o.type e i z ht hi hz hsize hzs hby Bd v n xs hown hBd y news hsrc hn
  unfold Oper.wp execOp
  simp only [ho, resolve, invoke, builtin, Sem.run_bind, Sem.run_pure, Result.andThen_ok, List.map_toArray, List.map_cons, List.map_nil, hs, hx, hr]
  exact hK _ _ (h v' w' hH hB)
end

theorem foldl_set : ∀ (bs : List Value) (k : Nat) (acc : Array Value), k + bs.length ≤ acc.size → ((bs.zipIdx k).foldl (fun cs x => cs.setIfInBounds x.snd x.fst) acc).toList = acc.toList.take k ++ bs ++ acc.toList.drop (k + bs.length)
  | [], k, acc, h => by simp
  | b :: bs, k, acc, h => by
    have hk : k < acc.toList.length := by simp only [List.length_cons] at h; rw [Array.length_toList]; omega
    rw [List.zipIdx_cons, List.foldl_cons, foldl_set bs (k + 1) _ (by simp only [List.length_cons] at h; simp only [Array.size_setIfInBounds]; omega)]
    simp only [Array.toList_setIfInBounds, List.length_cons]
    rw [List.take_add_one, List.take_set_of_le (Nat.le_refl k), List.getElem?_set_self hk, List.drop_set_of_lt (by omega), show k + 1 + bs.length = k + (bs.length + 1) by omega]
    simp
theorem foldl_set_all (bs : List Value) (acc : Array Value) (h : bs.length = acc.size) : bs.zipIdx.foldl (fun cs x => cs.setIfInBounds x.snd x.fst) acc = bs.toArray := by
  apply Array.ext'
  rw [foldl_set bs 0 acc (by omega)]
  rw [List.take_zero, List.nil_append, List.drop_of_length_le (by rw [Array.length_toList]; omega), List.append_nil]

theorem Tryd.infoHash : (Tryd.prog.info? 24).map (fun i => (i.size, i.bytes, i.zero.map fun z => z.cells.size)) = some (32, 32, some 32) := by kernel_rfl
end Go.Proofs.YtmfmbcghknknjaaDoor
