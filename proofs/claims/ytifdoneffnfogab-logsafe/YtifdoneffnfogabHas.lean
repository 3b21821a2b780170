/- A slice of bytes that a call builds by appends from nil on, of no program. -/
import Derived.Test.YtifdoneffnfogabBase
namespace Go.Proofs.Ytifdoneffnfogab
open Go.RowKit
set_option linter.unusedSimpArgs false
set_option linter.unusedVariables false

/-- The slice v is nil and xs is empty, or it is a row of n cells in a block from Bd on, which reads as xs. -/
def Has (w : World) (e : TypeId) (Bd : Nat) (v : Value) (n : Nat) (xs : List Value) : Prop :=
  (v = .slice none 0 0 ∧ n = 0 ∧ xs = []) ∨ ∃ g cap, v = .slice (some ⟨g, 0, none⟩) n cap ∧ Bd ≤ g ∧ Owns w e g cap n xs

section
variable {w w' : World} {e : TypeId} {Bd : Nat} {v : Value} {n : Nat} {xs : List Value}

theorem Has.nil (w : World) (e : TypeId) (Bd : Nat) : Has w e Bd (.slice none 0 0) 0 [] := .inl ⟨rfl, rfl, rfl⟩
theorem Has.later (h : Has w e Bd v n xs) (hb : Below w.heap.size w w') : Has w' e Bd v n xs := by
  rcases h with h | ⟨g, cap, rfl, h1, h2⟩
  · exact .inl h
  · exact .inr ⟨g, cap, rfl, h1, h2.later hb⟩
theorem Has.alloc (h : Has w e Bd v n xs) (o : Obj) : Has (w.alloc o) e Bd v n xs := by
  rcases h with h | ⟨g, cap, rfl, h1, h2⟩
  · exact .inl h
  · exact .inr ⟨g, cap, rfl, h1, h2.alloc o⟩
theorem Has.reads (h : Has w e Bd v n xs) : Reads w v xs := by
  rcases h with ⟨rfl, rfl, rfl⟩ | ⟨g, cap, rfl, _, h2⟩
  · exact ⟨none, 0, rfl, Nat.le_refl _, fun _ => rfl, fun _ h => by cases h⟩
  · exact h2.reads
theorem Has.len (h : Has w e Bd v n xs) : xs.length = n := by
  rcases h with ⟨rfl, rfl, rfl⟩ | ⟨g, cap, rfl, _, h2⟩
  · rfl
  · exact h2.1
/-- As a slice with letters in its place, so that the walk can run on. -/
theorem Has.form (h : Has w e Bd v n xs) : ∃ a cap, v = .slice a n cap := by
  rcases h with ⟨rfl, rfl, rfl⟩ | ⟨g, cap, rfl, _, h2⟩
  · exact ⟨_, _, rfl⟩
  · exact ⟨_, _, rfl⟩
end

section
variable {P : Program} (w : World)

theorem run_append_has (t tx ty e : TypeId) (i : TypeInfo) (z : Value) (ht : P.underlying t = some (.slice e)) (hi : P.info? e = some i) (hz : i.zero = some z)
    (hsize : i.size = 1) (hby : i.bytes = 1) (hzs : z.cells.size = 1)
    (Bd : Nat) (v : Value) (n : Nat) (xs : List Value) (hown : Has w e Bd v n xs) (hBd : Bd ≤ w.heap.size) (x : Value) (m : Nat) (news : List Value) (hs : Src P 1 tx x m news w)
    (hm : 0 < m) (hb : n + m ≤ 140737488355328) :
    ∃ v' w', (Builtin.append_ #[t, tx] ty #[v, x]).run P w = .ok v' w' ∧ Has w' e Bd v' (n + m) (xs ++ news) ∧ Below Bd w w' := by
  rcases hown with ⟨rfl, rfl, rfl⟩ | ⟨g, cap, rfl, h1, h2⟩
  · have hl : news.length = m := by simpa using hs.newsLen
    have hf : (Builtin.firstCells i.size 0 (.slice none 0 0)).run P w.drew = .ok ([] : List Value).toArray w.drew := by simp [Builtin.firstCells]
    have hgc := grownCap_ge w (0 + m) 0 e
    have hcm := grownCap_le_maxLen w (0 + m) 0 e (by unfold maxLen; omega)
    have hr := run_append_grow_src (P := P) w t tx ty e i z ht hi hz none 0 0 [] hf x m news (by rw [hsize]; exact hs) (by omega) (by omega) (growslice_fits (by omega) (by rw [hby]; omega))
    refine ⟨_, _, hr, .inr ⟨w.heap.size, grownCap w (0 + m) 0 e, rfl, hBd, ⟨by simp [hl], hgc, hcm, _, heap_alloc_new w.drew _, ?_, ?_⟩⟩, ?_⟩
    · simp only [Array.size_append, List.size_toArray, size_zeroCells, hzs, hl]
      simp only [List.nil_append, hl]
      omega
    · simp only [Array.toList_append, List.nil_append]
      rw [Nat.zero_add, ← hl]
      exact List.take_left
    · exact ⟨rfl, rfl, rfl, by simp, fun k hk => Below.heap_alloc w.drew _ k (by show k < w.heap.size; omega)⟩
  · obtain ⟨g', cap', w', hr, hG⟩ := run_append_src (P := P) w t tx ty e i z ht hi hz hsize hby hzs g cap n xs h2 x m news hs hb
    refine ⟨_, w', hr, .inr ⟨g', cap', rfl, ?_, hG.own⟩, hG.below (Below.refl _ _) h1⟩
    rcases hG.blk with ⟨rfl, _⟩ | hb'
    · exact h1
    · omega

theorem wpList_append_has {ops : Array Oper} {rest : List Oper} {o : Oper} {a : Act} {Q : Exit → Act → World → Prop} (hgd : o.guard = none) (s x : Operand) (t tx : TypeId)
    (ho : o.op = .call { callee := .builtin .append, args := #[s, x], argTypes := #[t, tx] })
    (e : TypeId) (i : TypeInfo) (z : Value) (ht : P.underlying t = some (.slice e)) (hi : P.info? e = some i) (hz : i.zero = some z) (hsize : i.size = 1) (hby : i.bytes = 1) (hzs : z.cells.size = 1)
    (Bd : Nat) (v : Value) (n : Nat) (xs : List Value) (hs : a.eval s = v) (hown : Has w e Bd v n xs) (hBd : Bd ≤ w.heap.size)
    (y : Value) (m : Nat) (news : List Value) (hx : a.eval x = y) (hsrc : Src P 1 tx y m news w) (hm : 0 < m) (hb : n + m ≤ 140737488355328)
    (h : ∀ v' w', Has w' e Bd v' (n + m) (xs ++ news) → Below Bd w w' → wpList P ops Q rest (a.put o.dst v') w') : wpList P ops Q (o :: rest) a w := by
  refine wpList_plain hgd fun K hK => ?_
  obtain ⟨v', w', hr, hH, hB⟩ := run_append_has (P := P) w t tx o.type e i z ht hi hz hsize hby hzs Bd v n xs hown hBd y m news hsrc hm hb
  unfold Oper.wp execOp
  simp only [ho, resolve, invoke, builtin, Sem.run_bind, Sem.run_pure, Result.andThen_ok, List.map_toArray, List.map_cons, List.map_nil, hs, hx, hr]
  exact hK _ _ (h v' w' hH hB)
end
end Go.Proofs.Ytifdoneffnfogab
