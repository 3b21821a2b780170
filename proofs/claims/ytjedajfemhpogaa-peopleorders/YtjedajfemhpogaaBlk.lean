/- A block that is known whole, of no program. -/
import Derived.Test.YtjedajfemhpogaaBase
import Derived.Deep.MidRow
import Derived.Deep.Draws
import Derived.Laws.IdiomCopy
import Derived.WalkSmall
namespace Go.Proofs.Ytjedajfemhpogaa
open Go.RowKit
set_option linter.unusedSimpArgs false
set_option linter.unusedVariables false

/-- Block g holds just these cells, of type t. -/
def Blk (w : World) (t : TypeId) (g : Nat) (cs : List Value) : Prop := w.heap[g]? = some (.cells cs.toArray t (0, 0))

section
variable {w w' : World} {t : TypeId} {g : Nat} {cs : List Value}

theorem Blk.lt (h : Blk w t g cs) : g < w.heap.size := (Array.getElem?_eq_some_iff.1 h).1
theorem Blk.kept (h : Blk w t g cs) (hb : w'.heap[g]? = w.heap[g]?) : Blk w' t g cs := by unfold Blk; rw [hb]; exact h
theorem Blk.alloc (h : Blk w t g cs) (o : Obj) : Blk (w.alloc o) t g cs := h.kept (Below.heap_alloc w o g h.lt)
theorem Blk.later (h : Blk w t g cs) (hb : Below w.heap.size w w') : Blk w' t g cs := h.kept (hb.block g h.lt)
theorem Blk.cell (h : Blk w t g cs) {j : Nat} {u : Value} (hj : cs[j]? = some u) : w.cell? ⟨g, j, none⟩ = some u := by
  rw [cell_of_row w g j _ t (0, 0) h]; simpa using hj
theorem Blk.frozen (h : Blk w t g cs) (j : Nat) : w.frozen? ⟨g, j, none⟩ = false := by
  unfold Blk at h
  simp [World.frozen?, h]
theorem Blk.new (w : World) (t : TypeId) (cs : List Value) : Blk (w.alloc (.cells cs.toArray t)) t w.heap.size cs := heap_alloc_new w _
theorem Blk.setCell (h : Blk w t g cs) (j : Nat) (v : Value) : Blk (w.setCell ⟨g, j, none⟩ v) t g (cs.set j v) := by
  rw [setCell_eq_setRow w g j _ t (0, 0) v h]
  have := setRow_heap w g cs.toArray (cs.toArray.setIfInBounds j v) t (0, 0) h
  unfold Blk
  rw [this]
  simp
theorem Blk.there (h : Blk w t g cs) {o n : Nat} (hl : o + n ≤ cs.length) : w.there g o n := fun j hj =>
  ⟨by rw [h.cell (List.getElem?_eq_getElem (show o + j < cs.length by omega))]; rfl, h.frozen _⟩
theorem Blk.range (h : Blk w t g cs) {o : Nat} {xs : List Value} (hx : ∀ j v, xs[j]? = some v → cs[o + j]? = some v) : w.rangeAt g o xs := fun j v hv => h.cell (hx j v hv)
theorem Blk.rangeMid {pre xs post : List Value} (h : Blk w t g (pre ++ xs ++ post)) {o : Nat} (ho : pre.length = o) : w.rangeAt g o xs := h.range fun j v hv => by
  have hj := (List.getElem?_eq_some_iff.1 hv).1
  rw [List.append_assoc, List.getElem?_append_right (by omega), List.getElem?_append_left (by omega)]
  rw [← hv]
  congr 1
  omega
end

theorem Blk.setCells {t : TypeId} {g : Nat} : ∀ (vs pre old post : List Value) {w : World} {o : Nat}, Blk w t g (pre ++ old ++ post) → old.length = vs.length → pre.length = o → Blk (w.setCells g o vs) t g (pre ++ vs ++ post)
  | [], pre, old, post, w, o, h, hl, ho => by
    have : old = [] := List.eq_nil_of_length_eq_zero hl
    subst this
    exact h
  | v :: vs, pre, old, post, w, o, h, hl, ho => by
    cases old with
    | nil => simp at hl
    | cons x old =>
      rw [World.setCells]
      have h1 := h.setCell o v
      have e : (pre ++ (x :: old) ++ post).set o v = (pre ++ [v]) ++ old ++ post := by
        rw [List.append_assoc, List.set_append_right _ _ (by omega), ho, Nat.sub_self]
        simp
      rw [e] at h1
      have := Blk.setCells vs (pre ++ [v]) old post (o := o + 1) h1 (by simpa using hl) (by simp [ho])
      simpa using this

theorem Blk.drewN {w : World} {t : TypeId} {g : Nat} {cs : List Value} (h : Blk w t g cs) (n : Nat) : Blk (w.drewN n) t g cs := h.kept (by simp)
theorem grown_drew {w w' : World} {row : Option Nat} (h : w.grownBy w' row) : w.grownBy w'.drew row := ⟨h.os, h.tape, h.output, h.size, h.block⟩
theorem grown_drewN {w w' : World} {row : Option Nat} (h : w.grownBy w' row) (n : Nat) : w.grownBy (w'.drewN n) row := ⟨h.os, h.tape, h.output, by simpa using h.size, fun k hk hne => by simpa using h.block k hk hne⟩

/-- What lies there, whatever it is: so that 'a cell is there' may be said by an equation. -/
def cellD (w : World) (a : Addr) : Value := (w.cell? a).getD undef
theorem cellD_of {w : World} {a : Addr} {u : Value} (h : w.cell? a = some u) : w.cell? a = some (cellD w a) := by rw [cellD, h]; rfl
theorem cellD_set {w : World} {a : Addr} {u v : Value} (h : w.cell? a = some u) : (w.setCell a v).cell? a = some (cellD (w.setCell a v) a) := by
  have := World.cell?_setCell_same w a v h
  exact cellD_of this
theorem cellD_drewN (w : World) (n : Nat) (a : Addr) : cellD (w.drewN n) a = cellD w a := rfl
theorem cellD_drew (w : World) (a : Addr) : cellD w.drew a = cellD w a := rfl

theorem below_setCells {B g : Nat} {w0 : World} (hg : B ≤ g) : ∀ (vs : List Value) (o : Nat) {w : World}, Below B w0 w → Below B w0 (w.setCells g o vs)
  | [], _, _, h => h
  | v :: vs, o, w, h => by
    rw [World.setCells]
    exact below_setCells hg vs (o + 1) (h.setCell hg v)
theorem setCells_heap {g k : Nat} (hk : k ≠ g) : ∀ (vs : List Value) (o : Nat) (w : World), (w.setCells g o vs).heap[k]? = w.heap[k]?
  | [], _, _ => rfl
  | v :: vs, o, w => by
    rw [World.setCells, setCells_heap hk vs (o + 1)]
    exact heap_setCell_other _ _ _ _ hk

theorem grown_alloc {w w' : World} {row : Option Nat} (h : w.grownBy w' row) (o : Obj) : w.grownBy (w'.alloc o) row :=
  ⟨h.os, h.tape, h.output, by have := h.size; simp; omega, fun k hk hne => by rw [Below.heap_alloc w' o k (by have := h.size; omega), h.block k hk hne]⟩
theorem grown_trans {w w1 w2 : World} {row : Option Nat} (a : w.grownBy w1 row) (b : w1.grownBy w2 row) : w.grownBy w2 row :=
  ⟨b.os.trans a.os, b.tape.trans a.tape, b.output.trans a.output, Nat.le_trans a.size b.size, fun k hk hne => by rw [b.block k (by have := a.size; omega) hne, a.block k hk hne]⟩
theorem grown_setCell {w w' : World} {row : Option Nat} (h : w.grownBy w' row) (g j : Nat) (v : Value) (hg : row = some g ∨ w.heap.size ≤ g) : w.grownBy (w'.setCell ⟨g, j, none⟩ v) row :=
  ⟨h.os, h.tape, h.output, by have := h.size; simpa using this, fun k hk hne => by
    have : k ≠ g := by
      rintro rfl
      rcases hg with hg | hg
      · exact hne hg.symm
      · omega
    rw [heap_setCell_other _ _ _ _ (by simpa using this), h.block k hk hne]⟩
theorem grown_of_below {w w' : World} {row : Option Nat} (h : Below w.heap.size w w') : w.grownBy w' row :=
  ⟨h.os, h.tape, h.output, h.size, fun k hk _ => h.block k hk⟩

section
variable {P : Program} {w : World}

/-- A new variable. -/
theorem wpList_alloc_blk {ops : Array Oper} {rest : List Oper} {o : Oper} {a : Act} {Q : Exit → Act → World → Prop} (hgd : o.guard = none) (t : TypeId) (ho : o.op = .alloc t)
    (cs : List Value) (hz : (P.info? t).bind (fun i => i.zero.map fun z => z.cells.toList) = some cs) (N : Nat) (hN : w.heap.size = N)
    (h : ∀ w', Blk w' t N cs → Below N w w' → w'.heap.size = N + 1 → wpList P ops Q rest (a.put o.dst (.pointer (some ⟨N, 0, none⟩))) w') : wpList P ops Q (o :: rest) a w := by
  subst hN
  cases hi : P.info? t with
  | none => simp [hi] at hz
  | some i =>
    cases hz0 : i.zero with
    | none => simp [hi, hz0] at hz
    | some z =>
      have hc : z.cells.toList = cs := by simpa [hi, hz0] using hz
      subst hc
      refine wpList_plain hgd fun K hK => ?_
      unfold Oper.wp
      simp [execOp, ho, Instr.alloc, zeroValue, typeInfo, hi, hz0, newVar, Result.andThen]
      exact hK _ _ (h _ (Blk.new w t _) ((Below.refl _ _).alloc (Nat.le_refl _) _) (by simp))

/-- A value of many cells into a variable of its own. -/
theorem wpList_box_blk {ops : Array Oper} {rest : List Oper} {o : Oper} {a : Act} {Q : Exit → Act → World → Prop} (hgd : o.guard = none) (t : TypeId) (x : Operand) (ho : o.op = .box t x)
    (cs : List Value) (hx : a.eval x = .agg cs.toArray) (N : Nat) (hN : w.heap.size = N)
    (h : ∀ w', Blk w' t N cs → Below N w w' → w'.heap.size = N + 1 → wpList P ops Q rest (a.put o.dst (.pointer (some ⟨N, 0, none⟩))) w') : wpList P ops Q (o :: rest) a w := by
  subst hN
  refine wpList_plain hgd fun K hK => ?_
  unfold Oper.wp
  simp [execOp, ho, hx, Instr.box, newVar, Value.cells, Result.andThen]
  exact hK _ _ (h _ (Blk.new w t _) ((Below.refl _ _).alloc (Nat.le_refl _) _) (by simp))

/-- A result that lies in memory: an array, read whole. -/
theorem ret_cell {fn : Func} {R : Ending → World → Prop} {a : Act} (k : Nat) (t : TypeId) (hf : fn.results = #[.cell k t]) (b : Nat) (hp : a.tmps.getD k undef = .pointer (some ⟨b, 0, none⟩))
    (cs : List Value) (d : TypeDesc) (hc : w.rangeAt b 0 cs) (hu : P.underlying t = some d) (hdr : d.isRow = true) (hi : (P.info? t).map (·.size) = some cs.length) (hd : a.defers = []) (hR : R (.returned (.agg cs.toArray)) w) : bodyPost P fn R .ret a w := by
  refine bodyPost_ret (v := .agg cs.toArray) ?_ hd hR
  have := run_loadVar_mid (P := P) w b 0 t cs d hc hu hdr hi
  have hp' : a.tmps[k]?.getD undef = .pointer (some ⟨b, 0, none⟩) := by simpa using hp
  unfold results
  rw [hf]
  simp [hp', asAddr, this]

/-- x[i], x an array of integers by value. -/
theorem run_index_agg (w : World) (t e : TypeId) (n : Nat) (ik : IntKind) (hu : P.underlying t = some (.array n e)) (he : P.underlying e = some (.int ik)) (hs : (P.info? e).map (·.size) = some 1)
    (cs : Array Value) (k : IntKind) (j : Nat) (hj : j < n) (v : Value) (hv : cs[j]? = some v) : (Instr.index t (.agg cs) (.int k (j : Int))).run P w = .ok v w := by
  cases hi : P.info? e with
  | none => simp [hi] at hs
  | some i =>
    have h1 : i.size = 1 := by simpa [hi] using hs
    have hj' : (j : Int) < (n : Int) := by omega
    simp [Instr.index, asIntOf, run_underlying hu, hj', sizeOf, typeInfo, hi, h1, part, isAgg, run_underlying he, hv]
    intro h
    omega

theorem wpList_index_agg {ops : Array Oper} {rest : List Oper} {o : Oper} {a : Act} {Q : Exit → Act → World → Prop} (hgd : o.guard = none) (t : TypeId) (x i : Operand) (ho : o.op = .index t x i)
    (e : TypeId) (n : Nat) (ik : IntKind) (hu : P.underlying t = some (.array n e)) (he : P.underlying e = some (.int ik)) (hs : (P.info? e).map (·.size) = some 1)
    (cs : Array Value) (k : IntKind) (j : Nat) (hx : a.eval x = .agg cs) (hi : a.eval i = .int k (j : Int)) (hj : j < n) (v : Value) (hv : cs[j]? = some v)
    (h : wpList P ops Q rest (a.put o.dst v) w) : wpList P ops Q (o :: rest) a w := by
  refine wpList_plain hgd fun K hK => ?_
  unfold Oper.wp execOp
  simp only [ho, hx, hi, Sem.run_bind, Sem.run_pure, Result.andThen_ok, run_index_agg w t e n ik hu he hs cs k j hj v hv]
  exact hK _ _ h

/-- An array into the midst of a block, the world behind it a letter. -/
theorem wpList_store_list {ops : Array Oper} {rest : List Oper} {o : Oper} {a : Act} {Q : Exit → Act → World → Prop} (hgd : o.guard = none) (ty : TypeId) (x y : Operand) (ho : o.op = .store ty x y)
    (b off : Nat) (cs : List Value) (hx : a.eval x = .pointer (some ⟨b, off, none⟩)) (hy : a.eval y = .agg cs.toArray)
    (ht : w.there b off cs.length) (hi : (P.info? ty).map (·.size) = some cs.length) (h1 : ∀ v ∈ cs, v.oneCell' = true)
    (h : ∀ w', w' = w.setCells b off cs → wpList P ops Q rest (a.put o.dst undef) w') : wpList P ops Q (o :: rest) a w :=
  wpList_store_mid hgd ty x y ho b off cs.toArray hx hy (by simpa using ht) (by simpa using hi) (all_oneCell_toArray h1) (h _ (by simp))

/-- copy(d, x), d in the midst of a block: as many as both have. -/
theorem run_copy_list (w : World) (dT sT ty e : TypeId) (ht : P.underlying dT = some (.slice e)) (hs1 : (P.info? e).map (·.size) = some 1) (b off dLen dCap : Nat)
    (v : Value) (xs : List Value) (hr : Reads w v xs) (n : Nat) (hn : n = Nat.min xs.length dLen) (hth : w.there b off n) (h1 : ∀ u ∈ xs, u.oneCell' = true) :
    (Builtin.copy_ #[dT, sT] ty #[.slice (some ⟨b, off, none⟩) dLen dCap, v]).run P w = .ok (goInt n) (w.setCells b off (xs.take n)) := by
  obtain ⟨ao, cap, rfl, hc, hnone, hcell⟩ := hr
  have hle : n ≤ xs.length := by rw [hn]; exact Nat.min_le_left _ _
  have hl : (xs.take n).length = n := by rw [List.length_take]; omega
  cases ao with
  | none =>
    have h0 := hnone rfl
    have hx : xs = [] := List.eq_nil_of_length_eq_zero (by omega)
    subst hx
    have hn0 : n = 0 := by simpa using hle
    subst hn0
    exact run_copy_none w dT sT ty e _ _ _ _ _ _ ht hs1 hn.symm
  | some ad =>
    have := run_copy_cells w dT sT ty e b off dLen dCap ad xs.length cap (xs.take n) ht hs1 (by rw [hl]; exact hn)
      (fun j u hj => hcell ad rfl j u (by rw [List.getElem?_take] at hj; split at hj; exact hj; cases hj))
      (fun j hj => (hth j (by omega)).1) (fun j hj => (hth j (by omega)).2) (fun u hu => h1 u (List.mem_of_mem_take hu))
    rw [hl] at this
    exact this

theorem wp_copy_list {o : Oper} {a : Act} {K : Act → World → Prop} {Q : Exit → Act → World → Prop} (s x : Operand) (t tx : TypeId)
    (ho : o.op = .call { callee := .builtin .copy, args := #[s, x], argTypes := #[t, tx] })
    (e : TypeId) (ht : P.underlying t = some (.slice e)) (hs1 : (P.info? e).map (·.size) = some 1) (b off dLen dCap : Nat) (hs : a.eval s = .slice (some ⟨b, off, none⟩) dLen dCap)
    (v : Value) (hx : a.eval x = v) (xs : List Value) (hr : Reads w v xs) (n : Nat) (hn : n = Nat.min xs.length dLen) (hth : w.there b off n) (h1 : ∀ u ∈ xs, u.oneCell' = true)
    (h : K (a.put o.dst (goInt n)) (w.setCells b off (xs.take n))) : o.wp P a w K Q := by
  have hrun := run_copy_list (P := P) w t tx o.type e ht hs1 b off dLen dCap v xs hr n hn hth h1
  unfold Oper.wp execOp
  simp only [ho, resolve, invoke, builtin, Sem.run_bind, Sem.run_pure, Result.andThen_ok, List.map_toArray, List.map_cons, List.map_nil, hs, hx, hrun]
  exact h

theorem wpList_copy_list {ops : Array Oper} {rest : List Oper} {o : Oper} {a : Act} {Q : Exit → Act → World → Prop} (hgd : o.guard = none) (s x : Operand) (t tx : TypeId)
    (ho : o.op = .call { callee := .builtin .copy, args := #[s, x], argTypes := #[t, tx] })
    (e : TypeId) (ht : P.underlying t = some (.slice e)) (hs1 : (P.info? e).map (·.size) = some 1) (b off dLen dCap : Nat) (hs : a.eval s = .slice (some ⟨b, off, none⟩) dLen dCap)
    (v : Value) (hx : a.eval x = v) (xs : List Value) (hr : Reads w v xs) (n : Nat) (hn : n = Nat.min xs.length dLen) (hth : w.there b off n) (h1 : ∀ u ∈ xs, u.oneCell' = true)
    (h : ∀ w', w' = w.setCells b off (xs.take n) → wpList P ops Q rest (a.put o.dst (goInt n)) w') : wpList P ops Q (o :: rest) a w :=
  wpList_plain hgd fun _ hK => wp_copy_list s x t tx ho e ht hs1 b off dLen dCap hs v hx xs hr n hn hth h1 (hK _ _ (h _ rfl))
end
end Go.Proofs.Ytjedajfemhpogaa
