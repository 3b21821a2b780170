/- Texts laid together: Blk, Cp, Dl, OpS. -/
import Derived.Test.YtinifnpajkldbaaDoorPk0
import Derived.Deep.MidRow
import Derived.Deep.Draws
import Derived.Laws.IdiomCopy
import Derived.WalkSmall
import Derived.Deep.DeepCutAuto
import Derived.Laws.ComplexArith

/- A block that is known whole, of no program. -/
namespace Go.Proofs.YtinifnpajkldbaaDoor
open Go.RowKit
set_option linter.unusedSimpArgs false
set_option linter.unusedVariables false

/-- Block g holds just these cells, of type t. -/
def Blk (w : World) (t : TypeId) (g : Nat) (cs : List Value) : Prop := w.heap[g]? = some (.cells cs.toArray t (0, 0))

section
variable {w w' : World} {t : TypeId} {g : Nat} {cs : List Value}

theorem Blk.lt (h : Blk w t g cs) : g < w.heap.size := (Array.getElem?_eq_some_iff.1 h).1
theorem Blk.kept (h : Blk w t g cs) (hb : w'.heap[g]? = w.heap[g]?) : Blk w' t g cs := by unfold Blk; rw [hb]; exact h
theorem Blk.alloc (h : Blk w t g cs) (o : Obj) : Blk (w.alloc o) t g cs := h.kept (Below.heap_alloc w o g h.lt)
theorem Blk.later (h : Blk w t g cs) (hb : Below w.heap.size w w') : Blk w' t g cs := h.kept (hb.block g h.lt)
theorem Blk.cell (h : Blk w t g cs) {j : Nat} {u : Value} (hj : cs[j]? = some u) : w.cell? ⟨g, j, none⟩ = some u := by
  rw [cell_of_row w g j _ t (0, 0) h]; simpa using hj
theorem Blk.frozen (h : Blk w t g cs) (j : Nat) : w.frozen? ⟨g, j, none⟩ = false := by
  unfold Blk at h
  simp [World.frozen?, h]
theorem Blk.new (w : World) (t : TypeId) (cs : List Value) : Blk (w.alloc (.cells cs.toArray t)) t w.heap.size cs := heap_alloc_new w _
theorem Blk.setCell (h : Blk w t g cs) (j : Nat) (v : Value) : Blk (w.setCell ⟨g, j, none⟩ v) t g (cs.set j v) := by
  rw [setCell_eq_setRow w g j _ t (0, 0) v h]
  have := setRow_heap w g cs.toArray (cs.toArray.setIfInBounds j v) t (0, 0) h
  unfold Blk
  rw [this]
  simp
theorem Blk.there (h : Blk w t g cs) {o n : Nat} (hl : o + n ≤ cs.length) : w.there g o n := fun j hj =>
  ⟨by rw [h.cell (List.getElem?_eq_getElem (show o + j < cs.length by omega))]; rfl, h.frozen _⟩
theorem Blk.range (h : Blk w t g cs) {o : Nat} {xs : List Value} (hx : ∀ j v, xs[j]? = some v → cs[o + j]? = some v) : w.rangeAt g o xs := fun j v hv => h.cell (hx j v hv)
theorem Blk.rangeMid {pre xs post : List Value} (h : Blk w t g (pre ++ xs ++ post)) {o : Nat} (ho : pre.length = o) : w.rangeAt g o xs := h.range fun j v hv => by
  have hj := (List.getElem?_eq_some_iff.1 hv).1
  rw [List.append_assoc, List.getElem?_append_right (by omega), List.getElem?_append_left (by omega)]
  rw [← hv]
  congr 1
  omega
end

theorem Blk.setCells {t : TypeId} {g : Nat} : ∀ (vs pre old post : List Value) {w : World} {o : Nat}, Blk w t g (pre ++ old ++ post) → old.length = vs.length → pre.length = o → Blk (w.setCells g o vs) t g (pre ++ vs ++ post)
  | [], pre, old, post, w, o, h, hl, ho => by
    have : old = [] := List.eq_nil_of_length_eq_zero hl
    subst this
    exact h
  | v :: vs, pre, old, post, w, o, h, hl, ho => by
    cases old with
    | nil => simp at hl
    | cons x old =>
      rw [World.setCells]
      have h1 := h.setCell o v
      have e : (pre ++ (x :: old) ++ post).set o v = (pre ++ [v]) ++ old ++ post := by
        rw [List.append_assoc, List.set_append_right _ _ (by omega), ho, Nat.sub_self]
        simp
      rw [e] at h1
      have := Blk.setCells vs (pre ++ [v]) old post (o := o + 1) h1 (by simpa using hl) (by simp [ho])
      simpa using this

theorem Blk.drewN {w : World} {t : TypeId} {g : Nat} {cs : List Value} (h : Blk w t g cs) (n : Nat) : Blk (w.drewN n) t g cs := h.kept (by simp)
theorem grown_drew {w w' : World} {row : Option Nat} (h : w.grownBy w' row) : w.grownBy w'.drew row := ⟨h.os, h.tape, h.output, h.size, h.block⟩
theorem grown_drewN {w w' : World} {row : Option Nat} (h : w.grownBy w' row) (n : Nat) : w.grownBy (w'.drewN n) row := ⟨h.os, h.tape, h.output, by simpa using h.size, fun k hk hne => by simpa using h.block k hk hne⟩

/-- What lies there, whatever it is: so that 'a cell is there' may be said by an equation. -/
def cellD (w : World) (a : Addr) : Value := (w.cell? a).getD undef
theorem cellD_of {w : World} {a : Addr} {u : Value} (h : w.cell? a = some u) : w.cell? a = some (cellD w a) := by rw [cellD, h]; rfl
theorem cellD_set {w : World} {a : Addr} {u v : Value} (h : w.cell? a = some u) : (w.setCell a v).cell? a = some (cellD (w.setCell a v) a) := by
  have := World.cell?_setCell_same w a v h
  exact cellD_of this
theorem cellD_drewN (w : World) (n : Nat) (a : Addr) : cellD (w.drewN n) a = cellD w a := rfl
theorem cellD_drew (w : World) (a : Addr) : cellD w.drew a = cellD w a := rfl

theorem below_setCells {B g : Nat} {w0 : World} (hg : B ≤ g) : ∀ (vs : List Value) (o : Nat) {w : World}, Below B w0 w → Below B w0 (w.setCells g o vs)
  | [], _, _, h => h
  | v :: vs, o, w, h => by
    rw [World.setCells]
    exact below_setCells hg vs (o + 1) (h.setCell hg v)
theorem setCells_heap {g k : Nat} (hk : k ≠ g) : ∀ (vs : List Value) (o : Nat) (w : World), (w.setCells g o vs).heap[k]? = w.heap[k]?
  | [], _, _ => rfl
  | v :: vs, o, w => by
    rw [World.setCells, setCells_heap hk vs (o + 1)]
    exact heap_setCell_other _ _ _ _ hk

theorem grown_alloc {w w' : World} {row : Option Nat} (h : w.grownBy w' row) (o : Obj) : w.grownBy (w'.alloc o) row :=
  ⟨h.os, h.tape, h.output, by have := h.size; simp; omega, fun k hk hne => by rw [Below.heap_alloc w' o k (by have := h.size; omega), h.block k hk hne]⟩
theorem grown_trans {w w1 w2 : World} {row : Option Nat} (a : w.grownBy w1 row) (b : w1.grownBy w2 row) : w.grownBy w2 row :=
  ⟨b.os.trans a.os, b.tape.trans a.tape, b.output.trans a.output, Nat.le_trans a.size b.size, fun k hk hne => by rw [b.block k (by have := a.size; omega) hne, a.block k hk hne]⟩
theorem grown_setCell {w w' : World} {row : Option Nat} (h : w.grownBy w' row) (g j : Nat) (v : Value) (hg : row = some g ∨ w.heap.size ≤ g) : w.grownBy (w'.setCell ⟨g, j, none⟩ v) row :=
  ⟨h.os, h.tape, h.output, by have := h.size; simpa using this, fun k hk hne => by
    have : k ≠ g := by
      rintro rfl
      rcases hg with hg | hg
      · exact hne hg.symm
      · omega
    rw [heap_setCell_other _ _ _ _ (by simpa using this), h.block k hk hne]⟩
theorem grown_of_below {w w' : World} {row : Option Nat} (h : Below w.heap.size w w') : w.grownBy w' row :=
  ⟨h.os, h.tape, h.output, h.size, fun k hk _ => h.block k hk⟩

section
variable {P : Program} {w : World}

/-- A new variable. -/
theorem wpList_alloc_blk {ops : Array Oper} {rest : List Oper} {o : Oper} {a : Act} {Q : Exit → Act → World → Prop} (hgd : o.guard = none) (t : TypeId) (ho : o.op = .alloc t)
    (cs : List Value) (hz : (P.info? t).bind (fun i => i.zero.map fun z => z.cells.toList) = some cs) (N : Nat) (hN : w.heap.size = N)
    (h : ∀ w', Blk w' t N cs → Below N w w' → w'.heap.size = N + 1 → wpList P ops Q rest (a.put o.dst (.pointer (some ⟨N, 0, none⟩))) w') : wpList P ops Q (o :: rest) a w := by
  subst hN
  cases hi : P.info? t with
  | none => simp [hi] at hz
  | some i =>
    cases hz0 : i.zero with
    | none => simp [hi, hz0] at hz
    | some z =>
      have hc : z.cells.toList = cs := by simpa [hi, hz0] using hz
      subst hc
      refine wpList_plain hgd fun K hK => ?_
      unfold Oper.wp
      simp [execOp, ho, Instr.alloc, zeroValue, typeInfo, hi, hz0, newVar, Result.andThen]
      exact hK _ _ (h _ (Blk.new w t _) ((Below.refl _ _).alloc (Nat.le_refl _) _) (by simp))

/-- A value of many cells into a variable of its own. -/
theorem wpList_box_blk {ops : Array Oper} {rest : List Oper} {o : Oper} {a : Act} {Q : Exit → Act → World → Prop} (hgd : o.guard = none) (t : TypeId) (x : Operand) (ho : o.op = .box t x)
    (cs : List Value) (hx : a.eval x = .agg cs.toArray) (N : Nat) (hN : w.heap.size = N)
    (h : ∀ w', Blk w' t N cs → Below N w w' → w'.heap.size = N + 1 → wpList P ops Q rest (a.put o.dst (.pointer (some ⟨N, 0, none⟩))) w') : wpList P ops Q (o :: rest) a w := by
  subst hN
  refine wpList_plain hgd fun K hK => ?_
  unfold Oper.wp
  simp [execOp, ho, hx, Instr.box, newVar, Value.cells, Result.andThen]
  exact hK _ _ (h _ (Blk.new w t _) ((Below.refl _ _).alloc (Nat.le_refl _) _) (by simp))

/-- A result that lies in memory: an array, read whole. -/
theorem ret_cell {fn : Func} {R : Ending → World → Prop} {a : Act} (k : Nat) (t : TypeId) (hf : fn.results = #[.cell k t]) (b : Nat) (hp : a.tmps.getD k undef = .pointer (some ⟨b, 0, none⟩))
    (cs : List Value) (d : TypeDesc) (hc : w.rangeAt b 0 cs) (hu : P.underlying t = some d) (hdr : d.isRow = true) (hi : (P.info? t).map (·.size) = some cs.length) (hd : a.defers = []) (hR : R (.returned (.agg cs.toArray)) w) : bodyPost P fn R .ret a w := by
  refine bodyPost_ret (v := .agg cs.toArray) ?_ hd hR
  have := run_loadVar_mid (P := P) w b 0 t cs d hc hu hdr hi
  have hp' : a.tmps[k]?.getD undef = .pointer (some ⟨b, 0, none⟩) := by simpa using hp
  unfold results
  rw [hf]
  simp [hp', asAddr, this]

/-- x[i], x an array of integers by value. -/
theorem run_index_agg (w : World) (t e : TypeId) (n : Nat) (ik : IntKind) (hu : P.underlying t = some (.array n e)) (he : P.underlying e = some (.int ik)) (hs : (P.info? e).map (·.size) = some 1)
    (cs : Array Value) (k : IntKind) (j : Nat) (hj : j < n) (v : Value) (hv : cs[j]? = some v) : (Instr.index t (.agg cs) (.int k (j : Int))).run P w = .ok v w := by
  cases hi : P.info? e with
  | none => simp [hi] at hs
  | some i =>
    have h1 : i.size = 1 := by simpa [hi] using hs
    have hj' : (j : Int) < (n : Int) := by omega
    simp [Instr.index, asIntOf, run_underlying hu, hj', sizeOf, typeInfo, hi, h1, part, isAgg, run_underlying he, hv]
    intro h
    omega

theorem wpList_index_agg {ops : Array Oper} {rest : List Oper} {o : Oper} {a : Act} {Q : Exit → Act → World → Prop} (hgd : o.guard = none) (t : TypeId) (x i : Operand) (ho : o.op = .index t x i)
    (e : TypeId) (n : Nat) (ik : IntKind) (hu : P.underlying t = some (.array n e)) (he : P.underlying e = some (.int ik)) (hs : (P.info? e).map (·.size) = some 1)
    (cs : Array Value) (k : IntKind) (j : Nat) (hx : a.eval x = .agg cs) (hi : a.eval i = .int k (j : Int)) (hj : j < n) (v : Value) (hv : cs[j]? = some v)
    (h : wpList P ops Q rest (a.put o.dst v) w) : wpList P ops Q (o :: rest) a w := by
  refine wpList_plain hgd fun K hK => ?_
  unfold Oper.wp execOp
  simp only [ho, hx, hi, Sem.run_bind, Sem.run_pure, Result.andThen_ok, run_index_agg w t e n ik hu he hs cs k j hj v hv]
  exact hK _ _ h

/-- An array into the midst of a block, the world behind it a letter. -/
theorem wpList_store_list {ops : Array Oper} {rest : List Oper} {o : Oper} {a : Act} {Q : Exit → Act → World → Prop} (hgd : o.guard = none) (ty : TypeId) (x y : Operand) (ho : o.op = .store ty x y)
    (b off : Nat) (cs : List Value) (hx : a.eval x = .pointer (some ⟨b, off, none⟩)) (hy : a.eval y = .agg cs.toArray)
    (ht : w.there b off cs.length) (hi : (P.info? ty).map (·.size) = some cs.length) (h1 : ∀ v ∈ cs, v.oneCell' = true)
    (h : ∀ w', w' = w.setCells b off cs → wpList P ops Q rest (a.put o.dst undef) w') : wpList P ops Q (o :: rest) a w :=
  wpList_store_mid hgd ty x y ho b off cs.toArray hx hy (by simpa using ht) (by simpa using hi) (all_oneCell_toArray h1) (h _ (by simp))

/-- copy(d, x), d in the midst of a block: as many as both have. -/
theorem run_copy_list (w : World) (dT sT ty e : TypeId) (ht : P.underlying dT = some (.slice e)) (hs1 : (P.info? e).map (·.size) = some 1) (b off dLen dCap : Nat)
    (v : Value) (xs : List Value) (hr : Reads w v xs) (n : Nat) (hn : n = Nat.min xs.length dLen) (hth : w.there b off n) (h1 : ∀ u ∈ xs, u.oneCell' = true) :
    (Builtin.copy_ #[dT, sT] ty #[.slice (some ⟨b, off, none⟩) dLen dCap, v]).run P w = .ok (goInt n) (w.setCells b off (xs.take n)) := by
  obtain ⟨ao, cap, rfl, hc, hnone, hcell⟩ := hr
  have hle : n ≤ xs.length := by rw [hn]; exact Nat.min_le_left _ _
  have hl : (xs.take n).length = n := by rw [List.length_take]; omega
  cases ao with
  | none =>
    have h0 := hnone rfl
    have hx : xs = [] := List.eq_nil_of_length_eq_zero (by omega)
    subst hx
    have hn0 : n = 0 := by simpa using hle
    subst hn0
    exact run_copy_none w dT sT ty e _ _ _ _ _ _ ht hs1 hn.symm
  | some ad =>
    have := run_copy_cells w dT sT ty e b off dLen dCap ad xs.length cap (xs.take n) ht hs1 (by rw [hl]; exact hn)
      (fun j u hj => hcell ad rfl j u (by rw [List.getElem?_take] at hj; split at hj; exact hj; cases hj))
      (fun j hj => (hth j (by omega)).1) (fun j hj => (hth j (by omega)).2) (fun u hu => h1 u (List.mem_of_mem_take hu))
    rw [hl] at this
    exact this

theorem wp_copy_list {o : Oper} {a : Act} {K : Act → World → Prop} {Q : Exit → Act → World → Prop} (s x : Operand) (t tx : TypeId)
    (ho : o.op = .call { callee := .builtin .copy, args := #[s, x], argTypes := #[t, tx] })
    (e : TypeId) (ht : P.underlying t = some (.slice e)) (hs1 : (P.info? e).map (·.size) = some 1) (b off dLen dCap : Nat) (hs : a.eval s = .slice (some ⟨b, off, none⟩) dLen dCap)
    (v : Value) (hx : a.eval x = v) (xs : List Value) (hr : Reads w v xs) (n : Nat) (hn : n = Nat.min xs.length dLen) (hth : w.there b off n) (h1 : ∀ u ∈ xs, u.oneCell' = true)
    (h : K (a.put o.dst (goInt n)) (w.setCells b off (xs.take n))) : o.wp P a w K Q := by
  have hrun := run_copy_list (P := P) w t tx o.type e ht hs1 b off dLen dCap v xs hr n hn hth h1
  unfold Oper.wp execOp
  simp only [ho, resolve, invoke, builtin, Sem.run_bind, Sem.run_pure, Result.andThen_ok, List.map_toArray, List.map_cons, List.map_nil, hs, hx, hrun]
  exact h

theorem wpList_copy_list {ops : Array Oper} {rest : List Oper} {o : Oper} {a : Act} {Q : Exit → Act → World → Prop} (hgd : o.guard = none) (s x : Operand) (t tx : TypeId)
    (ho : o.op = .call { callee := .builtin .copy, args := #[s, x], argTypes := #[t, tx] })
    (e : TypeId) (ht : P.underlying t = some (.slice e)) (hs1 : (P.info? e).map (·.size) = some 1) (b off dLen dCap : Nat) (hs : a.eval s = .slice (some ⟨b, off, none⟩) dLen dCap)
    (v : Value) (hx : a.eval x = v) (xs : List Value) (hr : Reads w v xs) (n : Nat) (hn : n = Nat.min xs.length dLen) (hth : w.there b off n) (h1 : ∀ u ∈ xs, u.oneCell' = true)
    (h : ∀ w', w' = w.setCells b off (xs.take n) → wpList P ops Q rest (a.put o.dst (goInt n)) w') : wpList P ops Q (o :: rest) a w :=
  wpList_plain hgd fun _ hK => wp_copy_list s x t tx ho e ht hs1 b off dLen dCap hs v hx xs hr n hn hth h1 (hK _ _ (h _ rfl))
end
end Go.Proofs.YtinifnpajkldbaaDoor

/- The parts of an operation as cells, and slices of them. -/
namespace Go.Proofs.YtinifnpajkldbaaDoor
open Go.RowKit
set_option linter.unusedSimpArgs false
set_option linter.unusedVariables false

/-- A part of an operation. -/
structure Cp where
  k : Int
  n : Int
  s : ByteArray

def Cp.vals (c : Cp) : List Value := [.int .i64 c.k, .int .i64 c.n, .string c.s]
/-- The cells of parts. -/
def C (o : List Cp) : List Value := o.flatMap Cp.vals

theorem C_nil : C [] = [] := rfl
theorem C_cons (c : Cp) (o : List Cp) : C (c :: o) = c.vals ++ C o := rfl
theorem C_append (o p : List Cp) : C (o ++ p) = C o ++ C p := by simp [C]
theorem C_length (o : List Cp) : (C o).length = o.length * 3 := by
  induction o with
  | nil => rfl
  | cons c o ih => rw [C_cons, List.length_append, ih]; simp [Cp.vals]; omega
theorem C_one (o : List Cp) : ∀ u ∈ C o, u.oneCell' = true := by
  intro u hu
  simp only [C, List.mem_flatMap, Cp.vals, List.mem_cons, List.not_mem_nil, or_false] at hu
  obtain ⟨c, _, rfl | rfl | rfl⟩ := hu <;> rfl
theorem C_get : ∀ (o : List Cp) (j : Nat) (c : Cp), o[j]? = some c → ∀ i u, c.vals[i]? = some u → (C o)[j * 3 + i]? = some u
  | [], j, c, h, i, u, hu => by simp at h
  | d :: o, 0, c, h, i, u, hu => by
    cases h
    have hi : i < d.vals.length := (List.getElem?_eq_some_iff.1 hu).1
    rw [C_cons, Nat.zero_mul, Nat.zero_add, List.getElem?_append_left hi]
    exact hu
  | d :: o, j + 1, c, h, i, u, hu => by
    rw [C_cons, List.getElem?_append_right (by simp [Cp.vals]; omega)]
    have := C_get o j c (by simpa using h) i u hu
    rw [← this]
    congr 1
    simp [Cp.vals]; omega

/-- The slice v reads as the parts o. -/
def RC (w : World) (v : Value) (o : List Cp) : Prop :=
  (∃ ao cap, v = .slice ao 0 cap ∧ o = [] ∧ (ao = none → cap = 0)) ∨ ∃ g off cap, v = .slice (some ⟨g, off, none⟩) o.length cap ∧ o.length ≤ cap ∧ w.rangeAt g off (C o) ∧ g < w.heap.size

theorem RC.nil (w : World) : RC w (.slice none 0 0) [] := .inl ⟨none, 0, rfl, rfl, fun _ => rfl⟩
theorem RC.later {w w' : World} {v : Value} {o : List Cp} (h : RC w v o) (hb : Below w.heap.size w w') : RC w' v o := by
  rcases h with h | ⟨g, off, cap, rfl, h1, h2, h3⟩
  · exact .inl h
  · exact .inr ⟨g, off, cap, rfl, h1, fun j u hj => cell_later hb (h2 j u hj), Nat.lt_of_lt_of_le h3 hb.size⟩
theorem RC.form {w : World} {v : Value} {o : List Cp} (h : RC w v o) : ∃ ao cap, v = .slice ao o.length cap := by
  rcases h with ⟨ao, cap, rfl, rfl, _⟩ | ⟨g, off, cap, rfl, _⟩
  · exact ⟨_, _, rfl⟩
  · exact ⟨_, _, rfl⟩
/-- Where there is a part the slice has a place. -/
theorem RC.place {w : World} {v : Value} {o : List Cp} (h : RC w v o) (h0 : 0 < o.length) : ∃ g off cap, v = .slice (some ⟨g, off, none⟩) o.length cap ∧ o.length ≤ cap ∧ w.rangeAt g off (C o) ∧ g < w.heap.size := by
  rcases h with ⟨ao, cap, rfl, rfl, _⟩ | h
  · simp at h0
  · exact h
end Go.Proofs.YtinifnpajkldbaaDoor

/- A delta as cells; of no program. -/
namespace Go.Proofs.YtinifnpajkldbaaDoor
open Go.RowKit
set_option linter.unusedSimpArgs false
set_option linter.unusedVariables false

/-- A delta but for its operation. -/
structure Dl where
  aD : Int
  aU : Int
  id : Int
  ver : Int
  h : List UInt8
  k : Int
  wD : Int
  wU : Int

def Dl.cells (d : Dl) (o : Value) : List Value := [.int .i64 d.aD, .int .i64 d.aU, .int .i64 d.id, .int .i64 d.ver] ++ B d.h ++ [.int .i64 d.k, o, .int .i64 d.wD, .int .i64 d.wU]
/-- Noughts. -/
def Dl.zero : Dl := ⟨0, 0, 0, 0, List.replicate 32 0, 0, 0, 0⟩
theorem Dl.zero_len : Dl.zero.h.length = 32 := by simp [Dl.zero]

section
variable {d : Dl} {o : Value}
theorem Dl.len (h : d.h.length = 32) : (d.cells o).length = 40 := by simp [Dl.cells, B_length, h]
theorem Dl.tail (h : d.h.length = 32) (j : Nat) : (d.cells o)[36 + j]? = ([.int .i64 d.k, o, .int .i64 d.wD, .int .i64 d.wU] : List Value)[j]? := by
  rw [Dl.cells, List.getElem?_append_right (by simp [B_length, h]), show 36 + j - (_ : List Value).length = j by simp [B_length, h]]
theorem Dl.hash {j : Nat} {v : Value} (hj : (B d.h)[j]? = some v) : (d.cells o)[4 + j]? = some v := by
  have hl := (List.getElem?_eq_some_iff.1 hj).1
  rw [Dl.cells, List.append_assoc, List.getElem?_append_right (by simp), List.getElem?_append_left (by simpa using hl)]
  rw [← hj]
  congr 1
  simp
theorem Dl.one (ho : o.oneCell' = true) : ∀ v ∈ d.cells o, v.oneCell' = true := by
  intro v hv
  simp only [Dl.cells, List.mem_append, List.mem_cons, List.not_mem_nil, or_false] at hv
  rcases hv with ((rfl | rfl | rfl | rfl) | hv) | (rfl | rfl | rfl | rfl)
  all_goals first | rfl | exact ho | exact B_one _ _ hv
end

/-- Block L holds the delta d with the operation o. -/
structure DW (w : World) (t : TypeId) (L : Nat) (d : Dl) (o : Value) : Prop where
  len : d.h.length = 32
  blk : Blk w t L (d.cells o)

section
variable {w w' : World} {t : TypeId} {L : Nat} {d : Dl} {o : Value}
theorem DW.later (h : DW w t L d o) (hb : Below w.heap.size w w') : DW w' t L d o := ⟨h.len, h.blk.later hb⟩
theorem DW.kept (h : DW w t L d o) (hb : w'.heap[L]? = w.heap[L]?) : DW w' t L d o := ⟨h.len, h.blk.kept hb⟩
theorem DW.grown {r : Option Nat} (h : DW w t L d o) (hb : w.grownBy w' r) (hr : r ≠ some L) : DW w' t L d o := h.kept (hb.block L h.blk.lt (fun e => hr e.symm))
theorem DW.tl (h : DW w t L d o) {j : Nat} {u : Value} (hj : ([.int .i64 d.k, o, .int .i64 d.wD, .int .i64 d.wU] : List Value)[j]? = some u) : w.cell? ⟨L, 36 + j, none⟩ = some u :=
  h.blk.cell (by rw [Dl.tail h.len]; exact hj)
theorem DW.cells (h : DW w t L d o) : w.cell? ⟨L, 0, none⟩ = some (.int .i64 d.aD) ∧ w.cell? ⟨L, 1, none⟩ = some (.int .i64 d.aU) ∧ w.cell? ⟨L, 2, none⟩ = some (.int .i64 d.id) ∧ w.cell? ⟨L, 3, none⟩ = some (.int .i64 d.ver) ∧
    w.cell? ⟨L, 36, none⟩ = some (.int .i64 d.k) ∧ w.cell? ⟨L, 37, none⟩ = some o ∧ w.cell? ⟨L, 38, none⟩ = some (.int .i64 d.wD) ∧ w.cell? ⟨L, 39, none⟩ = some (.int .i64 d.wU) :=
  ⟨h.blk.cell (j := 0) rfl, h.blk.cell (j := 1) rfl, h.blk.cell (j := 2) rfl, h.blk.cell (j := 3) rfl, h.tl (j := 0) rfl, h.tl (j := 1) rfl, h.tl (j := 2) rfl, h.tl (j := 3) rfl⟩
theorem DW.frozen (h : DW w t L d o) (j : Nat) : w.frozen? ⟨L, j, none⟩ = false := h.blk.frozen j
theorem DW.whole (h : DW w t L d o) : w.rangeAt L 0 (d.cells o) := h.blk.range fun j v hv => by rw [Nat.zero_add]; exact hv
theorem DW.hash (h : DW w t L d o) : w.rangeAt L 4 (B d.h) := h.blk.range fun j v hv => Dl.hash hv
theorem DW.there (h : DW w t L d o) {j n : Nat} (hl : j + n ≤ 40) : w.there L j n := h.blk.there (by rw [Dl.len h.len]; exact hl)

theorem Dl.set_id (x : Int) : (d.cells o).set 2 (.int .i64 x) = ({ d with id := x } : Dl).cells o := rfl
theorem Dl.set_ver (x : Int) : (d.cells o).set 3 (.int .i64 x) = ({ d with ver := x } : Dl).cells o := rfl
theorem Dl.set_aD (x : Int) : (d.cells o).set 0 (.int .i64 x) = ({ d with aD := x } : Dl).cells o := rfl
theorem Dl.set_aU (x : Int) : (d.cells o).set 1 (.int .i64 x) = ({ d with aU := x } : Dl).cells o := rfl
theorem Dl.set_tl (h : d.h.length = 32) (j : Nat) (u : Value) : (d.cells o).set (36 + j) u = [.int .i64 d.aD, .int .i64 d.aU, .int .i64 d.id, .int .i64 d.ver] ++ B d.h ++ ([.int .i64 d.k, o, .int .i64 d.wD, .int .i64 d.wU] : List Value).set j u := by
  rw [Dl.cells, List.set_append_right _ _ (by simp [B_length, h]), show 36 + j - (_ : List Value).length = j by simp [B_length, h]]
theorem DW.set_aD (h : DW w t L d o) (x : Int) : DW (w.setCell ⟨L, 0, none⟩ (.int .i64 x)) t L { d with aD := x } o := ⟨h.len, by rw [← Dl.set_aD]; exact h.blk.setCell 0 _⟩
theorem DW.set_aU (h : DW w t L d o) (x : Int) : DW (w.setCell ⟨L, 1, none⟩ (.int .i64 x)) t L { d with aU := x } o := ⟨h.len, by rw [← Dl.set_aU]; exact h.blk.setCell 1 _⟩
theorem DW.set_id (h : DW w t L d o) (x : Int) : DW (w.setCell ⟨L, 2, none⟩ (.int .i64 x)) t L { d with id := x } o := ⟨h.len, by rw [← Dl.set_id]; exact h.blk.setCell 2 _⟩
theorem DW.set_ver (h : DW w t L d o) (x : Int) : DW (w.setCell ⟨L, 3, none⟩ (.int .i64 x)) t L { d with ver := x } o := ⟨h.len, by rw [← Dl.set_ver]; exact h.blk.setCell 3 _⟩
theorem DW.set_k (h : DW w t L d o) (x : Int) : DW (w.setCell ⟨L, 36, none⟩ (.int .i64 x)) t L { d with k := x } o := ⟨h.len, by
  have := h.blk.setCell (36 + 0) (.int .i64 x); rw [Dl.set_tl h.len] at this; exact this⟩
theorem DW.set_op (h : DW w t L d o) (x : Value) : DW (w.setCell ⟨L, 37, none⟩ x) t L d x := ⟨h.len, by
  have := h.blk.setCell (36 + 1) x; rw [Dl.set_tl h.len] at this; exact this⟩
theorem DW.set_wD (h : DW w t L d o) (x : Int) : DW (w.setCell ⟨L, 38, none⟩ (.int .i64 x)) t L { d with wD := x } o := ⟨h.len, by
  have := h.blk.setCell (36 + 2) (.int .i64 x); rw [Dl.set_tl h.len] at this; exact this⟩
theorem DW.set_wU (h : DW w t L d o) (x : Int) : DW (w.setCell ⟨L, 39, none⟩ (.int .i64 x)) t L { d with wU := x } o := ⟨h.len, by
  have := h.blk.setCell (36 + 3) (.int .i64 x); rw [Dl.set_tl h.len] at this; exact this⟩
theorem DW.set_a (h : DW w t L d o) (x y : Int) : DW (w.setCells L 0 [.int .i64 x, .int .i64 y]) t L { d with aD := x, aU := y } o := (h.set_aD x).set_aU y
theorem DW.set_w (h : DW w t L d o) (x y : Int) : DW (w.setCells L 38 [.int .i64 x, .int .i64 y]) t L { d with wD := x, wU := y } o := (h.set_wD x).set_wU y
theorem DW.set_h (h : DW w t L d o) (x : List UInt8) (hx : x.length = 32) : DW (w.setCells L 4 (B x)) t L { d with h := x } o := ⟨hx, by
  have h1 := Blk.setCells (B x) [.int .i64 d.aD, .int .i64 d.aU, .int .i64 d.id, .int .i64 d.ver] (B d.h) [.int .i64 d.k, o, .int .i64 d.wD, .int .i64 d.wU] (o := 4) h.blk (by rw [B_length, B_length, h.len, hx]) rfl
  exact h1⟩
theorem DW.set_all (h : DW w t L d o) (e : Dl) (he : e.h.length = 32) (v : Value) : DW (w.setCells L 0 (e.cells v)) t L e v := ⟨he, by
  have h1 := Blk.setCells (e.cells v) [] (d.cells o) [] (o := 0) (by simpa using h.blk) (by rw [Dl.len he, Dl.len h.len]) rfl
  simpa using h1⟩
end
end Go.Proofs.YtinifnpajkldbaaDoor

/- Operations as lists: how long, what they make, written in the one way; of no program. -/
namespace Go.Proofs.YtinifnpajkldbaaDoor
set_option linter.unusedSimpArgs false
set_option linter.unusedVariables false

theorem size_list (s : ByteArray) : s.size = s.data.toList.length := by simp
theorem em0 {s : ByteArray} (h : s.size = 0) : s = ⟨#[]⟩ := by
  apply ByteArray.ext
  have : s.data.size = 0 := h
  exact Array.eq_empty_of_size_eq_zero this
def Cp.over (c : Cp) : Int := if c.k = 1 ∨ c.k = 3 then c.n else 0
def Cp.outl (c : Cp) : Int := (c.s.size : Int) + (if c.k = 1 then c.n else 0)
def inS : List Cp → Int
  | [] => 0
  | c :: o => c.over + inS o
def outS : List Cp → Int
  | [] => 0
  | c :: o => c.outl + outS o

theorem inS_append (o p : List Cp) : inS (o ++ p) = inS o + inS p := by
  induction o with
  | nil => simp [inS]
  | cons c o ih => simp only [List.cons_append, inS, ih]; omega
theorem outS_append (o p : List Cp) : outS (o ++ p) = outS o + outS p := by
  induction o with
  | nil => simp [outS]
  | cons c o ih => simp only [List.cons_append, outS, ih]; omega
theorem take_succ' {α : Type} (o : List α) (j : Nat) (c : α) (h : o[j]? = some c) : o.take (j + 1) = o.take j ++ [c] := by
  rw [List.take_add_one, h]; rfl
theorem inS_take_succ (o : List Cp) (j : Nat) (c : Cp) (h : o[j]? = some c) : inS (o.take (j + 1)) = inS (o.take j) + c.over := by
  rw [take_succ' o j c h, inS_append]; simp [inS]
theorem outS_take_succ (o : List Cp) (j : Nat) (c : Cp) (h : o[j]? = some c) : outS (o.take (j + 1)) = outS (o.take j) + c.outl := by
  rw [take_succ' o j c h, outS_append]; simp [outS]

/-- Not too great. -/
def Fit (o : List Cp) : Prop := o.length ≤ 1048576 ∧ ∀ c ∈ o, 0 ≤ c.n ∧ c.n ≤ 1099511627776 ∧ c.s.size ≤ 1099511627776

theorem Cp.over_le {c : Cp} (h : 0 ≤ c.n ∧ c.n ≤ 1099511627776 ∧ c.s.size ≤ 1099511627776) : 0 ≤ c.over ∧ c.over ≤ 1099511627776 := by
  unfold Cp.over; split <;> omega
theorem Cp.outl_le {c : Cp} (h : 0 ≤ c.n ∧ c.n ≤ 1099511627776 ∧ c.s.size ≤ 1099511627776) : 0 ≤ c.outl ∧ c.outl ≤ 2199023255552 := by
  unfold Cp.outl; split <;> omega
theorem inS_le : ∀ (o : List Cp), (∀ c ∈ o, 0 ≤ c.n ∧ c.n ≤ 1099511627776 ∧ c.s.size ≤ 1099511627776) → 0 ≤ inS o ∧ inS o ≤ o.length * 1099511627776
  | [], _ => by simp [inS]
  | c :: o, h => by
    have h1 := Cp.over_le (h c (by simp))
    have h2 := inS_le o (fun d hd => h d (by simp [hd]))
    simp only [inS, List.length_cons]
    omega
theorem outS_le : ∀ (o : List Cp), (∀ c ∈ o, 0 ≤ c.n ∧ c.n ≤ 1099511627776 ∧ c.s.size ≤ 1099511627776) → 0 ≤ outS o ∧ outS o ≤ o.length * 2199023255552
  | [], _ => by simp [outS]
  | c :: o, h => by
    have h1 := Cp.outl_le (h c (by simp))
    have h2 := outS_le o (fun d hd => h d (by simp [hd]))
    simp only [outS, List.length_cons]
    omega
theorem Fit.take {o : List Cp} (h : Fit o) (j : Nat) : Fit (o.take j) := ⟨by rw [List.length_take]; have := h.1; omega, fun c hc => h.2 c (List.mem_of_mem_take hc)⟩
theorem Fit.drop {o : List Cp} (h : Fit o) (j : Nat) : Fit (o.drop j) := ⟨by rw [List.length_drop]; have := h.1; omega, fun c hc => h.2 c (List.mem_of_mem_drop hc)⟩
theorem Fit.at {o : List Cp} (h : Fit o) {j : Nat} {c : Cp} (hj : o[j]? = some c) : 0 ≤ c.n ∧ c.n ≤ 1099511627776 ∧ c.s.size ≤ 1099511627776 := h.2 c (List.mem_of_getElem? hj)
theorem Fit.inB {o : List Cp} (h : Fit o) (j : Nat) : 0 ≤ inS (o.take j) ∧ inS (o.take j) ≤ 1152921504606846976 := by
  have := inS_le _ (h.take j).2
  have := (h.take j).1
  omega
theorem Fit.outB {o : List Cp} (h : Fit o) (j : Nat) : 0 ≤ outS (o.take j) ∧ outS (o.take j) ≤ 2305843009213693952 := by
  have := outS_le _ (h.take j).2
  have := (h.take j).1
  omega
theorem take_all' {α : Type} (o : List α) : o.take o.length = o := List.take_length

/-- A part that does something: a Keep or a Cut of at least one byte, or a Put of at least one. -/
def Cp.Ok (c : Cp) : Prop := ((c.k = 1 ∨ c.k = 3) ∧ 1 ≤ c.n ∧ c.s.size = 0) ∨ (c.k = 2 ∧ c.n = 0 ∧ 1 ≤ c.s.size)
def Good (o : List Cp) : Prop := ∀ c ∈ o, c.Ok
theorem Good.at {o : List Cp} (h : Good o) {j : Nat} {c : Cp} (hj : o[j]? = some c) : c.Ok := h c (List.mem_of_getElem? hj)
theorem Cp.Ok.kind {c : Cp} (h : c.Ok) : c.k = 1 ∨ c.k = 2 ∨ c.k = 3 := by
  rcases h with ⟨h | h, _⟩ | ⟨h, _⟩ <;> simp [h]
theorem Good.append {o p : List Cp} (h : Good o) (k : Good p) : Good (o ++ p) := fun c hc => (List.mem_append.1 hc).elim (h c) (k c)
theorem Good.left {o p : List Cp} (h : Good (o ++ p)) : Good o := fun c hc => h c (List.mem_append.2 (.inl hc))
theorem Good.right {o p : List Cp} (h : Good (o ++ p)) : Good p := fun c hc => h c (List.mem_append.2 (.inr hc))
theorem Good.take {o : List Cp} (h : Good o) (j : Nat) : Good (o.take j) := fun c hc => h c (List.mem_of_mem_take hc)
theorem Good.drop {o : List Cp} (h : Good o) (j : Nat) : Good (o.drop j) := fun c hc => h c (List.mem_of_mem_drop hc)

/-- What an operation makes of bytes. -/
def applyS : List UInt8 → List Cp → List UInt8
  | _, [] => []
  | d, c :: o => if c.k = 1 then d.take c.n.toNat ++ applyS (d.drop c.n.toNat) o else if c.k = 2 then c.s.data.toList ++ applyS d o else applyS (d.drop c.n.toNat) o
/-- Apply's answer. -/
def apS (d : ByteArray) (o : List Cp) : ByteArray × Int :=
  if inS o ≠ d.size then (⟨#[]⟩, 7) else if 120 < outS o then (⟨#[]⟩, 5) else (⟨(applyS d.data.toList o).toArray⟩, 0)

theorem drop_cons' {α : Type} (o : List α) (j : Nat) (c : α) (h : o[j]? = some c) : o.drop j = c :: o.drop (j + 1) := by
  have hj := (List.getElem?_eq_some_iff.1 h)
  rw [List.drop_eq_getElem_cons hj.1, hj.2]
theorem inS_split (o : List Cp) (j : Nat) : inS o = inS (o.take j) + inS (o.drop j) := by rw [← inS_append, List.take_append_drop]
theorem outS_split (o : List Cp) (j : Nat) : outS o = outS (o.take j) + outS (o.drop j) := by rw [← outS_append, List.take_append_drop]

theorem Good.inS_nn : ∀ {o : List Cp}, Good o → 0 ≤ inS o
  | [], _ => by simp [inS]
  | c :: o, h => by
    have h2 := Good.inS_nn (o := o) (fun d hd => h d (by simp [hd]))
    have : 0 ≤ c.over := by
      rcases h c (by simp) with ⟨hk, hn, hs⟩ | ⟨hk, hn, hs⟩
      · rw [Cp.over, if_pos hk]; omega
      · rw [Cp.over, if_neg (by omega)]; omega
    rw [inS]; omega
theorem applyS_length : ∀ (o : List Cp) (d : List UInt8), Good o → inS o ≤ d.length → ((applyS d o).length : Int) = outS o
  | [], d, _, _ => by simp [applyS, outS]
  | c :: o, d, hg, hi => by
    have hg' : Good o := fun e he => hg e (by simp [he])
    have hnn : 0 ≤ inS o := hg'.inS_nn
    rw [inS] at hi
    rw [outS]
    rcases hg c (by simp) with ⟨hk, hn, hs⟩ | ⟨hk, hn, hs⟩
    · have ho : c.over = c.n := by rw [Cp.over, if_pos hk]
      obtain ⟨m, hm⟩ : ∃ m : Nat, c.n = (m : Int) := Int.eq_ofNat_of_zero_le (by omega)
      have ih := applyS_length o (d.drop m) hg' (by rw [List.length_drop]; omega)
      rcases hk with hk | hk
      · rw [applyS, if_pos hk, Cp.outl, if_pos hk, hs, hm, Int.toNat_natCast, List.length_append, List.length_take]
        omega
      · rw [applyS, if_neg (by omega), if_neg (by omega), Cp.outl, if_neg (by omega), hs, hm, Int.toNat_natCast, ih]
        simp
    · have ho : c.over = 0 := by rw [Cp.over, if_neg (by omega)]
      have ih := applyS_length o d hg' (by omega)
      rw [applyS, if_neg (by omega), if_pos hk, Cp.outl, if_neg (by omega), List.length_append]
      have : c.s.data.toList.length = c.s.size := by simp
      omega

/-- The three cells of one part. -/
theorem RC.at {w : World} {g off : Nat} {o : List Cp} (h : w.rangeAt g off (C o)) {j : Nat} {c : Cp} (hj : o[j]? = some c) : w.rangeAt g (off + j * 3) c.vals := fun i u hu => by
  have := h _ _ (C_get o j c hj i u hu)
  rwa [← Nat.add_assoc] at this
theorem RC.cells {w : World} {g off : Nat} {o : List Cp} (h : w.rangeAt g off (C o)) {j : Nat} {c : Cp} (hj : o[j]? = some c) :
    w.cell? ⟨g, off + j * 3, none⟩ = some (.int .i64 c.k) ∧ w.cell? ⟨g, off + j * 3 + 1, none⟩ = some (.int .i64 c.n) ∧ w.cell? ⟨g, off + j * 3 + 2, none⟩ = some (.string c.s) :=
  ⟨RC.at h hj 0 _ rfl, RC.at h hj 1 _ rfl, RC.at h hj 2 _ rfl⟩
end Go.Proofs.YtinifnpajkldbaaDoor
