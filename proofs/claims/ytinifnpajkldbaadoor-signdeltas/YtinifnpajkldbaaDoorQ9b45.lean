/- Texts laid together: Open8, Open9. -/
import Derived.Test.YtinifnpajkldbaaDoorPk1
import Derived.Test.YtinifnpajkldbaaDoorPk4
import Derived.Test.YtinifnpajkldbaaDoorQ9b40
import Derived.ChangeArms
import Derived.DataElems
import Derived.OpenShut
import Derived.WalkKit
import Derived.ProofKit
import Derived.Test.YtinifnpajkldbaaDoorPk2

/- What is known of operations, addresses and deltas that came in. -/
namespace Go.Proofs.YtinifnpajkldbaaDoor
open Go.ChangeShapes Go.WideShapes Go.ChangeAt Go.RowKit
set_option linter.unusedSimpArgs false
set_option linter.unusedVariables false

set_option maxRecDepth 100000 in
theorem field_at {H : Type} {enc : TypeId × Value → H} {W : World} {base : Nat} {sp : Nat → Bool} {held : Bool} {m : Nat} {fs : Array Field} {cs : List Value} {xs : List (DataW H × List MemPlace)}
    (hf : ∀ (i : Nat) (f : Field), fs[i]? = some f → DataW.trod enc Tryd.prog W base sp held m f.type ((cs.drop f.offset).take (Tryd.prog.cellsOf f.type)) = xs[i]?)
    (i : Nat) (t : TypeId) (o : Nat) (h : fs[i]?.map (fun f => (f.type, f.offset)) = some (t, o)) : DataW.trod enc Tryd.prog W base sp held m t ((cs.drop o).take (Tryd.prog.cellsOf t)) = xs[i]? := by
  cases hi : fs[i]? with
  | none => rw [hi] at h; cases h
  | some f =>
    rw [hi] at h
    simp only [Option.map_some, Option.some.injEq, Prod.mk.injEq] at h
    have := hf i f hi
    rw [h.1, h.2] at this
    exact this

theorem ba_of {s : ByteArray} (h : s.size ≤ maxLen) : s.size ≤ 9223372036854775807 := by unfold maxLen at h; omega

set_option maxRecDepth 100000 in
/-- A part's cells, read. -/
theorem open_comp {H : Type} {enc : TypeId × Value → H} {W : World} {base : Nat} {sp : Nat → Bool} {held : Bool} {n : Nat} {cs : List Value} {x : DataW H × List MemPlace}
    (h : DataW.trod enc Tryd.prog W base sp held n 62 cs = some x) : ∃ c : Cp, cs = c.vals ∧ c.s.size ≤ maxLen ∧ -9223372036854775808 ≤ c.n ∧ c.n ≤ 9223372036854775807 ∧ -9223372036854775808 ≤ c.k ∧ c.k ≤ 9223372036854775807 := by
  have hS : Tryd.prog.underlying 62 = some (.struct (Tryd.prog.fieldsOf 62)) := by kernel_rfl
  obtain ⟨xs, m, rfl, _, hl, hn, hf⟩ := DataW.trod_struct hS h
  have hl3 : cs.length = 3 := by rw [hl]; kernel_rfl
  have hx : xs.length = 3 := by rw [hn]; kernel_rfl
  match cs, hl3 with
  | [u0, u1, u2], _ =>
    have f0 := field_at hf 0 3 0 (by kernel_rfl)
    have f1 := field_at hf 1 3 1 (by kernel_rfl)
    have f2 := field_at hf 2 9 2 (by kernel_rfl)
    have c3 : Tryd.prog.cellsOf 3 = 1 := by kernel_rfl
    have c9 : Tryd.prog.cellsOf 9 = 1 := by kernel_rfl
    simp only [c3, c9, List.drop_zero, List.take_succ_cons, List.take_zero, List.drop_succ_cons] at f0 f1 f2
    rw [List.getElem?_eq_getElem (by omega)] at f0 f1 f2
    obtain ⟨k, e0, _, w0⟩ := DataW.trod_int Tryd.underlying3 f0
    obtain ⟨q, e1, _, w1⟩ := DataW.trod_int Tryd.underlying3 f1
    obtain ⟨s, e2, _, w2⟩ := DataW.trod_string Tryd.underlying9 f2
    simp only [List.cons.injEq, and_true] at e0 e1 e2
    subst e0 e1 e2
    have b0 := wf_i64 w0
    have b1 := wf_i64 w1
    exact ⟨⟨k, q, s⟩, rfl, w2, b1.1, b1.2, b0.1, b0.2⟩

/-- A slice of parts that came in. -/
def InOp (W : World) (v : Value) (o : List Cp) : Prop := RC W v o ∧ (∀ c ∈ o, c.s.size ≤ maxLen ∧ -9223372036854775808 ≤ c.n ∧ c.n ≤ 9223372036854775807 ∧ -9223372036854775808 ≤ c.k ∧ c.k ≤ 9223372036854775807) ∧ o.length ≤ maxLen

set_option maxRecDepth 100000 in
theorem open_comps {H : Type} {enc : TypeId × Value → H} {W : World} {base : Nat} {sp : Nat → Bool} {held : Bool} {n : Nat} {cs : List Value} {x : DataW H × List MemPlace}
    (h : DataW.trod enc Tryd.prog W base sp held n 28 cs = some x) : ∃ v o, cs = [v] ∧ InOp W v o := by
  rcases DataW.trod_slice Tryd.underlying28 h with ⟨rfl, _⟩ | ⟨a, len, cap, elems, rest, m, rfl, rfl, _, hb, hlc, hcm, hel, hi, _, _⟩
  · exact ⟨_, [], rfl, RC.nil _, fun c hc => by simp at hc, Nat.zero_le _⟩
  · have c3 : Tryd.prog.cellsOf 62 = 3 := by kernel_rfl
    rw [c3] at hi
    by_cases h0 : len = 0
    · subst h0
      exact ⟨_, [], rfl, .inl ⟨some a, cap, rfl, rfl, fun h => by cases h⟩, fun c hc => by simp at hc, Nat.zero_le _⟩
    · have hone : ∀ i, i < len → ∃ c : Cp, W.cells? base (a.add (i * 3)) 3 = some c.vals ∧ c.s.size ≤ maxLen ∧ -9223372036854775808 ≤ c.n ∧ c.n ≤ 9223372036854775807 ∧ -9223372036854775808 ≤ c.k ∧ c.k ≤ 9223372036854775807 := by
        intro i hlt
        have := hi i hlt
        rw [List.getElem?_eq_getElem (by omega)] at this
        obtain ⟨cs, h1, h2⟩ := Option.bind_eq_some_iff.1 this
        obtain ⟨c, rfl, h3⟩ := open_comp h2
        exact ⟨c, h1, h3⟩
      let f : Nat → Cp := fun i => if h : i < len then (hone i h).choose else ⟨0, 0, ⟨#[]⟩⟩
      have hf : ∀ i, i < len → W.cells? base (a.add (i * 3)) 3 = some (f i).vals ∧ (f i).s.size ≤ maxLen ∧ -9223372036854775808 ≤ (f i).n ∧ (f i).n ≤ 9223372036854775807 ∧ -9223372036854775808 ≤ (f i).k ∧ (f i).k ≤ 9223372036854775807 := by
        intro i hlt
        have := (hone i hlt).choose_spec
        simp only [f, hlt, dif_pos]
        exact this
      have hol : ((List.range len).map f).length = len := by simp
      have hget : ∀ j, ((List.range len).map f)[j]? = if j < len then some (f j) else none := by
        intro j
        rw [List.getElem?_map]
        by_cases hj : j < len
        · rw [List.getElem?_range hj, if_pos hj]; rfl
        · rw [List.getElem?_eq_none (by simpa using hj), if_neg hj]; rfl
      have hcell : ∀ i, i < len → ∀ j, j < 3 → W.cell? (a.add (i * 3 + j)) = (f i).vals[j]? := by
        intro i hlt j hj
        obtain ⟨h1, _⟩ := hf i hlt
        obtain ⟨_, _, h2⟩ := World.cells?_some h1
        have h3 := h2 j hj
        rwa [Addr.add_add] at h3
      obtain ⟨b, off, spd⟩ := a
      have hsp : spd = none ∧ b < W.heap.size := by
        have := hcell 0 (by omega) 0 (by omega)
        simp only [Cp.vals, List.getElem?_cons_zero, Nat.zero_mul, Nat.add_zero] at this
        cases spd with
        | none => exact ⟨rfl, by
            by_cases hlt : b < W.heap.size
            · exact hlt
            · simp [Addr.add, World.cell?, Array.getElem?_eq_none (Nat.le_of_not_lt hlt)] at this⟩
        | some z => simp [Addr.add, World.cell?] at this; split at this <;> simp at this
      obtain ⟨rfl, hbl⟩ := hsp
      refine ⟨_, (List.range len).map f, rfl, .inr ⟨b, off, cap, by rw [hol], by rw [hol]; exact hlc, ?_, hbl⟩, ?_, by rw [hol]; exact Nat.le_trans hlc hcm⟩
      · intro j u hj
        have hj3 : j < len * 3 := by have := (List.getElem?_eq_some_iff.1 hj).1; rw [C_length, hol] at this; exact this
        have hq : j / 3 < len := by omega
        have e1 := C_get ((List.range len).map f) (j / 3) (f (j / 3)) (by rw [hget, if_pos hq]) (j % 3)
        have e2 := hcell (j / 3) hq (j % 3) (by omega)
        rw [show j / 3 * 3 + j % 3 = j by omega, Addr.add_lit] at e2
        rw [show j / 3 * 3 + j % 3 = j by omega] at e1
        obtain ⟨u', hu'⟩ : ∃ u', (f (j / 3)).vals[j % 3]? = some u' := ⟨_, List.getElem?_eq_getElem (by simp [Cp.vals]; omega)⟩
        have e3 := e1 u' hu'
        rw [hj] at e3
        cases e3
        rw [e2, hu']
      · intro c hc
        obtain ⟨i, hi1, rfl⟩ := List.mem_map.1 hc
        exact (hf i (List.mem_range.1 hi1)).2

set_option maxRecDepth 100000 in
theorem open_op {H : Type} {enc : TypeId × Value → H} {W : World} {base b0 : Nat} {sp : Nat → Bool} {held : Bool} {r : Reach} {v : Value} {d : DataW H} {p : List MemPlace}
    (hv : Value.okWide Tryd.prog W r b0 28 v) (h : DataW.Trod enc Tryd.prog W base sp held 28 v d p) : ∃ o, InOp W v o := by
  obtain ⟨a, len, cap, rfl⟩ := okWide_slice Tryd.underlying28 hv
  obtain ⟨fuel, hf⟩ := h
  obtain ⟨v, o, h1, h2⟩ := open_comps hf
  simp [Value.cells] at h1
  subst h1
  exact ⟨o, h2⟩

set_option maxRecDepth 100000 in
theorem open_hashc {H : Type} {enc : TypeId × Value → H} {W : World} {base : Nat} {sp : Nat → Bool} {held : Bool} {n : Nat} {cs : List Value} {x : DataW H × List MemPlace}
    (h : DataW.trod enc Tryd.prog W base sp held n 26 cs = some x) : ∃ l : List UInt8, l.length = 32 ∧ cs = B l := by
  obtain ⟨xs, m, _, _, hl, hn, hel⟩ := DataW.trod_array Tryd.underlying26 h
  have hl' : cs.length = 32 := by rw [hl]; kernel_rfl
  have c1 : Tryd.prog.cellsOf 5 = 1 := by kernel_rfl
  refine ⟨cs.map fun v => match v with | .int _ n => UInt8.ofNat n.toNat | _ => 0, by simp [hl'], ?_⟩
  apply List.ext_getElem?
  intro i
  by_cases hi : i < 32
  · have := hel i hi
    rw [c1, Nat.mul_one] at this
    have hx : xs[i]? = some xs[i] := List.getElem?_eq_getElem (by omega)
    rw [hx] at this
    obtain ⟨n, e1, _, hw⟩ := DataW.trod_int Tryd.underlying5 this
    have hci : cs[i]? = some (.int .u8 n) := by
      have := congrArg (·[0]?) e1
      simpa [List.getElem?_take, List.getElem?_drop] using this
    have hb := wf_u8 hw
    simp only [B, List.map_map, List.getElem?_map, hci, Option.map_some, Function.comp]
    rw [UInt8.toNat_ofNat']
    congr 2
    omega
  · rw [List.getElem?_eq_none (by omega), List.getElem?_eq_none (by simp [B]; omega)]

set_option maxRecDepth 100000 in
theorem open_addrc {H : Type} {enc : TypeId × Value → H} {W : World} {base : Nat} {sp : Nat → Bool} {held : Bool} {n : Nat} {cs : List Value} {x : DataW H × List MemPlace}
    (h : DataW.trod enc Tryd.prog W base sp held n 24 cs = some x) : ∃ D U : Int, cs = [.int .i64 D, .int .i64 U] ∧ (Lit.int .i64 D).wf = true ∧ (Lit.int .i64 U).wf = true := by
  have hS : Tryd.prog.underlying 24 = some (.struct (Tryd.prog.fieldsOf 24)) := by kernel_rfl
  obtain ⟨xs, m, rfl, _, hl, hn, hf⟩ := DataW.trod_struct hS h
  have hl2 : cs.length = 2 := by rw [hl]; kernel_rfl
  have hx : xs.length = 2 := by rw [hn]; kernel_rfl
  match cs, hl2 with
  | [u0, u1], _ =>
    have f0 := field_at hf 0 3 0 (by kernel_rfl)
    have f1 := field_at hf 1 3 1 (by kernel_rfl)
    have c3 : Tryd.prog.cellsOf 3 = 1 := by kernel_rfl
    simp only [c3, List.drop_zero, List.take_succ_cons, List.take_zero, List.drop_succ_cons] at f0 f1
    rw [List.getElem?_eq_getElem (by omega)] at f0 f1
    obtain ⟨k, e0, _, w0⟩ := DataW.trod_int Tryd.underlying3 f0
    obtain ⟨q, e1, _, w1⟩ := DataW.trod_int Tryd.underlying3 f1
    simp only [List.cons.injEq, and_true] at e0 e1
    subst e0 e1
    exact ⟨k, q, rfl, w0, w1⟩

set_option maxRecDepth 100000 in
theorem open_addr {H : Type} {enc : TypeId × Value → H} {W : World} {base b0 : Nat} {sp : Nat → Bool} {held : Bool} {r : Reach} {v : Value} {d : DataW H} {p : List MemPlace}
    (hv : Value.okWide Tryd.prog W r b0 24 v) (h : DataW.Trod enc Tryd.prog W base sp held 24 v d p) : ∃ D U : Int, v = .agg #[.int .i64 D, .int .i64 U] ∧ (Lit.int .i64 D).wf = true ∧ (Lit.int .i64 U).wf = true := by
  have hu : Tryd.prog.underlying 24 = some (.struct (Tryd.prog.fieldsOf 24)) := by kernel_rfl
  simp only [Value.okWide, hu] at hv
  obtain ⟨cs, rfl, _, _⟩ := hv
  obtain ⟨fuel, hf⟩ := h
  obtain ⟨D, U, h1, h2, h3⟩ := open_addrc hf
  refine ⟨D, U, ?_, h2, h3⟩
  have h4 : cs.toList = [.int .i64 D, .int .i64 U] := h1
  congr 1
  exact Array.ext' h4

/-- The numbers of a delta that came in. -/
def Dl.Wf (d : Dl) : Prop := (Lit.int .i64 d.aD).wf = true ∧ (Lit.int .i64 d.aU).wf = true ∧ (Lit.int .i64 d.id).wf = true ∧ (Lit.int .i64 d.ver).wf = true ∧ (Lit.int .i64 d.k).wf = true ∧ (Lit.int .i64 d.wD).wf = true ∧ (Lit.int .i64 d.wU).wf = true

theorem take_split {α : Type} (cs : List α) (a b : Nat) : (cs.drop a).take b ++ cs.drop (a + b) = cs.drop a := by
  rw [← List.drop_drop, List.take_append_drop]

set_option maxRecDepth 100000 in
theorem open_delta {H : Type} {enc : TypeId × Value → H} {W : World} {base b0 : Nat} {sp : Nat → Bool} {held : Bool} {r : Reach} {v : Value} {d : DataW H} {p : List MemPlace}
    (hv : Value.okWide Tryd.prog W r b0 30 v) (h : DataW.Trod enc Tryd.prog W base sp held 30 v d p) : ∃ (e : Dl) (u : Value) (o : List Cp), v = .agg (e.cells u).toArray ∧ e.h.length = 32 ∧ InOp W u o ∧ e.Wf := by
  have hu : Tryd.prog.underlying 30 = some (.struct (Tryd.prog.fieldsOf 30)) := by kernel_rfl
  simp only [Value.okWide, hu] at hv
  obtain ⟨cs, rfl, _, _⟩ := hv
  obtain ⟨fuel, hf⟩ := h
  obtain ⟨xs, m, rfl, _, hl, hn, hel⟩ := DataW.trod_struct hu hf
  have hx : xs.length = 7 := by rw [hn]; kernel_rfl
  have hl2 : cs.toList.length = 40 := by
    have : (Value.agg cs).cells.toList.length = 40 := by rw [hl]; kernel_rfl
    exact this
  have c1 : Tryd.prog.cellsOf 3 = 1 := by kernel_rfl
  have c2 : Tryd.prog.cellsOf 24 = 2 := by kernel_rfl
  have c3 : Tryd.prog.cellsOf 26 = 32 := by kernel_rfl
  have c4 : Tryd.prog.cellsOf 28 = 1 := by kernel_rfl
  have f0 := field_at hel 0 24 0 (by kernel_rfl)
  have f1 := field_at hel 1 3 2 (by kernel_rfl)
  have f2 := field_at hel 2 3 3 (by kernel_rfl)
  have f3 := field_at hel 3 26 4 (by kernel_rfl)
  have f4 := field_at hel 4 3 36 (by kernel_rfl)
  have f5 := field_at hel 5 28 37 (by kernel_rfl)
  have f6 := field_at hel 6 24 38 (by kernel_rfl)
  have e0 : (Value.agg cs).cells.toList = cs.toList := rfl
  simp only [c1, c2, c3, c4, e0] at f0 f1 f2 f3 f4 f5 f6
  obtain ⟨l, hcl⟩ : ∃ l, cs.toList = l := ⟨_, rfl⟩
  rw [hcl] at hl2 f0 f1 f2 f3 f4 f5 f6
  rw [List.getElem?_eq_getElem (by omega)] at f0 f1 f2 f3 f4 f5 f6
  obtain ⟨aD, aU, g0, w0, w0'⟩ := open_addrc f0
  obtain ⟨id, g1, _, w1⟩ := DataW.trod_int Tryd.underlying3 f1
  obtain ⟨ver, g2, _, w2⟩ := DataW.trod_int Tryd.underlying3 f2
  obtain ⟨hs, hh, g3⟩ := open_hashc f3
  obtain ⟨k, g4, _, w4⟩ := DataW.trod_int Tryd.underlying3 f4
  obtain ⟨u, o, g5, ho⟩ := open_comps f5
  obtain ⟨wD, wU, g6, w6, w6'⟩ := open_addrc f6
  refine ⟨⟨aD, aU, id, ver, hs, k, wD, wU⟩, u, o, ?_, hh, ho, w0, w0', w1, w2, w4, w6, w6'⟩
  have s0 := take_split l 0 2
  have s1 := take_split l 2 1
  have s2 := take_split l 3 1
  have s3 := take_split l 4 32
  have s4 := take_split l 36 1
  have s5 := take_split l 37 1
  have s6 := take_split l 38 2
  have s7 : l.drop 40 = [] := List.drop_of_length_le (by omega)
  rw [g0] at s0
  rw [g1] at s1
  rw [g2] at s2
  rw [g3] at s3
  rw [g4] at s4
  rw [g5] at s5
  rw [g6, s7] at s6
  have e : l = ({ aD := aD, aU := aU, id := id, ver := ver, h := hs, k := k, wD := wD, wU := wU } : Dl).cells u := by
    rw [← List.drop_zero (l := l), ← s0, ← s1, ← s2, ← s3, ← s4, ← s5, ← s6, Dl.cells]
    simp
  rw [← e, ← hcl]
end Go.Proofs.YtinifnpajkldbaaDoor

/- A signed delta that comes in. -/
namespace Go.Proofs.YtinifnpajkldbaaDoor
open Go.ChangeShapes Go.WideShapes Go.ChangeAt Go.RowKit
set_option linter.unusedSimpArgs false
set_option linter.unusedVariables false

set_option maxRecDepth 100000 in
theorem open_signed {H : Type} {enc : TypeId × Value → H} {W : World} {base b0 : Nat} {held : Bool} {r : Reach} {v : Value} {d : DataW H} {p : List MemPlace}
    (hv : Value.okWide Tryd.prog W r b0 40 v) (h : DataW.Trod enc Tryd.prog W base (fun _ => true) held 40 v d p) : ∃ (a : Option Addr) (n c : Nat) (zs : List Int) (m : List UInt8), v = .agg (sgC (.slice a n c) m).toArray ∧ m.length = 32 ∧ IsRow .u8 W a n c zs := by
  have hu : Tryd.prog.underlying 40 = some (.struct (Tryd.prog.fieldsOf 40)) := by kernel_rfl
  simp only [Value.okWide, hu] at hv
  obtain ⟨cs, rfl, _, _⟩ := hv
  obtain ⟨fuel, hf⟩ := h
  obtain ⟨xs, m, rfl, _, hl, hn, hel⟩ := DataW.trod_struct hu hf
  have hx : xs.length = 2 := by rw [hn]; kernel_rfl
  have hl2 : cs.toList.length = 33 := by
    have : (Value.agg cs).cells.toList.length = 33 := by rw [hl]; kernel_rfl
    exact this
  have c1 : Tryd.prog.cellsOf 22 = 1 := by kernel_rfl
  have c3 : Tryd.prog.cellsOf 26 = 32 := by kernel_rfl
  have f0 := field_at hel 0 22 0 (by kernel_rfl)
  have f1 := field_at hel 1 26 1 (by kernel_rfl)
  have e0 : (Value.agg cs).cells.toList = cs.toList := rfl
  simp only [c1, c3, e0] at f0 f1
  obtain ⟨l, hcl⟩ : ∃ l, cs.toList = l := ⟨_, rfl⟩
  rw [hcl] at hl2 f0 f1
  rw [List.getElem?_eq_getElem (by omega)] at f0 f1
  obtain ⟨hs, hh, g3⟩ := open_hashc f1
  have s0 := take_split l 0 1
  have s1 := take_split l 1 32
  have s7 : l.drop 33 = [] := List.drop_of_length_le (by omega)
  rw [g3, s7, List.append_nil] at s1
  rcases open_ints Tryd.underlying22 Tryd.underlying5 (by kernel_rfl) f0 with ⟨hcs, _⟩ | ⟨x, n, c, zs, hcs, _, h1, h2, h3, _, hcell, hwz⟩
  · rw [hcs, ← s1] at s0
    refine ⟨none, 0, 0, [], hs, ?_, hh, .inl ⟨rfl, rfl, rfl, rfl⟩⟩
    have e : cs.toList = sgC (.slice none 0 0) hs := by rw [hcl, ← List.drop_zero (l := l), ← s0]; rfl
    rw [← e]
  · rw [hcs, ← s1] at s0
    refine ⟨some x, n, c, zs, hs, ?_, hh, .inr ⟨_, rfl, h1, h2, by simpa using h3, hcell, hwz⟩⟩
    have e : cs.toList = sgC (.slice (some x) n c) hs := by rw [hcl, ← List.drop_zero (l := l), ← s0]; rfl
    rw [← e]
end Go.Proofs.YtinifnpajkldbaaDoor
