/- What is known of operations, addresses and deltas that came in. -/
import Derived.Test.YtajkjbhfkeakhaaDl
import Derived.Test.YtajkjbhfkeakhaaHasC
import Derived.Test.YtajkjbhfkeakhaaArg
import Derived.ChangeArms
import Derived.DataElems
import Derived.OpenShut
import Derived.WalkKit
import Derived.ProofKit
namespace Go.Proofs.Ytajkjbhfkeakhaa
open Go.ChangeShapes Go.WideShapes Go.ChangeAt Go.RowKit
set_option linter.unusedSimpArgs false
set_option linter.unusedVariables false

theorem field_at {H : Type} {enc : TypeId × Value → H} {W : World} {base : Nat} {sp : Nat → Bool} {held : Bool} {m : Nat} {fs : Array Field} {cs : List Value} {xs : List (DataW H × List MemPlace)}
    (hf : ∀ (i : Nat) (f : Field), fs[i]? = some f → DataW.trod enc Try.prog W base sp held m f.type ((cs.drop f.offset).take (Try.prog.cellsOf f.type)) = xs[i]?)
    (i : Nat) (t : TypeId) (o : Nat) (h : fs[i]?.map (fun f => (f.type, f.offset)) = some (t, o)) : DataW.trod enc Try.prog W base sp held m t ((cs.drop o).take (Try.prog.cellsOf t)) = xs[i]? := by
  cases hi : fs[i]? with
  | none => rw [hi] at h; cases h
  | some f =>
    rw [hi] at h
    simp only [Option.map_some, Option.some.injEq, Prod.mk.injEq] at h
    have := hf i f hi
    rw [h.1, h.2] at this
    exact this

theorem ba_of {s : ByteArray} (h : s.size ≤ maxLen) : s.size ≤ 9223372036854775807 := by unfold maxLen at h; omega

/-- A part's cells, read. -/
theorem open_comp {H : Type} {enc : TypeId × Value → H} {W : World} {base : Nat} {sp : Nat → Bool} {held : Bool} {n : Nat} {cs : List Value} {x : DataW H × List MemPlace}
    (h : DataW.trod enc Try.prog W base sp held n 55 cs = some x) : ∃ c : Cp, cs = c.vals ∧ c.s.size ≤ maxLen ∧ -9223372036854775808 ≤ c.n ∧ c.n ≤ 9223372036854775807 ∧ -9223372036854775808 ≤ c.k ∧ c.k ≤ 9223372036854775807 := by
  have hS : Try.prog.underlying 55 = some (.struct (Try.prog.fieldsOf 55)) := by kernel_rfl
  obtain ⟨xs, m, rfl, _, hl, hn, hf⟩ := DataW.trod_struct hS h
  have hl3 : cs.length = 3 := by rw [hl]; kernel_rfl
  have hx : xs.length = 3 := by rw [hn]; kernel_rfl
  match cs, hl3 with
  | [u0, u1, u2], _ =>
    have f0 := field_at hf 0 3 0 (by kernel_rfl)
    have f1 := field_at hf 1 3 1 (by kernel_rfl)
    have f2 := field_at hf 2 9 2 (by kernel_rfl)
    have c3 : Try.prog.cellsOf 3 = 1 := by kernel_rfl
    have c9 : Try.prog.cellsOf 9 = 1 := by kernel_rfl
    simp only [c3, c9, List.drop_zero, List.take_succ_cons, List.take_zero, List.drop_succ_cons] at f0 f1 f2
    rw [List.getElem?_eq_getElem (by omega)] at f0 f1 f2
    obtain ⟨k, e0, _, w0⟩ := DataW.trod_int Try.underlying3 f0
    obtain ⟨q, e1, _, w1⟩ := DataW.trod_int Try.underlying3 f1
    obtain ⟨s, e2, _, w2⟩ := DataW.trod_string Try.underlying9 f2
    simp only [List.cons.injEq, and_true] at e0 e1 e2
    subst e0 e1 e2
    have b0 := wf_i64 w0
    have b1 := wf_i64 w1
    exact ⟨⟨k, q, s⟩, rfl, w2, b1.1, b1.2, b0.1, b0.2⟩

/-- A slice of parts that came in. -/
def InOp (W : World) (v : Value) (o : List Cp) : Prop := RC W v o ∧ (∀ c ∈ o, c.s.size ≤ maxLen ∧ -9223372036854775808 ≤ c.n ∧ c.n ≤ 9223372036854775807 ∧ -9223372036854775808 ≤ c.k ∧ c.k ≤ 9223372036854775807) ∧ o.length ≤ maxLen

theorem open_comps {H : Type} {enc : TypeId × Value → H} {W : World} {base : Nat} {sp : Nat → Bool} {held : Bool} {n : Nat} {cs : List Value} {x : DataW H × List MemPlace}
    (h : DataW.trod enc Try.prog W base sp held n 27 cs = some x) : ∃ v o, cs = [v] ∧ InOp W v o := by
  rcases DataW.trod_slice Try.underlying27 h with ⟨rfl, _⟩ | ⟨a, len, cap, elems, rest, m, rfl, rfl, _, hb, hlc, hcm, hel, hi, _, _⟩
  · exact ⟨_, [], rfl, RC.nil _, fun c hc => by simp at hc, Nat.zero_le _⟩
  · have c3 : Try.prog.cellsOf 55 = 3 := by kernel_rfl
    rw [c3] at hi
    by_cases h0 : len = 0
    · subst h0
      exact ⟨_, [], rfl, .inl ⟨some a, cap, rfl, rfl, fun h => by cases h⟩, fun c hc => by simp at hc, Nat.zero_le _⟩
    · have hone : ∀ i, i < len → ∃ c : Cp, W.cells? base (a.add (i * 3)) 3 = some c.vals ∧ c.s.size ≤ maxLen ∧ -9223372036854775808 ≤ c.n ∧ c.n ≤ 9223372036854775807 ∧ -9223372036854775808 ≤ c.k ∧ c.k ≤ 9223372036854775807 := by
        intro i hlt
        have := hi i hlt
        rw [List.getElem?_eq_getElem (by omega)] at this
        obtain ⟨cs, h1, h2⟩ := Option.bind_eq_some_iff.1 this
        obtain ⟨c, rfl, h3⟩ := open_comp h2
        exact ⟨c, h1, h3⟩
      let f : Nat → Cp := fun i => if h : i < len then (hone i h).choose else ⟨0, 0, ⟨#[]⟩⟩
      have hf : ∀ i, i < len → W.cells? base (a.add (i * 3)) 3 = some (f i).vals ∧ (f i).s.size ≤ maxLen ∧ -9223372036854775808 ≤ (f i).n ∧ (f i).n ≤ 9223372036854775807 ∧ -9223372036854775808 ≤ (f i).k ∧ (f i).k ≤ 9223372036854775807 := by
        intro i hlt
        have := (hone i hlt).choose_spec
        simp only [f, hlt, dif_pos]
        exact this
      have hol : ((List.range len).map f).length = len := by simp
      have hget : ∀ j, ((List.range len).map f)[j]? = if j < len then some (f j) else none := by
        intro j
        rw [List.getElem?_map]
        by_cases hj : j < len
        · rw [List.getElem?_range hj, if_pos hj]; rfl
        · rw [List.getElem?_eq_none (by simpa using hj), if_neg hj]; rfl
      have hcell : ∀ i, i < len → ∀ j, j < 3 → W.cell? (a.add (i * 3 + j)) = (f i).vals[j]? := by
        intro i hlt j hj
        obtain ⟨h1, _⟩ := hf i hlt
        obtain ⟨_, _, h2⟩ := World.cells?_some h1
        have h3 := h2 j hj
        rwa [Addr.add_add] at h3
      obtain ⟨b, off, spd⟩ := a
      have hsp : spd = none ∧ b < W.heap.size := by
        have := hcell 0 (by omega) 0 (by omega)
        simp only [Cp.vals, List.getElem?_cons_zero, Nat.zero_mul, Nat.add_zero] at this
        cases spd with
        | none => exact ⟨rfl, by
            by_cases hlt : b < W.heap.size
            · exact hlt
            · simp [Addr.add, World.cell?, Array.getElem?_eq_none (Nat.le_of_not_lt hlt)] at this⟩
        | some z => simp [Addr.add, World.cell?] at this; split at this <;> simp at this
      obtain ⟨rfl, hbl⟩ := hsp
      refine ⟨_, (List.range len).map f, rfl, .inr ⟨b, off, cap, by rw [hol], by rw [hol]; exact hlc, ?_, hbl⟩, ?_, by rw [hol]; exact Nat.le_trans hlc hcm⟩
      · intro j u hj
        have hj3 : j < len * 3 := by have := (List.getElem?_eq_some_iff.1 hj).1; rw [C_length, hol] at this; exact this
        have hq : j / 3 < len := by omega
        have e1 := C_get ((List.range len).map f) (j / 3) (f (j / 3)) (by rw [hget, if_pos hq]) (j % 3)
        have e2 := hcell (j / 3) hq (j % 3) (by omega)
        rw [show j / 3 * 3 + j % 3 = j by omega, Addr.add_lit] at e2
        rw [show j / 3 * 3 + j % 3 = j by omega] at e1
        obtain ⟨u', hu'⟩ : ∃ u', (f (j / 3)).vals[j % 3]? = some u' := ⟨_, List.getElem?_eq_getElem (by simp [Cp.vals]; omega)⟩
        have e3 := e1 u' hu'
        rw [hj] at e3
        cases e3
        rw [e2, hu']
      · intro c hc
        obtain ⟨i, hi1, rfl⟩ := List.mem_map.1 hc
        exact (hf i (List.mem_range.1 hi1)).2

theorem open_op {H : Type} {enc : TypeId × Value → H} {W : World} {base b0 : Nat} {sp : Nat → Bool} {held : Bool} {r : Reach} {v : Value} {d : DataW H} {p : List MemPlace}
    (hv : Value.okWide Try.prog W r b0 27 v) (h : DataW.Trod enc Try.prog W base sp held 27 v d p) : ∃ o, InOp W v o := by
  obtain ⟨a, len, cap, rfl⟩ := okWide_slice Try.underlying27 hv
  obtain ⟨fuel, hf⟩ := h
  obtain ⟨v, o, h1, h2⟩ := open_comps hf
  simp [Value.cells] at h1
  subst h1
  exact ⟨o, h2⟩

theorem open_hashc {H : Type} {enc : TypeId × Value → H} {W : World} {base : Nat} {sp : Nat → Bool} {held : Bool} {n : Nat} {cs : List Value} {x : DataW H × List MemPlace}
    (h : DataW.trod enc Try.prog W base sp held n 25 cs = some x) : ∃ l : List UInt8, l.length = 32 ∧ cs = B l := by
  obtain ⟨xs, m, _, _, hl, hn, hel⟩ := DataW.trod_array Try.underlying25 h
  have hl' : cs.length = 32 := by rw [hl]; kernel_rfl
  have c1 : Try.prog.cellsOf 5 = 1 := by kernel_rfl
  refine ⟨cs.map fun v => match v with | .int _ n => UInt8.ofNat n.toNat | _ => 0, by simp [hl'], ?_⟩
  apply List.ext_getElem?
  intro i
  by_cases hi : i < 32
  · have := hel i hi
    rw [c1, Nat.mul_one] at this
    have hx : xs[i]? = some xs[i] := List.getElem?_eq_getElem (by omega)
    rw [hx] at this
    obtain ⟨n, e1, _, hw⟩ := DataW.trod_int Try.underlying5 this
    have hci : cs[i]? = some (.int .u8 n) := by
      have := congrArg (·[0]?) e1
      simpa [List.getElem?_take, List.getElem?_drop] using this
    have hb := wf_u8 hw
    simp only [B, List.map_map, List.getElem?_map, hci, Option.map_some, Function.comp]
    rw [UInt8.toNat_ofNat']
    congr 2
    omega
  · rw [List.getElem?_eq_none (by omega), List.getElem?_eq_none (by simp [B]; omega)]

theorem open_addrc {H : Type} {enc : TypeId × Value → H} {W : World} {base : Nat} {sp : Nat → Bool} {held : Bool} {n : Nat} {cs : List Value} {x : DataW H × List MemPlace}
    (h : DataW.trod enc Try.prog W base sp held n 23 cs = some x) : ∃ D U : Int, cs = [.int .i64 D, .int .i64 U] ∧ (Lit.int .i64 D).wf = true ∧ (Lit.int .i64 U).wf = true := by
  have hS : Try.prog.underlying 23 = some (.struct (Try.prog.fieldsOf 23)) := by kernel_rfl
  obtain ⟨xs, m, rfl, _, hl, hn, hf⟩ := DataW.trod_struct hS h
  have hl2 : cs.length = 2 := by rw [hl]; kernel_rfl
  have hx : xs.length = 2 := by rw [hn]; kernel_rfl
  match cs, hl2 with
  | [u0, u1], _ =>
    have f0 := field_at hf 0 3 0 (by kernel_rfl)
    have f1 := field_at hf 1 3 1 (by kernel_rfl)
    have c3 : Try.prog.cellsOf 3 = 1 := by kernel_rfl
    simp only [c3, List.drop_zero, List.take_succ_cons, List.take_zero, List.drop_succ_cons] at f0 f1
    rw [List.getElem?_eq_getElem (by omega)] at f0 f1
    obtain ⟨k, e0, _, w0⟩ := DataW.trod_int Try.underlying3 f0
    obtain ⟨q, e1, _, w1⟩ := DataW.trod_int Try.underlying3 f1
    simp only [List.cons.injEq, and_true] at e0 e1
    subst e0 e1
    exact ⟨k, q, rfl, w0, w1⟩

theorem open_addr {H : Type} {enc : TypeId × Value → H} {W : World} {base b0 : Nat} {sp : Nat → Bool} {held : Bool} {r : Reach} {v : Value} {d : DataW H} {p : List MemPlace}
    (hv : Value.okWide Try.prog W r b0 23 v) (h : DataW.Trod enc Try.prog W base sp held 23 v d p) : ∃ D U : Int, v = .agg #[.int .i64 D, .int .i64 U] ∧ (Lit.int .i64 D).wf = true ∧ (Lit.int .i64 U).wf = true := by
  have hu : Try.prog.underlying 23 = some (.struct (Try.prog.fieldsOf 23)) := by kernel_rfl
  simp only [Value.okWide, hu] at hv
  obtain ⟨cs, rfl, _, _⟩ := hv
  obtain ⟨fuel, hf⟩ := h
  obtain ⟨D, U, h1, h2, h3⟩ := open_addrc hf
  refine ⟨D, U, ?_, h2, h3⟩
  have h4 : cs.toList = [.int .i64 D, .int .i64 U] := h1
  congr 1
  exact Array.ext' h4

/-- The numbers of a delta that came in. -/
def Dl.Wf (d : Dl) : Prop := (Lit.int .i64 d.aD).wf = true ∧ (Lit.int .i64 d.aU).wf = true ∧ (Lit.int .i64 d.id).wf = true ∧ (Lit.int .i64 d.ver).wf = true ∧ (Lit.int .i64 d.k).wf = true ∧ (Lit.int .i64 d.wD).wf = true ∧ (Lit.int .i64 d.wU).wf = true

theorem take_split {α : Type} (cs : List α) (a b : Nat) : (cs.drop a).take b ++ cs.drop (a + b) = cs.drop a := by
  rw [← List.drop_drop, List.take_append_drop]

theorem open_delta {H : Type} {enc : TypeId × Value → H} {W : World} {base b0 : Nat} {sp : Nat → Bool} {held : Bool} {r : Reach} {v : Value} {d : DataW H} {p : List MemPlace}
    (hv : Value.okWide Try.prog W r b0 29 v) (h : DataW.Trod enc Try.prog W base sp held 29 v d p) : ∃ (e : Dl) (u : Value) (o : List Cp), v = .agg (e.cells u).toArray ∧ e.h.length = 32 ∧ InOp W u o ∧ e.Wf := by
  have hu : Try.prog.underlying 29 = some (.struct (Try.prog.fieldsOf 29)) := by kernel_rfl
  simp only [Value.okWide, hu] at hv
  obtain ⟨cs, rfl, _, _⟩ := hv
  obtain ⟨fuel, hf⟩ := h
  obtain ⟨xs, m, rfl, _, hl, hn, hel⟩ := DataW.trod_struct hu hf
  have hx : xs.length = 7 := by rw [hn]; kernel_rfl
  have hl2 : cs.toList.length = 40 := by
    have : (Value.agg cs).cells.toList.length = 40 := by rw [hl]; kernel_rfl
    exact this
  have c1 : Try.prog.cellsOf 3 = 1 := by kernel_rfl
  have c2 : Try.prog.cellsOf 23 = 2 := by kernel_rfl
  have c3 : Try.prog.cellsOf 25 = 32 := by kernel_rfl
  have c4 : Try.prog.cellsOf 27 = 1 := by kernel_rfl
  have f0 := field_at hel 0 23 0 (by kernel_rfl)
  have f1 := field_at hel 1 3 2 (by kernel_rfl)
  have f2 := field_at hel 2 3 3 (by kernel_rfl)
  have f3 := field_at hel 3 25 4 (by kernel_rfl)
  have f4 := field_at hel 4 3 36 (by kernel_rfl)
  have f5 := field_at hel 5 27 37 (by kernel_rfl)
  have f6 := field_at hel 6 23 38 (by kernel_rfl)
  have e0 : (Value.agg cs).cells.toList = cs.toList := rfl
  simp only [c1, c2, c3, c4, e0] at f0 f1 f2 f3 f4 f5 f6
  obtain ⟨l, hcl⟩ : ∃ l, cs.toList = l := ⟨_, rfl⟩
  rw [hcl] at hl2 f0 f1 f2 f3 f4 f5 f6
  rw [List.getElem?_eq_getElem (by omega)] at f0 f1 f2 f3 f4 f5 f6
  obtain ⟨aD, aU, g0, w0, w0'⟩ := open_addrc f0
  obtain ⟨id, g1, _, w1⟩ := DataW.trod_int Try.underlying3 f1
  obtain ⟨ver, g2, _, w2⟩ := DataW.trod_int Try.underlying3 f2
  obtain ⟨hs, hh, g3⟩ := open_hashc f3
  obtain ⟨k, g4, _, w4⟩ := DataW.trod_int Try.underlying3 f4
  obtain ⟨u, o, g5, ho⟩ := open_comps f5
  obtain ⟨wD, wU, g6, w6, w6'⟩ := open_addrc f6
  refine ⟨⟨aD, aU, id, ver, hs, k, wD, wU⟩, u, o, ?_, hh, ho, w0, w0', w1, w2, w4, w6, w6'⟩
  have s0 := take_split l 0 2
  have s1 := take_split l 2 1
  have s2 := take_split l 3 1
  have s3 := take_split l 4 32
  have s4 := take_split l 36 1
  have s5 := take_split l 37 1
  have s6 := take_split l 38 2
  have s7 : l.drop 40 = [] := List.drop_of_length_le (by omega)
  rw [g0] at s0
  rw [g1] at s1
  rw [g2] at s2
  rw [g3] at s3
  rw [g4] at s4
  rw [g5] at s5
  rw [g6, s7] at s6
  have e : l = ({ aD := aD, aU := aU, id := id, ver := ver, h := hs, k := k, wD := wD, wU := wU } : Dl).cells u := by
    rw [← List.drop_zero (l := l), ← s0, ← s1, ← s2, ← s3, ← s4, ← s5, ← s6, Dl.cells]
    simp
  rw [← e, ← hcl]
end Go.Proofs.Ytajkjbhfkeakhaa
