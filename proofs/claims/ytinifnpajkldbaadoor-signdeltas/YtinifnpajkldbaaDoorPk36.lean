/- Texts laid together: Within8, Arg, Open8, Good8, NormS. -/
import Derived.Test.YtinifnpajkldbaaDoorProg
import Derived.Test.YtinifnpajkldbaaDoorPk0
import Derived.Test.YtinifnpajkldbaaDoorPk25
import Derived.OpenShut
import Derived.Test.YtinifnpajkldbaaDoorPk1
import Derived.Test.YtinifnpajkldbaaDoorPk4
import Derived.ChangeArms
import Derived.DataElems
import Derived.WalkKit
import Derived.ProofKit
import Derived.Test.YtinifnpajkldbaaDoorPk26
import Derived.Test.YtinifnpajkldbaaDoorPk2

/- The contract of the laws' own function within (chapter 8). -/
namespace Go.Proofs.YtinifnpajkldbaaDoor
open Go.RowKit
set_option linter.unusedSimpArgs false
set_option linter.unusedVariables false

set_option maxHeartbeats 400000 in
theorem within8_any (a n : Int) (h0 : 0 < n) (h1 : n ≤ 2147483648) (w : World) :
    Calls Tryd.prog 32 #[.int .i64 a, .int .i64 n] w fun e w' => e = .returned (.int .i64 (a % n)) ∧ w' = w := by
  have h4 := Int.lt_tmod_of_pos a h0
  have h5 := Int.tmod_lt_of_pos a h0
  have hneg := tmod_neg a n h0
  have hpos := tmod_pos a n h0
  have HN : Hid (a.tmod n < 0 → a % n = a.tmod n + n) := hneg
  have HP : Hid (0 ≤ a.tmod n → a % n = a.tmod n) := hpos
  clear hneg hpos
  go_enter Tryd.func32, Tryd.ntmps32
  go_wp2
  · go_ret
    exact ⟨by rw [HN.out (by assumption)]; rfl, rfl⟩
  · go_ret
    exact ⟨by rw [HP.out (by assumption)]; rfl, rfl⟩
end Go.Proofs.YtinifnpajkldbaaDoor

/- What is known of an argument that came in: a slice of bytes reads as bytes, a number lies within its kind. -/
namespace Go.Proofs.YtinifnpajkldbaaDoor
open Go.RowKit

/-- A slice of integers that came in: nil, or a row of cap cells, the numbers zs, of which the first len are its elements. -/
def IsRow (k : IntKind) (w : World) (a : Option Addr) (len cap : Nat) (zs : List Int) : Prop :=
  (a = none ∧ len = 0 ∧ cap = 0 ∧ zs = []) ∨
  ∃ x, a = some x ∧ len ≤ cap ∧ cap ≤ maxLen ∧ zs.length = cap ∧ (∀ i, i < zs.length → w.cell? (x.add i) = some (.int k (zs.getD i 0))) ∧ ∀ n ∈ zs, (Lit.int k n).wf = true

theorem wf_u8 {n : Int} (h : (Lit.int .u8 n).wf = true) : 0 ≤ n ∧ n < 256 := by
  simp [Lit.wf, IntKind.min, IntKind.max, IntKind.bits, IntKind.signed] at h
  omega

theorem wf_i64 {n : Int} (h : (Lit.int .i64 n).wf = true) : -9223372036854775808 ≤ n ∧ n ≤ 9223372036854775807 := by
  simp [Lit.wf, IntKind.min, IntKind.max, IntKind.bits, IntKind.signed] at h
  omega

theorem bytes_of_row {w : World} {a : Option Addr} {len cap : Nat} {zs : List Int} (h : IsRow .u8 w a len cap zs) : ∃ l : List UInt8, l.length = len ∧ l.length ≤ maxLen ∧ Reads w (.slice a l.length cap) (B l) := by
  rcases h with ⟨rfl, rfl, rfl, rfl⟩ | ⟨x, rfl, h1, h2, h3, h4, h5⟩
  · exact ⟨[], rfl, Nat.zero_le _, none, 0, rfl, Nat.le_refl _, fun _ => rfl, fun _ h => by cases h⟩
  · have hl : ((zs.take len).map fun n => UInt8.ofNat n.toNat).length = len := by rw [List.length_map, List.length_take]; omega
    refine ⟨(zs.take len).map fun n => UInt8.ofNat n.toNat, hl, by rw [hl]; omega, some x, cap, by rw [B_length], by rw [B_length, hl]; exact h1, (fun h => by cases h), ?_⟩
    intro ad he j u hj
    cases he
    rw [B_get, List.getElem?_map, List.getElem?_take] at hj
    split at hj
    · rename_i hlt
      have hjz : j < zs.length := by omega
      rw [List.getElem?_eq_getElem hjz] at hj
      simp only [Option.map_some, Option.some.injEq] at hj
      rw [h4 j hjz, ← hj]
      have hw := wf_u8 (h5 zs[j] (List.getElem_mem hjz))
      have e1 : zs.getD j 0 = zs[j] := by rw [List.getD_eq_getElem?_getD, List.getElem?_eq_getElem hjz]; rfl
      rw [e1, UInt8.toNat_ofNat']
      congr 2
      omega
    · simp at hj
end Go.Proofs.YtinifnpajkldbaaDoor

/- What is known of operations, addresses and deltas that came in. -/
namespace Go.Proofs.YtinifnpajkldbaaDoor
open Go.ChangeShapes Go.WideShapes Go.ChangeAt Go.RowKit
set_option linter.unusedSimpArgs false
set_option linter.unusedVariables false

set_option maxRecDepth 100000 in
theorem field_at {H : Type} {enc : TypeId × Value → H} {W : World} {base : Nat} {sp : Nat → Bool} {held : Bool} {m : Nat} {fs : Array Field} {cs : List Value} {xs : List (DataW H × List MemPlace)}
    (hf : ∀ (i : Nat) (f : Field), fs[i]? = some f → DataW.trod enc Tryd.prog W base sp held m f.type ((cs.drop f.offset).take (Tryd.prog.cellsOf f.type)) = xs[i]?)
    (i : Nat) (t : TypeId) (o : Nat) (h : fs[i]?.map (fun f => (f.type, f.offset)) = some (t, o)) : DataW.trod enc Tryd.prog W base sp held m t ((cs.drop o).take (Tryd.prog.cellsOf t)) = xs[i]? := by
  cases hi : fs[i]? with
  | none => rw [hi] at h; cases h
  | some f =>
    rw [hi] at h
    simp only [Option.map_some, Option.some.injEq, Prod.mk.injEq] at h
    have := hf i f hi
    rw [h.1, h.2] at this
    exact this

theorem ba_of {s : ByteArray} (h : s.size ≤ maxLen) : s.size ≤ 9223372036854775807 := by unfold maxLen at h; omega

set_option maxRecDepth 100000 in
/-- A part's cells, read. -/
theorem open_comp {H : Type} {enc : TypeId × Value → H} {W : World} {base : Nat} {sp : Nat → Bool} {held : Bool} {n : Nat} {cs : List Value} {x : DataW H × List MemPlace}
    (h : DataW.trod enc Tryd.prog W base sp held n 62 cs = some x) : ∃ c : Cp, cs = c.vals ∧ c.s.size ≤ maxLen ∧ -9223372036854775808 ≤ c.n ∧ c.n ≤ 9223372036854775807 ∧ -9223372036854775808 ≤ c.k ∧ c.k ≤ 9223372036854775807 := by
  have hS : Tryd.prog.underlying 62 = some (.struct (Tryd.prog.fieldsOf 62)) := by kernel_rfl
  obtain ⟨xs, m, rfl, _, hl, hn, hf⟩ := DataW.trod_struct hS h
  have hl3 : cs.length = 3 := by rw [hl]; kernel_rfl
  have hx : xs.length = 3 := by rw [hn]; kernel_rfl
  match cs, hl3 with
  | [u0, u1, u2], _ =>
    have f0 := field_at hf 0 3 0 (by kernel_rfl)
    have f1 := field_at hf 1 3 1 (by kernel_rfl)
    have f2 := field_at hf 2 9 2 (by kernel_rfl)
    have c3 : Tryd.prog.cellsOf 3 = 1 := by kernel_rfl
    have c9 : Tryd.prog.cellsOf 9 = 1 := by kernel_rfl
    simp only [c3, c9, List.drop_zero, List.take_succ_cons, List.take_zero, List.drop_succ_cons] at f0 f1 f2
    rw [List.getElem?_eq_getElem (by omega)] at f0 f1 f2
    obtain ⟨k, e0, _, w0⟩ := DataW.trod_int Tryd.underlying3 f0
    obtain ⟨q, e1, _, w1⟩ := DataW.trod_int Tryd.underlying3 f1
    obtain ⟨s, e2, _, w2⟩ := DataW.trod_string Tryd.underlying9 f2
    simp only [List.cons.injEq, and_true] at e0 e1 e2
    subst e0 e1 e2
    have b0 := wf_i64 w0
    have b1 := wf_i64 w1
    exact ⟨⟨k, q, s⟩, rfl, w2, b1.1, b1.2, b0.1, b0.2⟩

/-- A slice of parts that came in. -/
def InOp (W : World) (v : Value) (o : List Cp) : Prop := RC W v o ∧ (∀ c ∈ o, c.s.size ≤ maxLen ∧ -9223372036854775808 ≤ c.n ∧ c.n ≤ 9223372036854775807 ∧ -9223372036854775808 ≤ c.k ∧ c.k ≤ 9223372036854775807) ∧ o.length ≤ maxLen

set_option maxRecDepth 100000 in
theorem open_comps {H : Type} {enc : TypeId × Value → H} {W : World} {base : Nat} {sp : Nat → Bool} {held : Bool} {n : Nat} {cs : List Value} {x : DataW H × List MemPlace}
    (h : DataW.trod enc Tryd.prog W base sp held n 28 cs = some x) : ∃ v o, cs = [v] ∧ InOp W v o := by
  rcases DataW.trod_slice Tryd.underlying28 h with ⟨rfl, _⟩ | ⟨a, len, cap, elems, rest, m, rfl, rfl, _, hb, hlc, hcm, hel, hi, _, _⟩
  · exact ⟨_, [], rfl, RC.nil _, fun c hc => by simp at hc, Nat.zero_le _⟩
  · have c3 : Tryd.prog.cellsOf 62 = 3 := by kernel_rfl
    rw [c3] at hi
    by_cases h0 : len = 0
    · subst h0
      exact ⟨_, [], rfl, .inl ⟨some a, cap, rfl, rfl, fun h => by cases h⟩, fun c hc => by simp at hc, Nat.zero_le _⟩
    · have hone : ∀ i, i < len → ∃ c : Cp, W.cells? base (a.add (i * 3)) 3 = some c.vals ∧ c.s.size ≤ maxLen ∧ -9223372036854775808 ≤ c.n ∧ c.n ≤ 9223372036854775807 ∧ -9223372036854775808 ≤ c.k ∧ c.k ≤ 9223372036854775807 := by
        intro i hlt
        have := hi i hlt
        rw [List.getElem?_eq_getElem (by omega)] at this
        obtain ⟨cs, h1, h2⟩ := Option.bind_eq_some_iff.1 this
        obtain ⟨c, rfl, h3⟩ := open_comp h2
        exact ⟨c, h1, h3⟩
      let f : Nat → Cp := fun i => if h : i < len then (hone i h).choose else ⟨0, 0, ⟨#[]⟩⟩
      have hf : ∀ i, i < len → W.cells? base (a.add (i * 3)) 3 = some (f i).vals ∧ (f i).s.size ≤ maxLen ∧ -9223372036854775808 ≤ (f i).n ∧ (f i).n ≤ 9223372036854775807 ∧ -9223372036854775808 ≤ (f i).k ∧ (f i).k ≤ 9223372036854775807 := by
        intro i hlt
        have := (hone i hlt).choose_spec
        simp only [f, hlt, dif_pos]
        exact this
      have hol : ((List.range len).map f).length = len := by simp
      have hget : ∀ j, ((List.range len).map f)[j]? = if j < len then some (f j) else none := by
        intro j
        rw [List.getElem?_map]
        by_cases hj : j < len
        · rw [List.getElem?_range hj, if_pos hj]; rfl
        · rw [List.getElem?_eq_none (by simpa using hj), if_neg hj]; rfl
      have hcell : ∀ i, i < len → ∀ j, j < 3 → W.cell? (a.add (i * 3 + j)) = (f i).vals[j]? := by
        intro i hlt j hj
        obtain ⟨h1, _⟩ := hf i hlt
        obtain ⟨_, _, h2⟩ := World.cells?_some h1
        have h3 := h2 j hj
        rwa [Addr.add_add] at h3
      obtain ⟨b, off, spd⟩ := a
      have hsp : spd = none ∧ b < W.heap.size := by
        have := hcell 0 (by omega) 0 (by omega)
        simp only [Cp.vals, List.getElem?_cons_zero, Nat.zero_mul, Nat.add_zero] at this
        cases spd with
        | none => exact ⟨rfl, by
            by_cases hlt : b < W.heap.size
            · exact hlt
            · simp [Addr.add, World.cell?, Array.getElem?_eq_none (Nat.le_of_not_lt hlt)] at this⟩
        | some z => simp [Addr.add, World.cell?] at this; split at this <;> simp at this
      obtain ⟨rfl, hbl⟩ := hsp
      refine ⟨_, (List.range len).map f, rfl, .inr ⟨b, off, cap, by rw [hol], by rw [hol]; exact hlc, ?_, hbl⟩, ?_, by rw [hol]; exact Nat.le_trans hlc hcm⟩
      · intro j u hj
        have hj3 : j < len * 3 := by have := (List.getElem?_eq_some_iff.1 hj).1; rw [C_length, hol] at this; exact this
        have hq : j / 3 < len := by omega
        have e1 := C_get ((List.range len).map f) (j / 3) (f (j / 3)) (by rw [hget, if_pos hq]) (j % 3)
        have e2 := hcell (j / 3) hq (j % 3) (by omega)
        rw [show j / 3 * 3 + j % 3 = j by omega, Addr.add_lit] at e2
        rw [show j / 3 * 3 + j % 3 = j by omega] at e1
        obtain ⟨u', hu'⟩ : ∃ u', (f (j / 3)).vals[j % 3]? = some u' := ⟨_, List.getElem?_eq_getElem (by simp [Cp.vals]; omega)⟩
        have e3 := e1 u' hu'
        rw [hj] at e3
        cases e3
        rw [e2, hu']
      · intro c hc
        obtain ⟨i, hi1, rfl⟩ := List.mem_map.1 hc
        exact (hf i (List.mem_range.1 hi1)).2

set_option maxRecDepth 100000 in
theorem open_op {H : Type} {enc : TypeId × Value → H} {W : World} {base b0 : Nat} {sp : Nat → Bool} {held : Bool} {r : Reach} {v : Value} {d : DataW H} {p : List MemPlace}
    (hv : Value.okWide Tryd.prog W r b0 28 v) (h : DataW.Trod enc Tryd.prog W base sp held 28 v d p) : ∃ o, InOp W v o := by
  obtain ⟨a, len, cap, rfl⟩ := okWide_slice Tryd.underlying28 hv
  obtain ⟨fuel, hf⟩ := h
  obtain ⟨v, o, h1, h2⟩ := open_comps hf
  simp [Value.cells] at h1
  subst h1
  exact ⟨o, h2⟩

set_option maxRecDepth 100000 in
theorem open_hashc {H : Type} {enc : TypeId × Value → H} {W : World} {base : Nat} {sp : Nat → Bool} {held : Bool} {n : Nat} {cs : List Value} {x : DataW H × List MemPlace}
    (h : DataW.trod enc Tryd.prog W base sp held n 26 cs = some x) : ∃ l : List UInt8, l.length = 32 ∧ cs = B l := by
  obtain ⟨xs, m, _, _, hl, hn, hel⟩ := DataW.trod_array Tryd.underlying26 h
  have hl' : cs.length = 32 := by rw [hl]; kernel_rfl
  have c1 : Tryd.prog.cellsOf 5 = 1 := by kernel_rfl
  refine ⟨cs.map fun v => match v with | .int _ n => UInt8.ofNat n.toNat | _ => 0, by simp [hl'], ?_⟩
  apply List.ext_getElem?
  intro i
  by_cases hi : i < 32
  · have := hel i hi
    rw [c1, Nat.mul_one] at this
    have hx : xs[i]? = some xs[i] := List.getElem?_eq_getElem (by omega)
    rw [hx] at this
    obtain ⟨n, e1, _, hw⟩ := DataW.trod_int Tryd.underlying5 this
    have hci : cs[i]? = some (.int .u8 n) := by
      have := congrArg (·[0]?) e1
      simpa [List.getElem?_take, List.getElem?_drop] using this
    have hb := wf_u8 hw
    simp only [B, List.map_map, List.getElem?_map, hci, Option.map_some, Function.comp]
    rw [UInt8.toNat_ofNat']
    congr 2
    omega
  · rw [List.getElem?_eq_none (by omega), List.getElem?_eq_none (by simp [B]; omega)]

set_option maxRecDepth 100000 in
theorem open_addrc {H : Type} {enc : TypeId × Value → H} {W : World} {base : Nat} {sp : Nat → Bool} {held : Bool} {n : Nat} {cs : List Value} {x : DataW H × List MemPlace}
    (h : DataW.trod enc Tryd.prog W base sp held n 24 cs = some x) : ∃ D U : Int, cs = [.int .i64 D, .int .i64 U] ∧ (Lit.int .i64 D).wf = true ∧ (Lit.int .i64 U).wf = true := by
  have hS : Tryd.prog.underlying 24 = some (.struct (Tryd.prog.fieldsOf 24)) := by kernel_rfl
  obtain ⟨xs, m, rfl, _, hl, hn, hf⟩ := DataW.trod_struct hS h
  have hl2 : cs.length = 2 := by rw [hl]; kernel_rfl
  have hx : xs.length = 2 := by rw [hn]; kernel_rfl
  match cs, hl2 with
  | [u0, u1], _ =>
    have f0 := field_at hf 0 3 0 (by kernel_rfl)
    have f1 := field_at hf 1 3 1 (by kernel_rfl)
    have c3 : Tryd.prog.cellsOf 3 = 1 := by kernel_rfl
    simp only [c3, List.drop_zero, List.take_succ_cons, List.take_zero, List.drop_succ_cons] at f0 f1
    rw [List.getElem?_eq_getElem (by omega)] at f0 f1
    obtain ⟨k, e0, _, w0⟩ := DataW.trod_int Tryd.underlying3 f0
    obtain ⟨q, e1, _, w1⟩ := DataW.trod_int Tryd.underlying3 f1
    simp only [List.cons.injEq, and_true] at e0 e1
    subst e0 e1
    exact ⟨k, q, rfl, w0, w1⟩

set_option maxRecDepth 100000 in
theorem open_addr {H : Type} {enc : TypeId × Value → H} {W : World} {base b0 : Nat} {sp : Nat → Bool} {held : Bool} {r : Reach} {v : Value} {d : DataW H} {p : List MemPlace}
    (hv : Value.okWide Tryd.prog W r b0 24 v) (h : DataW.Trod enc Tryd.prog W base sp held 24 v d p) : ∃ D U : Int, v = .agg #[.int .i64 D, .int .i64 U] ∧ (Lit.int .i64 D).wf = true ∧ (Lit.int .i64 U).wf = true := by
  have hu : Tryd.prog.underlying 24 = some (.struct (Tryd.prog.fieldsOf 24)) := by kernel_rfl
  simp only [Value.okWide, hu] at hv
  obtain ⟨cs, rfl, _, _⟩ := hv
  obtain ⟨fuel, hf⟩ := h
  obtain ⟨D, U, h1, h2, h3⟩ := open_addrc hf
  refine ⟨D, U, ?_, h2, h3⟩
  have h4 : cs.toList = [.int .i64 D, .int .i64 U] := h1
  congr 1
  exact Array.ext' h4

/-- The numbers of a delta that came in. -/
def Dl.Wf (d : Dl) : Prop := (Lit.int .i64 d.aD).wf = true ∧ (Lit.int .i64 d.aU).wf = true ∧ (Lit.int .i64 d.id).wf = true ∧ (Lit.int .i64 d.ver).wf = true ∧ (Lit.int .i64 d.k).wf = true ∧ (Lit.int .i64 d.wD).wf = true ∧ (Lit.int .i64 d.wU).wf = true

theorem take_split {α : Type} (cs : List α) (a b : Nat) : (cs.drop a).take b ++ cs.drop (a + b) = cs.drop a := by
  rw [← List.drop_drop, List.take_append_drop]

set_option maxRecDepth 100000 in
theorem open_delta {H : Type} {enc : TypeId × Value → H} {W : World} {base b0 : Nat} {sp : Nat → Bool} {held : Bool} {r : Reach} {v : Value} {d : DataW H} {p : List MemPlace}
    (hv : Value.okWide Tryd.prog W r b0 30 v) (h : DataW.Trod enc Tryd.prog W base sp held 30 v d p) : ∃ (e : Dl) (u : Value) (o : List Cp), v = .agg (e.cells u).toArray ∧ e.h.length = 32 ∧ InOp W u o ∧ e.Wf := by
  have hu : Tryd.prog.underlying 30 = some (.struct (Tryd.prog.fieldsOf 30)) := by kernel_rfl
  simp only [Value.okWide, hu] at hv
  obtain ⟨cs, rfl, _, _⟩ := hv
  obtain ⟨fuel, hf⟩ := h
  obtain ⟨xs, m, rfl, _, hl, hn, hel⟩ := DataW.trod_struct hu hf
  have hx : xs.length = 7 := by rw [hn]; kernel_rfl
  have hl2 : cs.toList.length = 40 := by
    have : (Value.agg cs).cells.toList.length = 40 := by rw [hl]; kernel_rfl
    exact this
  have c1 : Tryd.prog.cellsOf 3 = 1 := by kernel_rfl
  have c2 : Tryd.prog.cellsOf 24 = 2 := by kernel_rfl
  have c3 : Tryd.prog.cellsOf 26 = 32 := by kernel_rfl
  have c4 : Tryd.prog.cellsOf 28 = 1 := by kernel_rfl
  have f0 := field_at hel 0 24 0 (by kernel_rfl)
  have f1 := field_at hel 1 3 2 (by kernel_rfl)
  have f2 := field_at hel 2 3 3 (by kernel_rfl)
  have f3 := field_at hel 3 26 4 (by kernel_rfl)
  have f4 := field_at hel 4 3 36 (by kernel_rfl)
  have f5 := field_at hel 5 28 37 (by kernel_rfl)
  have f6 := field_at hel 6 24 38 (by kernel_rfl)
  have e0 : (Value.agg cs).cells.toList = cs.toList := rfl
  simp only [c1, c2, c3, c4, e0] at f0 f1 f2 f3 f4 f5 f6
  obtain ⟨l, hcl⟩ : ∃ l, cs.toList = l := ⟨_, rfl⟩
  rw [hcl] at hl2 f0 f1 f2 f3 f4 f5 f6
  rw [List.getElem?_eq_getElem (by omega)] at f0 f1 f2 f3 f4 f5 f6
  obtain ⟨aD, aU, g0, w0, w0'⟩ := open_addrc f0
  obtain ⟨id, g1, _, w1⟩ := DataW.trod_int Tryd.underlying3 f1
  obtain ⟨ver, g2, _, w2⟩ := DataW.trod_int Tryd.underlying3 f2
  obtain ⟨hs, hh, g3⟩ := open_hashc f3
  obtain ⟨k, g4, _, w4⟩ := DataW.trod_int Tryd.underlying3 f4
  obtain ⟨u, o, g5, ho⟩ := open_comps f5
  obtain ⟨wD, wU, g6, w6, w6'⟩ := open_addrc f6
  refine ⟨⟨aD, aU, id, ver, hs, k, wD, wU⟩, u, o, ?_, hh, ho, w0, w0', w1, w2, w4, w6, w6'⟩
  have s0 := take_split l 0 2
  have s1 := take_split l 2 1
  have s2 := take_split l 3 1
  have s3 := take_split l 4 32
  have s4 := take_split l 36 1
  have s5 := take_split l 37 1
  have s6 := take_split l 38 2
  have s7 : l.drop 40 = [] := List.drop_of_length_le (by omega)
  rw [g0] at s0
  rw [g1] at s1
  rw [g2] at s2
  rw [g3] at s3
  rw [g4] at s4
  rw [g5] at s5
  rw [g6, s7] at s6
  have e : l = ({ aD := aD, aU := aU, id := id, ver := ver, h := hs, k := k, wD := wD, wU := wU } : Dl).cells u := by
    rw [← List.drop_zero (l := l), ← s0, ← s1, ← s2, ← s3, ← s4, ← s5, ← s6, Dl.cells]
    simp
  rw [← e, ← hcl]
end Go.Proofs.YtinifnpajkldbaaDoor

/- The contracts of the laws' own Few (chapters 4 and 8). -/
namespace Go.Proofs.YtinifnpajkldbaaDoor
open Go.RowKit
set_option linter.unusedSimpArgs false
set_option linter.unusedVariables false

def fewL : List Cp → Bool
  | [] => true
  | c :: o => decide (c.s.size ≤ 150) && fewL o
def few4S (o : List Cp) : Bool := fewL o && decide (o.length ≤ 50)
theorem fewL_iff : ∀ (o : List Cp), fewL o = true ↔ ∀ c ∈ o, c.s.size ≤ 150
  | [] => by simp [fewL]
  | c :: o => by simp [fewL, fewL_iff o]
theorem few4_iff (o : List Cp) : few4S o = true ↔ FewS o := by
  simp only [few4S, Bool.and_eq_true, fewL_iff, decide_eq_true_eq, FewS]
  exact And.comm

set_option maxRecDepth 100000 in
set_option maxHeartbeats 1000000 in
theorem few4_any (v : Value) (o : List Cp) (w : World) (hv : InOp w v o) :
    Calls Tryd.prog 31 #[v] w fun e w' => e = .returned (.bool (few4S o)) ∧ w' = w := by
  obtain ⟨ao, cap, rfl⟩ := hv.1.form
  have HV := hid hv.1
  have HS := hid (show ∀ c ∈ o, c.s.size ≤ 9223372036854775807 from fun c hc => ba_of (hv.2.1 c hc).1)
  have hln : o.length ≤ 9223372036854775807 := by have := hv.2.2; unfold maxLen at this; omega
  clear hv
  go_enter Tryd.func31, Tryd.ntmps31
  go_wp2_with fail
  go_loopw [3] (fun i wr => ∃ j : Nat, j ≤ o.length ∧ i = .int .i64 j ∧ fewL (o.drop j) = fewL o ∧ wr = w) (fun i _ => o.length - (intOf i).toNat)
  case atStart => exact ⟨0, Nat.zero_le _, rfl, rfl, rfl⟩
  case round =>
    obtain ⟨j, hj, rfl, hx, hw⟩ := hrel
    subst wr
    have HX := hid hx
    clear hx
    by_cases hlt : j < o.length
    · have hlt' : (j : Int) < (o.length : Int) := by omega
      obtain ⟨c, hc⟩ : ∃ c, o[j]? = some c := ⟨_, List.getElem?_eq_getElem hlt⟩
      obtain ⟨g, off, cap', e, hcap, hr, hg⟩ := HV.out.place (by omega)
      injection e with e1 e2 e3
      subst e1 e3
      obtain ⟨c0, c1, c2⟩ := RC.cells hr hc
      have hsz := HS.out c (List.mem_of_getElem? hc)
      have HD := hid (show fewL (o.drop j) = (decide (c.s.size ≤ 150) && fewL (o.drop (j + 1))) by rw [drop_cons' o j c hc]; rfl)
      clear hr hc e2 c0 c1
      by_cases h150 : 150 < c.s.size
      · have HR := hid (show few4S o = false by rw [few4S, ← HX.out, HD.out, decide_eq_false (by omega)]; rfl)
        have h150' : (150 : Int) < (c.s.size : Int) := by omega
        go_wp2_with fail
        go_ret
        exact ⟨by rw [HR.out]; rfl, rfl⟩
      · have HN := hid (show fewL (o.drop (j + 1)) = fewL o by rw [← HX.out, HD.out, decide_eq_true (by omega)]; rfl)
        have h150' : ¬ (150 : Int) < (c.s.size : Int) := by omega
        go_wp2_with fail
        go_roundw
        case rel => exact ⟨j + 1, by omega, by go_num, HN.out, trivial⟩
        case measure => simp [intOf]; omega
    · have hj2 : j = o.length := by omega
      subst hj2
      have HR := hid (show few4S o = decide (o.length ≤ 50) by rw [few4S, ← HX.out, List.drop_length]; rfl)
      by_cases h50 : o.length ≤ 50
      · have h50' : (o.length : Int) ≤ 50 := by omega
        have HR2 := hid (show few4S o = true by rw [HR.out, decide_eq_true h50])
        go_wp2_with fail
        go_ret
        exact ⟨by rw [HR2.out]; rfl, rfl⟩
      · have h50' : ¬ (o.length : Int) ≤ 50 := by omega
        have HR2 := hid (show few4S o = false by rw [HR.out, decide_eq_false h50])
        go_wp2_with fail
        go_ret
        exact ⟨by rw [HR2.out]; rfl, rfl⟩

theorem InOp.later {w w' : World} {v : Value} {o : List Cp} (h : InOp w v o) (hb : Below w.heap.size w w') : InOp w' v o := ⟨h.1.later hb, h.2⟩

set_option maxRecDepth 100000 in
set_option maxHeartbeats 1000000 in
theorem few8_any (d : Dl) (hd : d.h.length = 32) (v : Value) (o : List Cp) (w : World) (hv : InOp w v o) :
    Calls Tryd.prog 9 #[.agg (d.cells v).toArray] w fun e w' => e = .returned (.bool (few4S o)) ∧ Below w.heap.size w w' := by
  obtain ⟨ao, cap, rfl⟩ := hv.1.form
  obtain ⟨cs, hcs⟩ : ∃ cs, d.cells (.slice ao o.length cap) = cs := ⟨_, rfl⟩
  rw [hcs]
  have HCS := hid hcs
  have HV := hid hv
  have HD := hid hd
  obtain ⟨L, hL⟩ : ∃ L, w.heap.size = L := ⟨_, rfl⟩
  clear hcs hv hd
  go_enter Tryd.func9, Tryd.ntmps9
  go_wp2_with ((show wpList _ _ _ (⟨some 1, Op.box _ _, _, _, _, _⟩ :: _) _ _; go_must (refine wpList_box_blk rfl 30 _ rfl cs rfl L hL ?_); intro w1 hB1 hb1 hs1; rw [← HCS.out] at hB1; have HW := hid (DW.mk HD.out hB1); obtain ⟨c0, c1, c2, c3, c36, c37, c38, c39⟩ := HW.out.cells; clear c0 c1 c2 c3 c36 c38 c39 hB1; replace hb1 := hid hb1))
  subst hL
  refine (few4_any _ o _ (HV.out.later hb1.out)).mono ?_
  rintro _ w2 ⟨rfl, hw2⟩
  rw [hw2]
  clear hw2
  obtain ⟨r, hr⟩ : ∃ r, few4S o = r := ⟨_, rfl⟩
  rw [hr]
  have HR := hid hr
  clear hr
  go_wp2_with fail
  go_ret
  exact ⟨by rw [HR.out]; rfl, hb1.out⟩
end Go.Proofs.YtinifnpajkldbaaDoor

/- An operation written in the one way, as a function of lists; of no program. -/
namespace Go.Proofs.YtinifnpajkldbaaDoor
set_option linter.unusedSimpArgs false
set_option linter.unusedVariables false

def Em : ByteArray := ⟨#[]⟩
def pK (n : Int) : Cp := ⟨1, n, Em⟩
def pP (s : ByteArray) : Cp := ⟨2, 0, s⟩
def pX (n : Int) : Cp := ⟨3, n, Em⟩

def pushK (n : Int) : List Cp → List Cp
  | [] => [pK n]
  | d :: r => if d.k = 1 then pK (n + d.n) :: r else pK n :: d :: r
def pushP (s : ByteArray) : List Cp → List Cp
  | [] => [pP s]
  | d :: r => if d.k = 2 then pP (s ++ d.s) :: r else pP s :: d :: r
/-- A Cut ahead of parts that begin with no Put. -/
def pushX0 (n : Int) : List Cp → List Cp
  | [] => [pX n]
  | d :: r => if d.k = 3 then pX (n + d.n) :: r else pX n :: d :: r
def pushX (n : Int) : List Cp → List Cp
  | [] => [pX n]
  | d :: r => if d.k = 2 then d :: pushX0 n r else pushX0 n (d :: r)
def push (c : Cp) (r : List Cp) : List Cp := if c.k = 1 then pushK c.n r else if c.k = 2 then pushP c.s r else pushX c.n r
/-- Normal. -/
def normS : List Cp → List Cp
  | [] => []
  | c :: o => push c (normS o)

theorem push_K {c : Cp} (h : c.k = 1) (r : List Cp) : push c r = pushK c.n r := by rw [push, if_pos h]
theorem push_P {c : Cp} (h : c.k = 2) (r : List Cp) : push c r = pushP c.s r := by rw [push, if_neg (by omega), if_pos h]
theorem push_X {c : Cp} (h : c.k = 3) (r : List Cp) : push c r = pushX c.n r := by rw [push, if_neg (by omega), if_neg (by omega)]

theorem ba_assoc (a b c : ByteArray) : (a ++ b) ++ c = a ++ (b ++ c) := ByteArray.append_assoc

theorem K_K (a b : Int) (r : List Cp) : pushK a (pushK b r) = pushK (a + b) r := by
  cases r with
  | nil => simp [pushK, pK]
  | cons d r =>
    by_cases h : d.k = 1
    · simp [pushK, pK, h, Int.add_assoc]
    · simp [pushK, pK, h]
theorem P_P (a b : ByteArray) (r : List Cp) : pushP a (pushP b r) = pushP (a ++ b) r := by
  cases r with
  | nil => simp [pushP, pP]
  | cons d r =>
    by_cases h : d.k = 2
    · simp [pushP, pP, h, ba_assoc]
    · simp [pushP, pP, h]
theorem X0_X0 (a b : Int) (r : List Cp) : pushX0 a (pushX0 b r) = pushX0 (a + b) r := by
  cases r with
  | nil => simp [pushX0, pX]
  | cons d r =>
    by_cases h : d.k = 3
    · simp [pushX0, pX, h, Int.add_assoc]
    · simp [pushX0, pX, h]
theorem X_of_X0 (a b : Int) (r : List Cp) : pushX a (pushX0 b r) = pushX0 a (pushX0 b r) := by
  cases r with
  | nil => simp [pushX, pushX0, pX]
  | cons d r =>
    by_cases h : d.k = 3
    · simp [pushX, pushX0, pX, h]
    · simp [pushX, pushX0, pX, h]
theorem X_X (a b : Int) (r : List Cp) : pushX a (pushX b r) = pushX (a + b) r := by
  cases r with
  | nil => simp [pushX, pushX0, pX]
  | cons d r =>
    by_cases h : d.k = 2
    · simp only [pushX, h, if_true, X0_X0]
    · have e1 : pushX b (d :: r) = pushX0 b (d :: r) := by simp only [pushX, h, if_false]
      have e2 : pushX (a + b) (d :: r) = pushX0 (a + b) (d :: r) := by simp only [pushX, h, if_false]
      rw [e1, e2, X_of_X0, X0_X0]
theorem X_P (n : Int) (s : ByteArray) (r : List Cp) : pushX n (pushP s r) = pushP s (pushX n r) := by
  cases r with
  | nil => simp [pushX, pushX0, pushP, pX, pP]
  | cons d r =>
    by_cases h : d.k = 2
    · simp [pushX, pushP, pP, h]
    · by_cases h3 : d.k = 3
      · simp [pushX, pushX0, pushP, pP, pX, h, h3]
      · simp [pushX, pushX0, pushP, pP, pX, h, h3]

/-- What r begins with is no Keep. -/
def NoK (r : List Cp) : Prop := ∀ d ∈ r.head?, d.k ≠ 1
/-- r is empty or begins with a Keep. -/
def IsK (r : List Cp) : Prop := ∀ d ∈ r.head?, d.k = 1

theorem NoK_P (s : ByteArray) (r : List Cp) : NoK (pushP s r) := by
  cases r with
  | nil => simp [NoK, pushP, pP]
  | cons d r => by_cases h : d.k = 2 <;> simp [NoK, pushP, pP, h]
theorem NoK_X (n : Int) (r : List Cp) : NoK (pushX n r) := by
  cases r with
  | nil => simp [NoK, pushX, pX]
  | cons d r =>
    by_cases h : d.k = 2
    · simp [NoK, pushX, h]
    · by_cases h3 : d.k = 3 <;> simp [NoK, pushX, pushX0, pX, h, h3]
theorem IsK_K (n : Int) (r : List Cp) : IsK (pushK n r) := by
  cases r with
  | nil => simp [IsK, pushK, pK]
  | cons d r => by_cases h : d.k = 1 <;> simp [IsK, pushK, pK, h]
theorem K_at {n : Int} {r : List Cp} (h : NoK r) : pushK n r = pK n :: r := by
  cases r with
  | nil => rfl
  | cons d r => simp [pushK, h d (by simp)]
theorem P_at {s : ByteArray} {r : List Cp} (h : IsK r) : pushP s r = pP s :: r := by
  cases r with
  | nil => rfl
  | cons d r => simp [pushP, h d (by simp)]
theorem X_at {n : Int} {r : List Cp} (h : IsK r) : pushX n r = pX n :: r := by
  cases r with
  | nil => rfl
  | cons d r => simp [pushX, pushX0, h d (by simp)]

theorem NoK_norm {o : List Cp} (h : Good o) (hh : NoK o) : NoK (normS o) := by
  cases o with
  | nil => exact hh
  | cons c o =>
    have hc := hh c (by simp)
    rcases (h c (by simp)).kind with hk | hk | hk
    · exact absurd hk hc
    · rw [normS, push_P hk]; exact NoK_P _ _
    · rw [normS, push_X hk]; exact NoK_X _ _

/-- All that is put, and that a run without a Keep is. -/
def putsL (l : List Cp) : List UInt8 := l.flatMap fun c => if c.k = 2 then c.s.data.toList else []
def changedS (l : List Cp) : List Cp := (if putsL l = [] then [] else [pP ⟨(putsL l).toArray⟩]) ++ (if inS l = 0 then [] else [pX (inS l)])
def keptS (l : List Cp) : List Cp := if l = [] then [] else [pK (inS l)]

theorem norm_append (a b : List Cp) : normS (a ++ b) = a.foldr push (normS b) := by
  induction a with
  | nil => rfl
  | cons c a ih => rw [List.cons_append, normS, ih]; rfl

theorem kept_norm (m r : List Cp) (hm : ∀ c ∈ m, c.k = 1) (hr : NoK r) : m.foldr push r = keptS m ++ r := by
  induction m with
  | nil => rfl
  | cons c m ih =>
    have hc := hm c (by simp)
    have ho : c.over = c.n := by rw [Cp.over, if_pos (.inl hc)]
    rw [List.foldr_cons, ih (fun d hd => hm d (by simp [hd])), push_K hc]
    by_cases h0 : m = []
    · subst h0
      rw [show keptS [] = [] from rfl, List.nil_append, K_at hr]
      simp [keptS, inS, ho]
    · rw [keptS, if_neg h0, keptS, if_neg (by simp)]
      simp only [List.cons_append, List.nil_append, pushK, pK, if_true, inS, ho]

theorem ba_mk (a b : List UInt8) : (⟨a.toArray⟩ : ByteArray) ++ ⟨b.toArray⟩ = ⟨(a ++ b).toArray⟩ := by
  apply ByteArray.ext; simp
theorem ba_eta (s : ByteArray) : (⟨s.data.toList.toArray⟩ : ByteArray) = s := by
  apply ByteArray.ext; simp

theorem changed_norm (l r : List Cp) (hg : Good l) (hl : ∀ c ∈ l, c.k ≠ 1) (hr : IsK r) : l.foldr push r = changedS l ++ r := by
  induction l with
  | nil => simp [changedS, putsL, inS]
  | cons c l ih =>
    have hc := hl c (by simp)
    have hok := hg c (by simp)
    have hg' : Good l := fun d hd => hg d (by simp [hd])
    have hn0 : 0 ≤ inS l := by
      clear ih hl
      induction l with
      | nil => simp [inS]
      | cons d l ih2 =>
        have := ih2 (fun e he => by rcases List.mem_cons.1 he with rfl | he; exact hok; exact hg e (by simp [he])) (fun e he => hg' e (by simp [he]))
        rcases hg' d (by simp) with ⟨h1, h2, _⟩ | ⟨h1, h2, _⟩
        · have : d.over = d.n := by rw [Cp.over, if_pos h1]
          simp only [inS]; omega
        · have : d.over = 0 := by rw [Cp.over, if_neg (by omega)]
          simp only [inS]; omega
    rw [List.foldr_cons, ih hg' (fun d hd => hl d (by simp [hd]))]
    rcases hok with ⟨hk, h1, _⟩ | ⟨hk, _, h1⟩
    · have hk3 : c.k = 3 := by omega
      have ho : c.over = c.n := by rw [Cp.over, if_pos hk]
      have hp : putsL (c :: l) = putsL l := by simp [putsL, hk3]
      have hne : c.n + inS l ≠ 0 := by omega
      rw [push_X hk3]
      unfold changedS
      rw [hp]
      simp only [inS, ho, if_neg hne]
      by_cases hpl : putsL l = []
      · simp only [if_pos hpl, List.nil_append]
        by_cases hz : inS l = 0
        · rw [if_pos hz, List.nil_append, X_at hr, hz]; simp
        · rw [if_neg hz]; simp [pushX, pushX0, pX]
      · simp only [if_neg hpl]
        by_cases hz : inS l = 0
        · rw [if_pos hz, hz, Int.add_zero, List.append_nil]
          have : pushX0 c.n r = pX c.n :: r := by
            cases r with
            | nil => rfl
            | cons d r => simp [pushX0, hr d (by simp)]
          simp [pushX, pP, this]
        · rw [if_neg hz]; simp [pushX, pushX0, pX, pP]
    · have ho : c.over = 0 := by rw [Cp.over, if_neg (by omega)]
      have hp : putsL (c :: l) = c.s.data.toList ++ putsL l := by simp [putsL, hk]
      have hne : c.s.data.toList ++ putsL l ≠ [] := by
        intro h
        have := congrArg List.length h
        simp at this
        have : c.s.size = 0 := by simp [ByteArray.size, this]
        omega
      rw [push_P hk]
      unfold changedS
      rw [hp]
      simp only [inS, ho, if_neg hne, Int.zero_add]
      by_cases hpl : putsL l = []
      · simp only [if_pos hpl, List.nil_append, hpl, List.append_nil, ba_eta]
        by_cases hz : inS l = 0
        · simp [hz, P_at hr]
        · simp [hz, pushP, pX]
      · simp only [if_neg hpl]
        simp only [List.cons_append, List.nil_append, pushP, pP, if_true]
        rw [← ba_mk, ba_eta]
end Go.Proofs.YtinifnpajkldbaaDoor
